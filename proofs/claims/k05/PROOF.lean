import PyProof.Rows.All
import Wide.All
import OpenK.AllK
import Wide.FinOn
import Lean
import PyProof.EqAt
import PyProof.EqKinds
import PyProof.TupleCall
import PySem.SetOps
import PyProof.SetKind
import PyProof.TupleKey
import PyProof.DictKinds
import PyProof.Rows.SetFrom
import PyProof.WalksMore
import KE.KSortTup
import PyProof.CollectWalk
import PyProof.Rows.FStr
import PyProof.Rows.StrWeight2
import PyProof.Rows.StrNews
import PyProof.StrLawsTight
import PySem.Challenge.RW_rowsorder_k05_orders_written
set_option Elab.async false
set_option linter.all false
set_option maxRecDepth 100000
section
set_option Elab.async false
set_option linter.all false
set_option maxRecDepth 100000
/-! THE HAND LAYER, for ints, bools, texts, own classes, LISTS and tuples (index, slices, in, append, pop ..), calls, loops. Paste it whole ahead of your own text; what your proof does not reach may be deleted. -/
namespace L2
open PySem PySem.Spec PyProof.Rows

/-- a key: an int or a str -/
abbrev Key := Sum Int Str
def keyIs : Key → Value → Bool
  | .inl k, v => Value.isInt k v
  | .inr x, v => Value.isStrOf x v
def keyH (w : World) : Key → Int
  | .inl k => hashInt k
  | .inr x => hashStr w x
theorem keyIs_shape : ∀ {k : Key} {v : Value}, keyIs k v = true → (∃ i t, k = Sum.inl i ∧ v = Value.int i t) ∨ (∃ x t, k = Sum.inr x ∧ v = Value.str x t)
  | .inl i, v, h => by
    obtain ⟨t, e⟩ := Value.isInt_shape (k := i) (v := v) h
    exact .inl ⟨i, t, rfl, e⟩
  | .inr x, v, h => by
    obtain ⟨t, e⟩ := Value.isStrOf_shape (x := x) (v := v) h
    exact .inr ⟨x, t, rfl, e⟩
theorem keyIs_int (i : Int) (t : Tok) : keyIs (.inl i) (.int i t) = true := by simp [keyIs, Value.isInt]
theorem keyIs_str (x : Str) (t : Tok) : keyIs (.inr x) (.str x t) = true := by simp [keyIs, Value.isStrOf]
theorem key_ll (a b : Int) : decide ((Sum.inl a : Key) = Sum.inl b) = (a == b) := by
  by_cases e : a = b
  · subst e; simp
  · have h : ¬ (Sum.inl a : Key) = Sum.inl b := fun q => e (Sum.inl.inj q)
    rw [decide_eq_false h]
    exact (beq_eq_false_iff_ne.mpr e).symm
theorem key_rr (a b : Str) : decide ((Sum.inr a : Key) = Sum.inr b) = decide (a = b) := by
  by_cases e : a = b
  · subst e; simp
  · have h : ¬ (Sum.inr a : Key) = Sum.inr b := fun q => e (Sum.inr.inj q)
    rw [decide_eq_false h, decide_eq_false e]
theorem key_lr (a : Int) (b : Str) : decide ((Sum.inl a : Key) = Sum.inr b) = false := decide_eq_false (fun q => nomatch q)
theorem key_rl (a : Str) (b : Int) : decide ((Sum.inr a : Key) = Sum.inl b) = false := decide_eq_false (fun q => nomatch q)

def mixKind (prog : Program) (w : World) : PySem.KeyKind prog w Key where
  is := keyIs
  hash := keyH w
  inj := fun v a b ha hb => by
    rcases keyIs_shape ha with ⟨i, t, rfl, rfl⟩ | ⟨x, t, rfl, rfl⟩
    · rcases keyIs_shape hb with ⟨j, u, rfl, e⟩ | ⟨y, u, rfl, e⟩
      · injection e with e1 _; rw [e1]
      · exact nomatch e
    · rcases keyIs_shape hb with ⟨j, u, rfl, e⟩ | ⟨y, u, rfl, e⟩
      · exact nomatch e
      · injection e with e1 _; rw [e1]
  byValue := fun k v h => by
    rcases keyIs_shape h with ⟨i, t, rfl, rfl⟩ | ⟨x, t, rfl, rfl⟩ <;> rfl
  pyHash := fun hv h => by
    rcases keyIs_shape hv with ⟨i, t, rfl, rfl⟩ | ⟨x, t, rfl, rfl⟩
    · exact wpAny_pyHash_int h
    · exact wpAny_pyHash_str h
  eqBool := fun hu hv h => by
    rcases keyIs_shape hu with ⟨i, t, rfl, rfl⟩ | ⟨x, t, rfl, rfl⟩
    · rcases keyIs_shape hv with ⟨j, u, rfl, rfl⟩ | ⟨y, u, rfl, rfl⟩
      · rw [key_ll] at h; exact wpAny_eqBool_int h
      · rw [key_lr] at h; exact SeqAt.EqAt.int_str i t y u _ _ _ _ h
    · rcases keyIs_shape hv with ⟨j, u, rfl, rfl⟩ | ⟨y, u, rfl, rfl⟩
      · rw [key_rl] at h; exact SeqAt.EqAt.str_int x t j u _ _ _ _ h
      · rw [key_rr] at h; exact wpAny_eqBool_str h
  «strs» := fun k x t v h => by
    rcases keyIs_shape h with ⟨i, u, rfl, e⟩ | ⟨y, u, rfl, e⟩
    · exact nomatch e
    · injection e with e1 _
      subst e1
      cases v <;> rfl

theorem mixKind_is (prog : Program) (w : World) (k : Key) (v : Value) : (mixKind prog w).is k v = keyIs k v := rfl
theorem mixKind_int (prog : Program) (w : World) (i : Int) (t : Tok) : (mixKind prog w).is (.inl i) (.int i t) = true := keyIs_int i t
theorem mixKind_str (prog : Program) (w : World) (x : Str) (t : Tok) : (mixKind prog w).is (.inr x) (.str x t) = true := keyIs_str x t
end L2

namespace L2
open PySem PySem.Spec PyProof.Rows

/-- a value, without the heap -/
inductive V where
  | non | bl (b : Bool) | int (i : Int) | str (x : Str) | byt (b : Array UInt8) | flt (b : UInt64) | ref (a : Addr) | ty (n : String)
  deriving DecidableEq

def RelV : V → Value → Prop
  | .non, u => u = Value.none
  | .bl b, u => u = Value.bool b
  | .int i, u => ∃ t, u = Value.int i t
  | .str x, u => ∃ t, u = Value.str x t
  | .byt b, u => ∃ t, u = Value.bytes b t
  | .flt b, u => ∃ t, u = Value.float b t
  | .ref a, u => u = Value.ref a
  | .ty n, u => u = Value.type n

abbrev Vals : List V → List Value → Prop := Paired RelV
theorem Vals.length {xs : List V} {us : List Value} (r : Vals xs us) : xs.length = us.length := Paired.length r
theorem Vals.get : ∀ {xs : List V} {us : List Value} {i : Nat} {x : V}, Vals xs us → xs[i]? = some x → ∃ u, us[i]? = some u ∧ RelV x u
  | _, _, _, _, .nil, e => by simp at e
  | _, _, 0, _, .cons r _, e => by simp at e; subst e; exact ⟨_, rfl, r⟩
  | _, _, i + 1, x, .cons _ t, e => by
    obtain ⟨u, h1, h2⟩ := Vals.get (i := i) (x := x) t (by simpa using e)
    exact ⟨u, by simpa using h1, h2⟩
theorem Vals.set {x : V} {u : Value} (r : RelV x u) : ∀ {xs : List V} {us : List Value} (i : Nat), Vals xs us → Vals (xs.set i x) (us.set i u)
  | _, _, _, .nil => .nil
  | _, _, 0, .cons _ t => .cons r t
  | _, _, i + 1, .cons q t => .cons q (Vals.set r i t)
theorem Vals.append : ∀ {xs ys : List V} {us ws : List Value}, Vals xs us → Vals ys ws → Vals (xs ++ ys) (us ++ ws)
  | _, _, _, _, .nil, s => s
  | _, _, _, _, .cons r t, s => .cons r (Vals.append t s)
theorem Vals.take : ∀ {xs : List V} {us : List Value} (n : Nat), Vals xs us → Vals (xs.take n) (us.take n)
  | _, _, 0, _ => .nil
  | _, _, _ + 1, .nil => .nil
  | _, _, n + 1, .cons r t => .cons r (Vals.take n t)
theorem Vals.drop : ∀ {xs : List V} {us : List Value} (n : Nat), Vals xs us → Vals (xs.drop n) (us.drop n)
  | _, _, 0, r => r
  | _, _, _ + 1, .nil => .nil
  | _, _, n + 1, .cons _ t => Vals.drop n t
theorem Vals.none_of : ∀ {xs : List V} {us : List Value} {i : Nat}, Vals xs us → xs[i]? = none → us[i]? = none := fun {xs us i} r e => by
  have h1 := r.length
  have h2 : xs.length ≤ i := List.getElem?_eq_none_iff.mp e
  exact List.getElem?_eq_none_iff.mpr (by omega)

def RelO : Option V → Option Value → Prop
  | some v, some u => RelV v u
  | none, none => True
  | _, _ => False
def KV {κ : Type} : List (κ × V) → List (κ × Value) → Prop := Paired fun (p : κ × V) (q : κ × Value) => p.1 = q.1 ∧ RelV p.2 q.2

/-- a key of a dict (00_mix): an int or a text -/
def kV : Key → V
  | .inl i => .int i
  | .inr x => .str x

/-- what stands at a tracked address -/
inductive HO where
  /-- a list -/
  | lst (xs : List V)
  /-- a tuple (never changes) -/
  | tup (xs : List V)
  /-- a dict whose keys are ints and texts; one whose keys are tuples of ints and texts (the empty one is both) -/
  | dK (kvs : List (Key × V)) | dT (kvs : List (List Key × V))
  /-- a set of ints: its members, its size -/
  | set (S : Int → Bool) (n : Nat)
  /-- an instance of the class at C, its dict at dx, its attributes -/
  | ins (C dx : Addr) (fs : List (Str × V))
  /-- the dict of the instance at x -/
  | own (x : Addr)
  /-- the dict of an exception -/
  | xd (fs : List (Str × V))
  /-- a bound method, f of x -/
  | met (f x : Addr)
  /-- a range object lo, lo + 1, .. below hi -/
  | rng (lo hi : Int)
  /-- a thing that is known to the object (the script; a dict while a loop walks it): read, never written while it is so -/
  | frz (o : Obj) (u : HO)
  /-- a code object's table -/
  | tbl (ps : Array Value)
  /-- any other thing, by what is true of its one object (a def of one's own: SetO a S n := HO.ext fun h => ..) -/
  | ext (φ : Heap → Prop)

abbrev Hp := Addr → Option HO
def upd (H : Hp) (a : Addr) (o : HO) : Hp := fun b => if b = a then some o else H b
theorem upd_same {H : Hp} {a : Addr} {o : HO} : upd H a o a = some o := by unfold upd; rw [if_pos rfl]
theorem upd_ne {H : Hp} {a b : Addr} {o : HO} (h : b ≠ a) : upd H a o b = H b := by unfold upd; rw [if_neg h]
theorem upd_upd {H : Hp} {a : Addr} {o u : HO} : upd (upd H a o) a u = upd H a u := by
  funext b; unfold upd; split <;> rfl
/-- two objects of different content stand apart -/
theorem ne_of {H : Hp} {a b : Addr} {o u : HO} (h : H a = some o) (h' : H b = some u) (d : o ≠ u) : a ≠ b := by
  intro e; subst e; rw [h] at h'; exact d (Option.some.inj h')
theorem ne_of_none {H : Hp} {a b : Addr} {o : HO} (h : H a = some o) (h' : H b = none) : a ≠ b := by
  intro e; subst e; rw [h] at h'; cases h'

section
variable (P : Program) (w : World)
def ObjOk (H : Hp) (h : Heap) (a : Addr) : HO → Prop
  | .lst xs => xs.length ≤ sizeLine ∧ ∃ (its : List Value) (n : Nat), Vals xs its ∧ h.get? a = some { cls := .type "list", data := .seq its.toArray n }
  | .tup xs => xs.length ≤ sizeLine ∧ ∃ its : List Value, Vals xs its ∧ IsTup h a its.toArray
  | .dK kvs => kvs.length ≤ sizeLine ∧ (a == sysModules) = false ∧ ∃ vs, KV kvs vs ∧ h.DictOf (mixKind P w) a vs
  | .dT kvs => kvs.length ≤ sizeLine ∧ (a == sysModules) = false ∧ ∃ xs : List (List Key × Addr × Value),
      Paired (fun (p : List Key × V) (q : List Key × Addr × Value) => p.1 = q.1 ∧ H q.2.1 = some (.tup (p.1.map kV)) ∧ RelV p.2 q.2.2) kvs xs ∧
      ∃ o es ep, h.get? a = some o ∧ o.ExactDict ∧ o.data = .dict es ep ∧ es.toList = xs.map (entryOfKey (tupleKind (mixKind P w))) ∧ (xs.map (·.1)).Nodup
  | .set S n => h.SetOf (intKind P w) a S n
  | .ins C dx fs => H dx = some (.own a) ∧ fs.length ≤ 1000 ∧ dx ≠ a ∧ h.get? a = some (PySem.W.instObj C dx) ∧
      ∃ mA, h.Ns1 dx mA ∧ (∀ f, RelO (fs.lookup f) (mA f)) ∧ PySem.Within mA (fs.map (·.1))
  | .own _ => ∃ o, h.get? a = some o
  | .xd fs => ∃ mA, h.Ns1 a mA ∧ ∀ f, RelO (fs.lookup f) (mA f)
  | .rng lo hi => ∃ t u v, h.get? a = some { cls := .type "range", data := .fields #[.int lo t, .int hi u, .int 1 v] }
  | .frz o u => h.get? a = some o ∧ ObjOk H h a u
  | .tbl ps => h.get? a = some { cls := .none, data := .fields ps }
  | .met f x => h.get? a = some (PySem.W.methodObj (.ref f) (.ref x))
  | .ext φ => φ h ∧ (∃ o, h.get? a = some o) ∧ ∀ h1 h2 : Heap, φ h1 → (∀ o, h1.get? a = some o → h2.get? a = some o) → φ h2
/-- the abstract heap is held -/
def HOk (H : Hp) (h : Heap) : Prop := ∀ a o, H a = some o → ObjOk P w H h a o
end

section
variable {P : Program} {w : World} {H H' : Hp} {h h' : Heap} {a : Addr} {o : HO}
theorem ObjOk.lt (x : ObjOk P w H h a o) : a < h.objs.size := by
  cases o with
  | lst xs => obtain ⟨_, _, _, _, e⟩ := x; exact Heap.lt_size e
  | tup xs => obtain ⟨_, _, _, p⟩ := x; exact p.lt
  | dK kvs => obtain ⟨_, _, _, _, o, _, _, e, _⟩ := x; exact Heap.lt_size e
  | dT kvs => obtain ⟨_, _, _, _, o, _, _, e, _⟩ := x; exact Heap.lt_size e
  | set S n => obtain ⟨o, _, _, _, e, _⟩ := x; exact Heap.lt_size e
  | ins C dx fs => obtain ⟨_, _, _, e, _⟩ := x; exact Heap.lt_size e
  | own y => obtain ⟨_, e⟩ := x; exact Heap.lt_size e
  | xd fs => obtain ⟨_, ⟨_, _, _, e, _⟩, _⟩ := x; exact Heap.lt_size e
  | rng lo hi => obtain ⟨_, _, _, e⟩ := x; exact Heap.lt_size e
  | frz ob u => obtain ⟨e, _⟩ := x; exact Heap.lt_size e
  | tbl ps => exact Heap.lt_size (show h.get? a = some _ from x)
  | met f y => exact Heap.lt_size (show h.get? a = some _ from x)
  | ext φ => obtain ⟨_, ⟨_, e⟩, _⟩ := x; exact Heap.lt_size e
theorem Paired.mapP {α β : Type} {F G : α → β → Prop} : ∀ {l₁ : List α} {l₂ : List β}, Paired F l₁ l₂ → (∀ a b, F a b → G a b) → Paired G l₁ l₂
  | _, _, .nil, _ => .nil
  | _, _, .cons r t, f => .cons (f _ _ r) (Paired.mapP t f)
theorem Paired.imp' {α β : Type} {F G : α → β → Prop} (f : ∀ a b, F a b → G a b) {l₁ : List α} {l₂ : List β} (r : Paired F l₁ l₂) : Paired G l₁ l₂ := Paired.mapP r f
/-- what an object's description leans on: its own object, its own dict, the tuples -/
theorem ObjOk.stay (x : ObjOk P w H h a o) (k : ∀ b u, (b = a ∨ H b = some (.own a)) → h.get? b = some u → h'.get? b = some u)
    (ho : ∀ b, H b = some (.own a) → H' b = some (.own a)) (ht : ∀ b xs, H b = some (.tup xs) → H' b = some (.tup xs)) : ObjOk P w H' h' a o := by
  induction o with
  | lst xs => obtain ⟨z, its, n, r, e⟩ := x; exact ⟨z, its, n, r, k _ _ (.inl rfl) e⟩
  | tup xs => obtain ⟨z, its, r, ob, e, c⟩ := x; exact ⟨z, its, r, ob, k _ _ (.inl rfl) e, c⟩
  | dK kvs => obtain ⟨z, y, vs, r, ob, es, ep, e, c⟩ := x; exact ⟨z, y, vs, r, ob, es, ep, k _ _ (.inl rfl) e, c⟩
  | dT kvs =>
    obtain ⟨z, y, xs, r, ob, es, ep, e, c⟩ := x
    exact ⟨z, y, xs, Paired.mapP r fun p q z => ⟨z.1, ht _ _ z.2.1, z.2.2⟩, ob, es, ep, k _ _ (.inl rfl) e, c⟩
  | set S n => obtain ⟨ob, es, ep, t, e, c⟩ := x; exact ⟨ob, es, ep, t, k _ _ (.inl rfl) e, c⟩
  | ins C dx fs =>
    obtain ⟨d, z, ne, e, mA, ⟨od, es, ep, e2, c⟩, r⟩ := x
    exact ⟨ho _ d, z, ne, k _ _ (.inl rfl) e, mA, ⟨od, es, ep, k _ _ (.inr d) e2, c⟩, r⟩
  | own y => obtain ⟨ob, e⟩ := x; exact ⟨ob, k _ _ (.inl rfl) e⟩
  | xd fs => obtain ⟨mA, ⟨od, es, ep, e, c⟩, r⟩ := x; exact ⟨mA, ⟨od, es, ep, k _ _ (.inl rfl) e, c⟩, r⟩
  | rng lo hi => obtain ⟨t, u, v, e⟩ := x; exact ⟨t, u, v, k _ _ (.inl rfl) e⟩
  | frz ob u ih => obtain ⟨e, q⟩ := x; exact ⟨k _ _ (.inl rfl) e, ih q⟩
  | tbl ps =>
    have e : h.get? a = some { cls := .none, data := .fields ps } := x
    show h'.get? a = some { cls := .none, data := .fields ps }
    exact k a _ (.inl rfl) e
  | met f y =>
    have e : h.get? a = some (PySem.W.methodObj (.ref f) (.ref y)) := x
    show h'.get? a = some (PySem.W.methodObj (.ref f) (.ref y))
    exact k a _ (.inl rfl) e
  | ext φ => obtain ⟨p, ⟨o, e⟩, st⟩ := x; exact ⟨st _ _ p fun o q => k _ _ (.inl rfl) q, ⟨o, k _ _ (.inl rfl) e⟩, st⟩
theorem HOk.lt (x : HOk P w H h) (e : H a = some o) : a < h.objs.size := (x a o e).lt
theorem HOk.fresh (x : HOk P w H h) (e : h.objs.size ≤ a) : H a = none := by
  cases q : H a with
  | none => rfl
  | some u => exact absurd (Nat.lt_of_lt_of_le (x.lt q) e) (Nat.lt_irrefl _)
/-- every object of the heap is kept -/
theorem HOk.kept (x : HOk P w H h) (k : ∀ b u, h.get? b = some u → h'.get? b = some u) : HOk P w H h' := fun a o e =>
  (x a o e).stay (fun b u _ q => k b u q) (fun _ q => q) fun _ _ q => q
/-- a new object is laid and tracked -/
theorem HOk.laid (x : HOk P w H h) (k : ∀ b u, h.get? b = some u → h'.get? b = some u) (hp : h.objs.size ≤ a) (new : ObjOk P w (upd H a o) h' a o) : HOk P w (upd H a o) h' := fun b u e => by
  have hn := x.fresh hp
  by_cases hb : b = a
  · subst hb; rw [upd_same] at e; cases e; exact new
  · rw [upd_ne hb] at e
    exact (x b u e).stay (fun c v _ q => k c v q) (fun c q => by rw [upd_ne (ne_of_none q hn)]; exact q) fun c xs q => by rw [upd_ne (ne_of_none q hn)]; exact q
end

/-- what may be read as u: it is u, or a known u -/
def Rd (H : Hp) (a : Addr) (u : HO) : Prop := H a = some u ∨ ∃ o, H a = some (.frz o u)
theorem Rd.of {H : Hp} {a : Addr} {u : HO} (h : H a = some u) : Rd H a u := .inl h
theorem Rd.ok {P : Program} {w : World} {H : Hp} {h : Heap} {a : Addr} {u : HO} (r : Rd H a u) (x : HOk P w H h) : ObjOk P w H h a u := by
  rcases r with r | ⟨o, r⟩
  · exact x a u r
  · obtain ⟨_, q⟩ := x a _ r
    exact q
/-- what may be written -/
def Mut : Option HO → Prop
  | some (.lst _) => True
  | some (.dK _) => True
  | some (.dT _) => True
  | some (.set _ _) => True
  | some (.ins _ _ _) => True
  | some (.ext _) => True
  | _ => False
section
variable {P : Program} {w : World} {H : Hp} {h h' : Heap} {x e : Addr} {o' : HO}
/-- the object at e is changed: x itself, or the dict of the instance x -/
theorem HOk.write (ok : HOk P w H h) (mu : Mut (H x)) (he : e = x ∨ H e = some (.own x)) (k : ∀ b u, b ≠ e → h.get? b = some u → h'.get? b = some u) (heo : ∃ u, h'.get? e = some u)
    (new : ObjOk P w (upd H x o') h' x o') : HOk P w (upd H x o') h' := fun b u q => by
  have nown : ∀ c y, H c = some (.own y) → c ≠ x := fun c y r z => by subst z; rw [r] at mu; exact mu
  have ntup : ∀ c xs, H c = some (.tup xs) → c ≠ x := fun c xs r z => by subst z; rw [r] at mu; exact mu
  by_cases hb : b = x
  · subst hb; rw [upd_same] at q; cases q; exact new
  · rw [upd_ne hb] at q
    by_cases hbe : b = e
    · have q' : H b = some (.own x) := by
        rcases he with z | z
        · exact absurd (hbe.trans z) hb
        · rw [hbe]; exact z
      rw [q] at q'; cases q'
      obtain ⟨v, hv⟩ := heo
      exact ⟨v, by rw [hbe]; exact hv⟩
    · refine (ok b u q).stay (fun c v hc r => k c v ?_ r) (fun c r => by rw [upd_ne (nown c b r)]; exact r) fun c xs r => by rw [upd_ne (ntup c xs r)]; exact r
      rcases hc with rfl | hc
      · exact hbe
      · rintro rfl
        rcases he with z | z
        · exact nown c b hc z
        · rw [hc] at z; cases z; exact hb rfl
end

/-! ### kept unless tracked; of the frames at fs (the callers') the slots may change (an exception that passes writes there); of the records at ex (iterators) nothing is said -/
structure Un (fs ex : List Addr) (H H' : Hp) (h h' : Heap) : Prop where
  keep : ∀ b o, h.get? b = some o → H b = none → b ∉ fs → b ∉ ex → h'.get? b = some o
  slot : ∀ b o, h.get? b = some o → H b = none → b ∈ fs → b ∉ ex → ∃ sl, h'.get? b = some { o with slots := sl }
  free : ∀ b o, h.get? b = some o → H b = none → b ∉ ex → H' b = none
  there : ∀ b o, h.get? b = some o → b ∉ ex → ∃ o', h'.get? b = some o'
  tups : ∀ b xs, H b = some (.tup xs) → H' b = some (.tup xs)
  frzs : ∀ b o u, H b = some (.frz o u) → H' b = some (.frz o u)
  tbls : ∀ b ps, H b = some (.tbl ps) → ∃ more, H' b = some (.tbl (ps ++ more))
section
variable {fs fs' ex ex' : List Addr} {H H1 H2 : Hp} {h h1 h2 h' : Heap} {a x e : Addr} {o : HO}
theorem Un.any (u : Un fs ex H H1 h h1) {b : Addr} {ob : Obj} (q : h.get? b = some ob) (n : H b = none) (hx : b ∉ ex) : ∃ sl, h1.get? b = some { ob with slots := sl } := by
  by_cases hb : b ∈ fs
  · exact u.slot b ob q n hb hx
  · exact ⟨ob.slots, u.keep b ob q n hb hx⟩
theorem Un.trans (a : Un fs ex H H1 h h1) (b : Un fs ex H1 H2 h1 h2) : Un fs ex H H2 h h2 where
  keep := fun c ob q n hc hx => b.keep c ob (a.keep c ob q n hc hx) (a.free c ob q n hx) hc hx
  slot := fun c ob q n hc hx => by
    obtain ⟨sl, e1⟩ := a.slot c ob q n hc hx
    obtain ⟨sl', e2⟩ := b.slot c _ e1 (a.free c ob q n hx) hc hx
    exact ⟨sl', e2⟩
  free := fun c ob q n hx => by
    obtain ⟨o', e1⟩ := a.there c ob q hx
    exact b.free c o' e1 (a.free c ob q n hx) hx
  there := fun c ob q hx => by
    obtain ⟨o', e1⟩ := a.there c ob q hx
    exact b.there c o' e1 hx
  tups := fun c xs q => b.tups c xs (a.tups c xs q)
  frzs := fun c ob xs q => b.frzs c ob xs (a.frzs c ob xs q)
  tbls := fun c ps q => by
    obtain ⟨m1, e1⟩ := a.tbls c ps q
    obtain ⟨m2, e2⟩ := b.tbls c _ e1
    exact ⟨m1 ++ m2, by rw [e2, Array.append_assoc]⟩
theorem Un.kept (k : ∀ b u, h.get? b = some u → h'.get? b = some u) : Un fs ex H H h h' :=
  ⟨fun b ob q _ _ _ => k b ob q, fun b ob q _ _ _ => ⟨ob.slots, k b ob q⟩, fun _ _ _ n _ => n, fun b ob q _ => ⟨ob, k b ob q⟩, fun _ _ q => q, fun _ _ _ q => q, fun _ ps q => ⟨#[], by rw [q]; simp⟩⟩
theorem Un.refl : Un fs ex H H h h := Un.kept fun _ _ q => q
theorem Un.laid (k : ∀ b u, h.get? b = some u → h'.get? b = some u) (hp : h.objs.size ≤ a) (hn : H a = none) : Un fs ex H (upd H a o) h h' where
  keep := fun b u q _ _ _ => k b u q
  slot := fun b u q _ _ _ => ⟨u.slots, k b u q⟩
  free := fun b u q n _ => by rw [upd_ne (Nat.ne_of_lt (Nat.lt_of_lt_of_le (Heap.lt_size q) hp))]; exact n
  there := fun b u q _ => ⟨u, k b u q⟩
  tups := fun b xs q => by rw [upd_ne (ne_of_none q hn)]; exact q
  frzs := fun b u xs q => by rw [upd_ne (ne_of_none q hn)]; exact q
  tbls := fun b ps q => ⟨#[], by rw [upd_ne (ne_of_none q hn), q]; simp⟩
theorem Un.write (mu : Mut (H x)) (he : e = x ∨ H e = some (.own x)) (k : ∀ b u, b ≠ e → h.get? b = some u → h'.get? b = some u) (heo : ∃ u, h'.get? e = some u) : Un fs ex H (upd H x o) h h' := by
  have hx : ∀ b, H b = none → b ≠ x := fun b n z => by subst z; rw [n] at mu; exact mu
  have hb : ∀ b, H b = none → b ≠ e := fun b n z => by
    subst z
    rcases he with r | r
    · exact hx b n r
    · rw [n] at r; cases r
  have hm : ∀ b u, H b = some u → ¬ Mut (some u) → b ≠ x := fun b u q nm z => by subst z; rw [q] at mu; exact nm mu
  refine ⟨fun b u q n _ _ => k b u (hb b n) q, fun b u q n _ _ => ⟨u.slots, k b u (hb b n) q⟩, fun b u q n _ => by rw [upd_ne (hx b n)]; exact n, fun b u q _ => ?_,
    fun b xs q => by rw [upd_ne (hm b _ q fun z => z)]; exact q, fun b u xs q => by rw [upd_ne (hm b _ q fun z => z)]; exact q, fun b ps q => ⟨#[], by rw [upd_ne (hm b _ q fun z => z), q]; simp⟩⟩
  by_cases hbe : b = e
  · subst hbe; exact heo
  · exact ⟨u, k b u hbe q⟩
theorem Un.mono (u : Un fs ex H H1 h h1) (hs : ∀ b ∈ fs, b ∈ fs') (hx : ∀ b ∈ ex, b ∈ ex') : Un fs' ex' H H1 h h1 :=
  ⟨fun b ob q n hb he => u.keep b ob q n (fun z => hb (hs b z)) fun z => he (hx b z), fun _ _ q n _ he => u.any q n fun z => he (hx _ z), fun b ob q n he => u.free b ob q n fun z => he (hx b z), fun b ob q he => u.there b ob q fun z => he (hx b z), u.tups, u.frzs, u.tbls⟩
end

/-! ### the heap without what is tracked -/
def trk (h : Heap) (H : Hp) : List Addr := (List.range h.objs.size).filter fun a => (H a).isSome
def hidT (h : Heap) (H : Hp) : Heap := PySem.W.hideAll h (trk h H)
theorem hidT_size (h : Heap) (H : Hp) : (hidT h H).objs.size = h.objs.size := PySem.W.hideAll_size _ _
theorem hidT_get {h : Heap} {H : Hp} {b : Addr} {o : Obj} (e : h.get? b = some o) (n : H b = none) : (hidT h H).get? b = some o :=
  PySem.W.hideAll_get _ e fun hm => by
    have q : (H b).isSome = true := (List.mem_filter.mp hm).2
    rw [n] at q; simp at q
theorem of_hidT {h : Heap} {H : Hp} {b : Addr} {o : Obj} (e : (hidT h H).get? b = some o) : h.get? b = some o ∧ H b = none := by
  have e' : h.get? b = some o := PySem.W.of_hideAll (trk h H) e
  refine ⟨e', ?_⟩
  cases q : H b with
  | none => rfl
  | some x =>
    have hm : b ∈ trk h H := List.mem_filter.mpr ⟨List.mem_range.mpr (Heap.lt_size e'), by simp [q]⟩
    have z : (hidT h H).get? b = none := PySem.W.hideAll_none (trk h H) hm
    rw [z] at e; cases e

/-! ### OpenK's ledger, filled with every new object but one -/
def allNews (g h : Heap) (L : Addr) : List (Addr × Obj) := (List.range h.objs.size).filterMap fun a => if a = L ∨ (g.get? a).isSome = true then none else (h.get? a).map fun o => (a, o)
theorem mem_allNews {g h : Heap} {L a : Addr} {o : Obj} (h1 : a ≠ L) (h2 : g.get? a = none) (h3 : h.get? a = some o) : (a, o) ∈ allNews g h L :=
  List.mem_filterMap.mpr ⟨a, List.mem_range.mpr (Heap.lt_size h3), by simp [h1, h2, h3]⟩
theorem of_mem_allNews {g h : Heap} {L : Addr} {p : Addr × Obj} (hp : p ∈ allNews g h L) : p.1 ≠ L ∧ g.get? p.1 = none ∧ h.get? p.1 = some p.2 := by
  obtain ⟨b, _, e⟩ := List.mem_filterMap.mp hp
  split at e
  · cases e
  · rename_i hn
    cases q : h.get? b with
    | none => rw [q] at e; simp at e
    | some u =>
      rw [q] at e
      simp only [Option.map_some, Option.some.injEq] at e
      subst e
      refine ⟨fun z => hn (.inl z), ?_, q⟩
      show g.get? b = none
      cases r : g.get? b with
      | none => rfl
      | some v => exact (hn (.inr (by simp [r]))).elim
def rest (g h : Heap) (L d : Addr) : List (Addr × Obj) := (allNews g h L).filter fun p => decide (p.1 ≠ d)
theorem rest_ne {g h : Heap} {L d : Addr} : ∀ p ∈ rest g h L d, p.1 ≠ d := fun p hp => of_decide_eq_true (List.mem_filter.mp hp).2
theorem mem_rest {g h : Heap} {L d a : Addr} {o : Obj} (h1 : a ≠ L) (h2 : g.get? a = none) (h3 : h.get? a = some o) (h4 : a ≠ d) : (a, o) ∈ rest g h L d :=
  List.mem_filter.mpr ⟨mem_allNews h1 h2 h3, decide_eq_true h4⟩
theorem news_all {g h : Heap} {L : Addr} : News g L h (allNews g h L) := fun p hp => let ⟨a, b, c⟩ := of_mem_allNews hp; ⟨c, a, b⟩
theorem news_at {g h : Heap} {L d : Addr} {o : Obj} (h1 : d ≠ L) (h2 : g.get? d = none) (h3 : h.get? d = some o) : News g L h ((d, o) :: rest g h L d) := fun p hp => by
  rcases List.mem_cons.mp hp with rfl | hp
  · exact ⟨h3, h1, h2⟩
  · exact news_all p (List.mem_filter.mp hp).1
/-- behind a rule that changed d alone: all else but the frame is kept -/
theorem kept_of_news {g h h' : Heap} {L d : Addr} {m : Str → Option Value} (k : ∀ b o, g.get? b = some o → h.get? b = some o) (F : Fr g L h' m) (N : News g L h' (rest g h L d)) :
    ∀ b o, b ≠ L → b ≠ d → h.get? b = some o → h'.get? b = some o := fun b o h1 h2 e => by
  cases q : g.get? b with
  | some u =>
    have := k b u q
    rw [e] at this; cases this
    exact F.keep b _ q
  | none => exact (N (b, o) (mem_rest h1 q e h2)).1
end L2

namespace L2
open PySem PySem.Spec PyProof.Rows

/-- the module's facts, over the base: the heap at the law's entry without what is tracked there -/
structure Mod (K : PySem.W.Frag) (mg : Str → Option Value) (base : Heap) : Prop where
  kin : K.In base
  glob : base.Ns mainGlobals mg
  blt : ∃ mb, base.Ns builtinsNs mb ∧ ∀ x : Str, x ≠ "__name__" → mb x = bootBuiltins x
  nolimit : base.NoLimit

/-- the context: a def's body (or a comprehension's block) running. base: fixed through the whole law; s₀, H₀: the entry; outer: the frames whose slots others may change (a def's callers); stack: all frames that run;
   ex: iterators that were made ahead of the entry and are walked here (a comprehension's); fn: the names whose cells were made at the entry (a def: all; a comprehension's block: its own); calm: not within an except suite; pn: pins that every state bears; xe: what is wanted of an exception that leaves the code -/
structure Cx where
  prog : Program
  w : World
  K : PySem.W.Frag
  mg : Str → Option Value
  base : Heap
  A : Around
  N : List Str
  s₀ : Shared
  H₀ : Hp
  env : Env
  outer : List Env
  stack : List Env
  ex : List Addr
  fn : Str → Bool
  calm : Bool
  pn : List (Addr × Obj)
  xe : Value → Shared → Prop
/-- the callers' frames -/
def frs (l : List Env) : List Addr := l.filterMap (·.frame)
abbrev Cx.fs (X : Cx) : List Addr := frs X.outer

def Vis (sc : Scope) (x : Str) : Prop := sc.names.lookup x = some .local ∨ sc.names.lookup x = some .cell ∨ sc.names.lookup x = some .free
def Loc (sc : Scope) (x : Str) : Prop := sc.names.lookup x = some .local ∨ sc.names.lookup x = some .cell
def Look (env : Env) (h : Heap) (m : Str → Option Value) (x : Str) (u : Value) : Prop :=
  (env.kindOf x = some .local ∧ m x = some u) ∨ ((env.kindOf x = some .cell ∨ env.kindOf x = some .free) ∧ ∃ c, env.cells.lookup x = some c ∧ h.IsCell c (some u))

structure Cx.Ok (X : Cx) : Prop where
  mod : Mod X.K X.mg X.base
  kind : X.env.scope.kind = .function
  glob : X.env.globals = mainGlobals
  blt : X.env.builtins = builtinsNs
  above : X.s₀.heap.objs.size ≤ X.env.locals
  inj : ∀ x y c, X.env.cells.lookup x = some c → X.env.cells.lookup y = some c → x = y
  has : ∀ x, (X.env.kindOf x = some .cell ∨ X.env.kindOf x = some .free) → ∃ c, X.env.cells.lookup x = some c
  cab : ∀ x c, X.fn x = true → X.env.cells.lookup x = some c → X.s₀.heap.objs.size ≤ c
  hd : X.calm = true → X.A.handled = none
  frames : X.A.frames = some X.stack
  stk : X.stack = X.outer ∨ (X.stack = X.env :: X.outer ∧ X.env.frame = some X.env.locals)
  exf : ∀ b ∈ X.ex, b ≠ X.env.locals ∧ ∀ x c, X.env.cells.lookup x = some c → c ≠ b
  bs : ∀ b o, X.base.get? b = some o → X.s₀.heap.get? b = some o ∧ X.H₀ b = none
  bsz : X.base.objs.size ≤ X.s₀.heap.objs.size
  noex : ∀ b o, X.base.get? b = some o → b ∉ X.ex
  exfs : ∀ b ∈ X.ex, b ∉ X.fs
  funs : X.s₀.heap.FunFrames X.base X.outer
  frf : ∀ b ∈ X.fs, X.H₀ b = none

structure Inv (X : Cx) (pins : List (Addr × Obj)) (σ : List (Option V)) (H : Hp) (s : Shared) : Prop where
  ok : X.Ok
  os : s.os = X.s₀.os
  bare : AllBare s.gens
  base : Un X.fs X.ex X.H₀ H X.s₀.heap s.heap
  loc : ∃ m, s.heap.Ns X.env.locals m ∧ ∀ (i : Nat) (x : Str) (v : V), X.N[i]? = some x → σ[i]? = some (some v) → Vis X.env.scope x → ∃ u, RelV v u ∧ Look X.env s.heap m x u
  cell : ∀ x c, X.env.cells.lookup x = some c → ∃ v, s.heap.IsCell c v
  free : H X.env.locals = none
  freeC : ∀ x c, X.env.cells.lookup x = some c → H c = none
  pin : ∀ p ∈ X.pn ++ pins, s.heap.get? p.1 = some p.2 ∧ H p.1 = none ∧ p.1 ≠ X.env.locals ∧ p.1 ∉ X.fs ∧ ∀ v, p.2.data ≠ .cell v
  hok : HOk X.prog X.w H s.heap
  len : σ.length = X.N.length

section
variable {X : Cx} {pins : List (Addr × Obj)} {σ : List (Option V)} {H H' : Hp} {s : Shared} {h' : Heap}

theorem Cx.Ok.nofr (ok : X.Ok) {b : Addr} {o : Obj} (e : X.base.get? b = some o) : b ∉ X.fs := fun hb => by
  have := (ok.funs.mem hb).1
  rw [e] at this; cases this
theorem Inv.bs (I : Inv X pins σ H s) : ∀ b o, X.base.get? b = some o → s.heap.get? b = some o ∧ H b = none := fun b o e =>
  ⟨I.base.keep b o (I.ok.bs b o e).1 (I.ok.bs b o e).2 (I.ok.nofr e) (I.ok.noex b o e), I.base.free b o (I.ok.bs b o e).1 (I.ok.bs b o e).2 (I.ok.noex b o e)⟩
theorem Inv.bk (I : Inv X pins σ H s) : ∀ b o, X.base.get? b = some o → s.heap.get? b = some o := fun b o e => (I.bs b o e).1
theorem Inv.mod (I : Inv X pins σ H s) : Mod X.K X.mg X.base := I.ok.mod
theorem Inv.kIn (I : Inv X pins σ H s) : X.K.In s.heap := I.ok.mod.kin.keeps I.bk
theorem Inv.nolimit (I : Inv X pins σ H s) : s.heap.NoLimit := I.ok.mod.nolimit.keeps I.bk
/-- the frame over the base: for OpenK's rules (K.In X.base is I.mod.kin) -/
theorem Inv.fr (I : Inv X pins σ H s) : ∃ m, Fr X.base X.env.locals s.heap m :=
  let ⟨m, hn, _⟩ := I.loc
  ⟨m, hn, I.bk, Nat.le_trans I.ok.bsz I.ok.above⟩
theorem Inv.lt (I : Inv X pins σ H s) : X.env.locals < s.heap.objs.size := let ⟨_, hn, _⟩ := I.loc; hn.lt
theorem Inv.sz (I : Inv X pins σ H s) : X.s₀.heap.objs.size ≤ s.heap.objs.size := Nat.le_trans I.ok.above (Nat.le_of_lt I.lt)
theorem Inv.nofs (I : Inv X pins σ H s) {a : Addr} (h : s.heap.objs.size ≤ a) : a ∉ X.fs := fun hb => by
  obtain ⟨_, o, ho, _⟩ := I.ok.funs.mem hb
  exact absurd (Nat.lt_of_lt_of_le (Heap.lt_size ho) (Nat.le_trans I.sz h)) (Nat.lt_irrefl _)
theorem Inv.cne (I : Inv X pins σ H s) : ∀ x c, X.env.cells.lookup x = some c → c ≠ X.env.locals := fun x c e z => by
  obtain ⟨v, o, ho, hd⟩ := I.cell x c e
  obtain ⟨m, ⟨o', es, ep, ho', hd', _⟩, _⟩ := I.loc
  rw [z, ho'] at ho; cases ho; rw [hd'] at hd; cases hd
theorem Inv.funs (I : Inv X pins σ H s) : s.heap.FunFrames X.base X.outer := by
  have all : ∀ (l : List Env), (∀ b ∈ frs l, b ∈ X.fs) → X.s₀.heap.FunFrames X.base l → s.heap.FunFrames X.base l := by
    intro l
    induction l with
    | nil => intro _ _; trivial
    | cons env r ih =>
      intro hs hl
      obtain ⟨hk, ⟨L, o, hf, hn, ho, hd⟩, hr⟩ := hl
      have hL : L ∈ X.fs := hs L (by unfold frs; rw [List.filterMap_cons, hf]; exact List.mem_cons_self)
      obtain ⟨sl, e⟩ := I.base.slot L o ho (I.ok.frf L hL) hL fun z => I.ok.exfs L z hL
      exact ⟨hk, ⟨L, _, hf, hn, e, hd⟩, ih (fun b hb => hs b (by unfold frs; rw [List.filterMap_cons, hf]; exact List.mem_cons_of_mem _ hb)) hr⟩
  exact all X.outer (fun _ hb => hb) I.ok.funs

/-- the frames that run, for a call -/
theorem Inv.stack (I : Inv X pins σ H s) : s.heap.FunFrames X.base X.stack := by
  rcases I.ok.stk with e | ⟨e, hf⟩
  · rw [e]; exact I.funs
  · rw [e]
    obtain ⟨m, hn, _⟩ := I.loc
    refine .cons (by rw [I.ok.kind]; decide) hf hn ?_ I.funs
    exact Heap.get?_none_of_le (Nat.le_trans I.ok.bsz I.ok.above)
theorem Inv.stkSub (I : Inv X pins σ H s) : ∀ b ∈ frs X.stack, b ∈ X.env.locals :: X.fs := fun b hb => by
  rcases I.ok.stk with e | ⟨e, hf⟩
  · rw [e] at hb; exact List.mem_cons_of_mem _ hb
  · rw [e] at hb
    unfold frs at hb
    rw [List.filterMap_cons, hf] at hb
    exact hb
theorem Inv.stkFree (I : Inv X pins σ H s) : ∀ b ∈ frs X.stack, H b = none := fun b hb => by
  rcases List.mem_cons.mp (I.stkSub b hb) with e | hb
  · rw [e]; exact I.free
  · obtain ⟨_, o, ho, _⟩ := I.ok.funs.mem hb
    exact I.base.free b o ho (I.ok.frf b hb) fun z => I.ok.exfs b z hb

/-- THE STEP: the untracked objects but the frame and the records at ch are kept (the callers' frames up to slots), the frame's map is kept, the new abstract heap is held -/
theorem Inv.step {g' : Array GenState} {t' : Nat} {d' : Drawn} {ch : List Addr} (I : Inv X pins σ H s)
    (hch : ∀ b ∈ ch, (b ∈ X.ex ∨ X.s₀.heap.objs.size ≤ b) ∧ b ≠ X.env.locals ∧ (∀ x c, X.env.cells.lookup x = some c → c ≠ b) ∧ ∀ p ∈ X.pn ++ pins, p.1 ≠ b)
    (keep : ∀ b o, b ≠ X.env.locals → b ∉ X.fs → b ∉ ch → s.heap.get? b = some o → H b = none → h'.get? b = some o)
    (slot : ∀ b o, b ≠ X.env.locals → b ∈ X.fs → b ∉ ch → s.heap.get? b = some o → H b = none → ∃ sl, h'.get? b = some { o with slots := sl }) (free : ∀ b o, b ∉ ch → s.heap.get? b = some o → H b = none → H' b = none)
    (there : ∀ b o, b ∉ ch → s.heap.get? b = some o → ∃ o', h'.get? b = some o')
    (tups : ∀ b xs, H b = some (.tup xs) → H' b = some (.tup xs)) (frzs : ∀ b o u, H b = some (.frz o u) → H' b = some (.frz o u)) (tbls : ∀ b ps, H b = some (.tbl ps) → ∃ more, H' b = some (.tbl (ps ++ more)))
    (ns : ∀ m, s.heap.Ns X.env.locals m → h'.Ns X.env.locals m) (hok : HOk X.prog X.w H' h') (hg : AllBare g') :
    Inv X pins σ H' { s with heap := h', gens := g', drawn := d', toks := t' } := by
  have neL : ∀ b o, X.s₀.heap.get? b = some o → b ≠ X.env.locals := fun b o e => Nat.ne_of_lt (Nat.lt_of_lt_of_le (Heap.lt_size e) I.ok.above)
  have neC : ∀ b o, X.s₀.heap.get? b = some o → b ∉ X.ex → b ∉ ch := fun b o e hx hb => by
    rcases (hch b hb).1 with z | z
    · exact hx z
    · exact absurd (Nat.lt_of_lt_of_le (Heap.lt_size e) z) (Nat.lt_irrefl _)
  have cellK : ∀ x c, X.env.cells.lookup x = some c → ∀ v, s.heap.IsCell c v → h'.IsCell c v := fun x c e v ⟨o, ho, hd⟩ => by
    have nch : c ∉ ch := fun z => (hch c z).2.2.1 x c e rfl
    by_cases hc : c ∈ X.fs
    · obtain ⟨sl, q⟩ := slot c o (I.cne x c e) hc nch ho (I.freeC x c e)
      exact ⟨_, q, hd⟩
    · exact ⟨o, keep c o (I.cne x c e) hc nch ho (I.freeC x c e), hd⟩
  refine ⟨I.ok, I.os, hg, ⟨fun b o e n hb hx => ?_, fun b o e n hb hx => ?_, fun b o e n hx => ?_, fun b o e hx => ?_, fun b xs e => tups b xs (I.base.tups b xs e), fun b o xs e => frzs b o xs (I.base.frzs b o xs e), fun b ps e => ?_⟩, ?_, fun x c e => ?_, ?_, fun x c e => ?_, fun p hp => ?_, hok, I.len⟩
  · exact keep b o (neL b o e) hb (neC b o e hx) (I.base.keep b o e n hb hx) (I.base.free b o e n hx)
  · obtain ⟨sl, e1⟩ := I.base.slot b o e n hb hx
    obtain ⟨sl', e2⟩ := slot b _ (neL b o e) hb (neC b o e hx) e1 (I.base.free b o e n hx)
    exact ⟨sl', e2⟩
  · obtain ⟨o', e1⟩ := I.base.there b o e hx
    exact free b o' (neC b o e hx) e1 (I.base.free b o e n hx)
  · obtain ⟨o', e1⟩ := I.base.there b o e hx
    exact there b o' (neC b o e hx) e1
  · obtain ⟨m1, e1⟩ := I.base.tbls b ps e
    obtain ⟨m2, e2⟩ := tbls b _ e1
    exact ⟨m1 ++ m2, by rw [e2, Array.append_assoc]⟩
  · obtain ⟨m, hn, hl⟩ := I.loc
    refine ⟨m, ns m hn, fun i x v e1 e2 e3 => ?_⟩
    obtain ⟨u, r, l⟩ := hl i x v e1 e2 e3
    refine ⟨u, r, ?_⟩
    rcases l with l | ⟨k, c, e, z⟩
    · exact .inl l
    · exact .inr ⟨k, c, e, cellK x c e _ z⟩
  · obtain ⟨v, z⟩ := I.cell x c e
    exact ⟨v, cellK x c e v z⟩
  · obtain ⟨m, ⟨o, _, _, ho, _⟩, _⟩ := I.loc
    exact free _ o (fun z => (hch _ z).2.1 rfl) ho I.free
  · obtain ⟨v, o, ho, hd⟩ := I.cell x c e
    exact free c o (fun z => (hch c z).2.2.1 x c e rfl) ho (I.freeC x c e)
  · obtain ⟨e, n, ne, nf, d⟩ := I.pin p hp
    have nch : p.1 ∉ ch := fun z => (hch p.1 z).2.2.2 p hp rfl
    exact ⟨keep p.1 p.2 ne nf nch e n, free p.1 p.2 nch e n, ne, nf, d⟩
/-- .. where the frame's own object is kept too -/
theorem Inv.un {t' : Nat} (I : Inv X pins σ H s) (u : Un X.fs [] H H' s.heap h') (hok : HOk X.prog X.w H' h') : Inv X pins σ H' { s with heap := h', toks := t' } := by
  obtain ⟨m, ⟨o, es, ep, ho, r⟩, _⟩ := id I.loc
  obtain ⟨sl, hL⟩ := u.any ho I.free (by simp)
  exact I.step (g' := s.gens) (d' := s.drawn) (ch := []) (fun _ z => nomatch z) (fun b o _ hb _ e n => u.keep b o e n hb (by simp)) (fun b o _ hb _ e n => u.slot b o e n hb (by simp)) (fun b o _ e n => u.free b o e n (by simp)) (fun b o _ e => u.there b o e (by simp)) u.tups u.frzs u.tbls (fun m' hm => by
    obtain ⟨o', es', ep', ho', r'⟩ := hm
    rw [ho] at ho'; cases ho'
    exact ⟨_, es', ep', hL, r'⟩) hok I.bare
/-- behind a call (or a comprehension's block): the slots of this frame may have changed too, the records at ch may have turned -/
theorem Inv.call {g' : Array GenState} {t' : Nat} {d' : Drawn} {ch : List Addr} (I : Inv X pins σ H s) (u : Un (frs X.stack) ch H H' s.heap h') (hok : HOk X.prog X.w H' h') (hg : AllBare g')
    (hch : ∀ b ∈ ch, (b ∈ X.ex ∨ X.s₀.heap.objs.size ≤ b) ∧ b ≠ X.env.locals ∧ (∀ x c, X.env.cells.lookup x = some c → c ≠ b) ∧ ∀ p ∈ X.pn ++ pins, p.1 ≠ b) :
    Inv X pins σ H' { s with heap := h', gens := g', drawn := d', toks := t' } := by
  obtain ⟨m, ⟨o, es, ep, ho, r⟩, _⟩ := id I.loc
  obtain ⟨sl, hL⟩ := u.any ho I.free fun z => (hch _ z).2.1 rfl
  exact I.step (ch := ch) hch (fun b o hL hb hc e n => u.keep b o e n (fun z => (List.mem_cons.mp (I.stkSub b z)).elim hL hb) hc) (fun b o _ _ hc e n => u.any e n hc) (fun b o hc e n => u.free b o e n hc) (fun b o hc e => u.there b o e hc) u.tups u.frzs u.tbls (fun m' hm => by
    obtain ⟨o', es', ep', ho', r'⟩ := hm
    rw [ho] at ho'; cases ho'
    exact ⟨_, es', ep', hL, r'⟩) hok hg
/-- an untracked record of ours (an iterator) has turned -/
theorem Inv.turned {t' : Nat} {it : Addr} (I : Inv X pins σ H s) (k : ∀ b o, b ≠ it → s.heap.get? b = some o → h'.get? b = some o) (hn : H it = none) (hL : it ≠ X.env.locals)
    (h1 : it ∈ X.ex ∨ X.s₀.heap.objs.size ≤ it) (h2 : ∀ x c, X.env.cells.lookup x = some c → c ≠ it) (h3 : ∀ p ∈ X.pn ++ pins, p.1 ≠ it) : Inv X pins σ H { s with heap := h', toks := t' } := by
  have nit : ∀ b u, H b = some u → b ≠ it := fun b u e z => by rw [z, hn] at e; cases e
  refine I.step (g' := s.gens) (d' := s.drawn) (ch := [it]) (fun b hb => ?_) (fun b o _ _ hc e _ => k b o (fun z => hc (by simp [z])) e) (fun b o _ _ hc e _ => ⟨o.slots, k b o (fun z => hc (by simp [z])) e⟩) (fun _ _ _ _ n => n)
    (fun b o hc e => ⟨o, k b o (fun z => hc (by simp [z])) e⟩) (fun _ _ e => e) (fun _ _ _ e => e) (fun b ps e => ⟨#[], by rw [e]; simp⟩) (fun m hm => ?_) (fun b u e => ?_) I.bare
  · have e : b = it := by simpa using hb
    subst e
    exact ⟨h1, hL, h2, h3⟩
  · obtain ⟨o, es, ep, ho, r⟩ := hm
    exact ⟨o, es, ep, k _ o (Ne.symm hL) ho, r⟩
  · refine (I.hok b u e).stay (fun c v hc q => k c v ?_ q) (fun _ q => q) fun _ _ q => q
    rcases hc with z | z
    · rw [z]; exact nit b u e
    · exact nit c _ z
theorem Inv.tok (I : Inv X pins σ H s) (t : Nat) : Inv X pins σ H { s with toks := t } := I.un (h' := s.heap) (t' := t) Un.refl I.hok
/-- all objects kept -/
theorem Inv.kept {t' : Nat} (I : Inv X pins σ H s) (k : ∀ b u, s.heap.get? b = some u → h'.get? b = some u) : Inv X pins σ H { s with heap := h', toks := t' } := I.un (Un.kept k) (I.hok.kept k)
/-- a new object laid and tracked -/
theorem Inv.laid {a : Addr} {o : HO} {t' : Nat} (I : Inv X pins σ H s) (k : ∀ b u, s.heap.get? b = some u → h'.get? b = some u) (hp : s.heap.objs.size ≤ a) (new : ObjOk X.prog X.w (upd H a o) h' a o) :
    Inv X pins σ (upd H a o) { s with heap := h', toks := t' } := I.un (Un.laid k hp (I.hok.fresh hp)) (I.hok.laid k hp new)
/-- an object written -/
theorem Inv.write {x e : Addr} {o : HO} {t' : Nat} (I : Inv X pins σ H s) (mu : Mut (H x)) (he : e = x ∨ H e = some (.own x)) (k : ∀ b u, b ≠ e → s.heap.get? b = some u → h'.get? b = some u) (heo : ∃ u, h'.get? e = some u)
    (new : ObjOk X.prog X.w (upd H x o) h' x o) : Inv X pins σ (upd H x o) { s with heap := h', toks := t' } := I.un (Un.write mu he k heo) (I.hok.write mu he k heo new)
/-- forgetting slots, pins -/
theorem Inv.weak {σ' : List (Option V)} (I : Inv X pins σ H s) (hl : σ'.length = σ.length) (w : ∀ (i : Nat) v, σ'[i]? = some (some v) → σ[i]? = some (some v)) : Inv X pins σ' H s :=
  ⟨I.ok, I.os, I.bare, I.base, let ⟨m, hn, hl'⟩ := I.loc; ⟨m, hn, fun i x v e1 e2 e3 => hl' i x v e1 (w i v e2) e3⟩, I.cell, I.free, I.freeC, I.pin, I.hok, hl.trans I.len⟩
theorem Inv.pins_of {pins' : List (Addr × Obj)} (I : Inv X pins σ H s) (h : ∀ p ∈ pins', s.heap.get? p.1 = some p.2 ∧ H p.1 = none ∧ p.1 ≠ X.env.locals ∧ p.1 ∉ X.fs ∧ ∀ v, p.2.data ≠ .cell v) : Inv X pins' σ H s :=
  ⟨I.ok, I.os, I.bare, I.base, I.loc, I.cell, I.free, I.freeC, fun p hp => (List.mem_append.mp hp).elim (fun z => I.pin p (List.mem_append_left _ z)) (h p), I.hok, I.len⟩

theorem nodup_ix {N : List Str} (hN : N.Nodup) {i j : Nat} {x : Str} (a : N[i]? = some x) (b : N[j]? = some x) : i = j := by
  obtain ⟨h1, e1⟩ := List.getElem?_eq_some_iff.mp a
  obtain ⟨h2, e2⟩ := List.getElem?_eq_some_iff.mp b
  exact (List.getElem_inj hN).mp (e1.trans e2.symm)

/-- a name is stored; what changed -/
theorem store_ok2 {M : Model} {A : Around} {E : Value → Shared → Prop} {i : Nat} {x : Str} {v : V} {u : Value} {Q : Unit → Shared → Prop} (I : Inv X pins σ H s) (hN : X.N.Nodup) (hi : X.N[i]? = some x) (hx : Loc X.env.scope x) (r : RelV v u)
    (h : ∀ s', Inv X pins (σ.set i (some v)) H s' → (∃ a, Heap.SameBut a s.heap s'.heap ∧ (a = X.env.locals ∨ X.env.cells.lookup x = some a)) → Q () s') (hf : X.fn x = true ∨ X.env.scope.names.lookup x = some .local := by first | exact .inl rfl | exact .inr rfl | assumption) : wpAny M A (storeName X.env x u) Q E s := by
  obtain ⟨m, hn, hl⟩ := id I.loc
  have hcls : (X.env.scope.kind == .class || (X.env.scope.kind == .module && X.env.locals != X.env.globals)) = false := by rw [I.ok.kind]; rfl
  have hiσ : i < σ.length := by rw [I.len]; exact (List.getElem?_eq_some_iff.mp hi).1
  have cne := I.cne
  have tracked : ∀ {a : Addr} {h' : Heap}, (∃ o, s.heap.get? a = some o ∧ H a = none) → Heap.SameBut a s.heap h' → HOk X.prog X.w H h' := fun {a h'} ha hs b ob e => by
    obtain ⟨_, _, hfree⟩ := ha
    refine (I.hok b ob e).stay (fun c w' hc q => (hs.2 c ?_).trans q) (fun _ q => q) fun _ _ q => q
    rintro rfl
    rcases hc with rfl | hc
    · rw [hfree] at e; cases e
    · rw [hfree] at hc; cases hc
  rcases hx with hk | hk
  · refine wpAny_storeName_local hk hn (fun h' hn' hs => ?_) hcls
    obtain ⟨oL, _, _, hoL, _⟩ := id hn
    refine h _ ⟨I.ok, I.os, I.bare, ⟨fun b o e n hb hx => ?_, fun b o e n hb hx => ?_, I.base.free, fun b o e hx => ?_, I.base.tups, I.base.frzs, I.base.tbls⟩, ⟨_, hn', fun j y v' e1 e2 e3 => ?_⟩, fun y c e => ?_, I.free, I.freeC, fun p hp => ?_, tracked ⟨oL, hoL, I.free⟩ hs, by simpa using I.len⟩ ⟨_, hs, .inl rfl⟩
    · exact (hs.2 b (Nat.ne_of_lt (Nat.lt_of_lt_of_le (Heap.lt_size e) I.ok.above))).trans (I.base.keep b o e n hb hx)
    · obtain ⟨sl, e1⟩ := I.base.slot b o e n hb hx
      exact ⟨sl, (hs.2 b (Nat.ne_of_lt (Nat.lt_of_lt_of_le (Heap.lt_size e) I.ok.above))).trans e1⟩
    · obtain ⟨o', e1⟩ := I.base.there b o e hx
      exact ⟨o', (hs.2 b (Nat.ne_of_lt (Nat.lt_of_lt_of_le (Heap.lt_size e) I.ok.above))).trans e1⟩
    · by_cases hj : j = i
      · subst hj
        rw [hi] at e1; cases e1
        rw [List.getElem?_set_self hiσ] at e2
        cases e2
        exact ⟨u, r, .inl ⟨hk, by simp⟩⟩
      · rw [List.getElem?_set_ne (Ne.symm hj)] at e2
        obtain ⟨u', r', q⟩ := hl j y v' e1 e2 e3
        refine ⟨u', r', ?_⟩
        rcases q with ⟨k, e⟩ | ⟨k, c, e, z⟩
        · refine .inl ⟨k, ?_⟩
          have : y ≠ x := fun e => hj (nodup_ix hN e1 (e ▸ hi))
          simp [this, e]
        · exact .inr ⟨k, c, e, z.sameBut hs (cne y c e)⟩
    · obtain ⟨w', z⟩ := I.cell y c e
      exact ⟨w', z.sameBut hs (cne y c e)⟩
    · obtain ⟨e, n, ne, nf, d⟩ := I.pin p hp
      exact ⟨(hs.2 p.1 ne).trans e, n, ne, nf, d⟩
  · have hfn : X.fn x = true := by
      rcases hf with z | z
      · exact z
      · rw [z] at hk; cases hk
    obtain ⟨c, hc⟩ := I.ok.has x (.inl hk)
    obtain ⟨w', z⟩ := I.cell x c hc
    refine wpAny_storeName_cell I.ok.kind hk hc z (fun h' hc' hs => ?_)
    obtain ⟨oc, hoc, hocd⟩ := id z
    refine h { s with heap := h' } ⟨I.ok, I.os, I.bare, ⟨fun b o e n hb hx => ?_, fun b o e n hb hx => ?_, I.base.free, fun b o e hx => ?_, I.base.tups, I.base.frzs, I.base.tbls⟩, ⟨m, hn.sameBut hs (Ne.symm (cne x c hc)), fun j y v' e1 e2 e3 => ?_⟩, fun y c' e => ?_, I.free, I.freeC, fun p hp => ?_, tracked ⟨oc, hoc, I.freeC x c hc⟩ hs, by simpa using I.len⟩ ⟨c, hs, .inr hc⟩
    · exact (hs.2 b (Nat.ne_of_lt (Nat.lt_of_lt_of_le (Heap.lt_size e) (I.ok.cab x c hfn hc)))).trans (I.base.keep b o e n hb hx)
    · obtain ⟨sl, e1⟩ := I.base.slot b o e n hb hx
      exact ⟨sl, (hs.2 b (Nat.ne_of_lt (Nat.lt_of_lt_of_le (Heap.lt_size e) (I.ok.cab x c hfn hc)))).trans e1⟩
    · obtain ⟨o', e1⟩ := I.base.there b o e hx
      exact ⟨o', (hs.2 b (Nat.ne_of_lt (Nat.lt_of_lt_of_le (Heap.lt_size e) (I.ok.cab x c hfn hc)))).trans e1⟩
    · by_cases hj : j = i
      · subst hj
        rw [hi] at e1; cases e1
        rw [List.getElem?_set_self hiσ] at e2
        cases e2
        exact ⟨u, r, .inr ⟨.inl hk, c, hc, hc'⟩⟩
      · rw [List.getElem?_set_ne (Ne.symm hj)] at e2
        obtain ⟨u', r', q⟩ := hl j y v' e1 e2 e3
        refine ⟨u', r', ?_⟩
        rcases q with q | ⟨k, c', e, z'⟩
        · exact .inl q
        · refine .inr ⟨k, c', e, z'.sameBut hs ?_⟩
          rintro rfl
          exact hj (nodup_ix hN e1 (I.ok.inj _ _ _ e hc ▸ hi))
    · by_cases hcc : c' = c
      · subst hcc; exact ⟨_, hc'⟩
      · obtain ⟨w2, z2⟩ := I.cell y c' e
        exact ⟨w2, z2.sameBut hs hcc⟩
    · obtain ⟨e, n, ne, nf, d⟩ := I.pin p hp
      refine ⟨(hs.2 p.1 ?_).trans e, n, ne, nf, d⟩
      intro q
      rw [q, hoc] at e
      have q' : oc = p.2 := Option.some.inj e
      exact d w' (by rw [← q']; exact hocd)
theorem store_ok {M : Model} {A : Around} {E : Value → Shared → Prop} {i : Nat} {x : Str} {v : V} {u : Value} {Q : Unit → Shared → Prop} (I : Inv X pins σ H s) (hN : X.N.Nodup) (hi : X.N[i]? = some x) (hx : Loc X.env.scope x) (r : RelV v u)
    (h : ∀ s', Inv X pins (σ.set i (some v)) H s' → Q () s') (hf : X.fn x = true ∨ X.env.scope.names.lookup x = some .local := by first | exact .inl rfl | exact .inr rfl | assumption) : wpAny M A (storeName X.env x u) Q E s :=
  store_ok2 I hN hi hx r (fun s' I' _ => h s' I') hf
/-- behind a call or a block, the state as it is -/
theorem Inv.call' {s' : Shared} {ch : List Addr} (I : Inv X pins σ H s) (ho : s'.os = s.os) (u : Un (frs X.stack) ch H H' s.heap s'.heap) (hok : HOk X.prog X.w H' s'.heap) (hg : AllBare s'.gens)
    (hch : ∀ b ∈ ch, (b ∈ X.ex ∨ X.s₀.heap.objs.size ≤ b) ∧ b ≠ X.env.locals ∧ (∀ x c, X.env.cells.lookup x = some c → c ≠ b) ∧ ∀ p ∈ X.pn ++ pins, p.1 ≠ b) : Inv X pins σ H' s' := by
  obtain ⟨h', g', d', t', o'⟩ := s'
  have e : o' = s.os := ho
  subst e
  exact I.call (g' := g') (t' := t') (d' := d') u hok hg hch
end

/-! ### the judgements -/
/-- an exception: its class, its own dict's address (where it has one), the abstract heap behind it -/
abbrev XK := Value → Option Addr → Hp → Prop
abbrev St := List (Option V)
abbrev VK := V → Hp → Prop
/-- an expression's reading; a test's; an argument list's -/
abbrev TE := St → Hp → VK → Prop
abbrev TT := St → Hp → (Bool → Hp → Prop) → Prop
abbrev TA := St → Hp → (List V → Hp → Prop) → Prop
/-- what is wanted behind a statement -/
structure Ends where
  nx : St → Hp → Prop
  rt : VK
  bk : St → Hp → Prop := fun _ _ => False
  ct : St → Hp → Prop := fun _ _ => False
abbrev TS := Ends → St → Hp → Prop

def EP (X : Cx) (pins : List (Addr × Obj)) (σ : St) (Q : VK) (u : Value) (s' : Shared) : Prop := ∃ v H', Inv X pins σ H' s' ∧ RelV v u ∧ Q v H'
def TP (X : Cx) (pins : List (Addr × Obj)) (σ : St) (Q : Bool → Hp → Prop) (b : Bool) (s' : Shared) : Prop := ∃ H', Inv X pins σ H' s' ∧ Q b H'
def AP (X : Cx) (pins : List (Addr × Obj)) (σ : St) (Q : List V → Hp → Prop) (us : List Value) (s' : Shared) : Prop := ∃ vs H', Inv X pins σ H' s' ∧ Vals vs us ∧ Q vs H'
def SP (X : Cx) (pins : List (Addr × Obj)) (D : Ends) (f : Flow) (s' : Shared) : Prop :=
  match f with
  | .next => ∃ σ' H', Inv X pins σ' H' s' ∧ D.nx σ' H'
  | .brk => ∃ σ' H', Inv X pins σ' H' s' ∧ D.bk σ' H'
  | .cont => ∃ σ' H', Inv X pins σ' H' s' ∧ D.ct σ' H'
  | .ret u => ∃ v σ' H', Inv X pins σ' H' s' ∧ RelV v u ∧ D.rt v H'

def PE (X : Cx) (e : Expr) (t : TE) : Prop :=
  ∀ (pins : List (Addr × Obj)) (s : Shared) (σ : St) (H : Hp) (Q : VK), Inv X pins σ H s → t σ H Q → wpAny (model X.prog X.w) X.A (eval e X.env) (EP X pins σ Q) X.xe s
def PT (X : Cx) (e : Expr) (t : TT) : Prop :=
  ∀ (pins : List (Addr × Obj)) (s : Shared) (σ : St) (H : Hp) (Q : Bool → Hp → Prop), Inv X pins σ H s → t σ H Q → wpAny (model X.prog X.w) X.A (isTrue e X.env (eval e X.env)) (TP X pins σ Q) X.xe s
/-- a test whatever its 'whole' is (and, or) -/
def PW (X : Cx) (e : Expr) (t : TT) : Prop :=
  ∀ (whole : Sem Value) (pins : List (Addr × Obj)) (s : Shared) (σ : St) (H : Hp) (Q : Bool → Hp → Prop), Inv X pins σ H s → t σ H Q → wpAny (model X.prog X.w) X.A (isTrue e X.env whole) (TP X pins σ Q) X.xe s
theorem PW.pt {X : Cx} {e : Expr} {t : TT} (h : PW X e t) : PT X e t := h _
/-- an argument list (no star), from the left -/
def PA (X : Cx) (es : List Expr) (t : TA) : Prop :=
  ∀ (pos : Pos) (pins : List (Addr × Obj)) (s : Shared) (σ : St) (H : Hp) (Q : List V → Hp → Prop), Inv X pins σ H s → t σ H Q → wpAny (model X.prog X.w) X.A (spliced (backTo pos (starEach es X.env))) (AP X pins σ Q) X.xe s
def PS (X : Cx) (st : Stmt) (t : TS) : Prop :=
  ∀ (pins : List (Addr × Obj)) (s : Shared) (σ : St) (H : Hp) (D : Ends), Inv X pins σ H s → t D σ H → wpAny (model X.prog X.w) X.A (exec st X.env) (SP X pins D) X.xe s
def PSs (X : Cx) (st : List Stmt) (t : TS) : Prop :=
  ∀ (pins : List (Addr × Obj)) (s : Shared) (σ : St) (H : Hp) (D : Ends), Inv X pins σ H s → t D σ H → wpAny (model X.prog X.w) X.A (execs st X.env) (SP X pins D) X.xe s
/-- weaken the end -/
theorem thn {α : Type} {t : Sem α} {Q Q' : α → Shared → Prop} {M : Model} {A : Around} {E : Value → Shared → Prop} {s : Shared} (h : wpAny M A t Q E s) (hQ : ∀ a s, Q a s → Q' a s) : wpAny M A t Q' E s := wpAny_mono h hQ fun _ _ x => x
end L2

namespace L2
open PySem PySem.Spec PyProof.Rows
section
variable {X : Cx}

/-- two expressions in a row -/
theorem bin {a b : Expr} {ta tb : TE} (ha : PE X a ta) (hb : PE X b tb) {pins : List (Addr × Obj)} {s : Shared} {σ : St} {H : Hp} {R : V → V → Hp → Prop} (I : Inv X pins σ H s) (h : ta σ H fun x H1 => tb σ H1 fun y H2 => R x y H2)
    {α : Type} {Q : α → Shared → Prop} {f : Value → Value → Sem α}
    (hf : ∀ v u s2 x y H2, Inv X pins σ H2 s2 → RelV x v → RelV y u → R x y H2 → wpAny (model X.prog X.w) X.A (f v u) Q X.xe s2) :
    wpAny (model X.prog X.w) X.A (eval a X.env) (fun v s₁ => wpAny (model X.prog X.w) X.A (eval b X.env) (fun u s₂ => wpAny (model X.prog X.w) X.A (f v u) Q X.xe s₂) X.xe s₁) X.xe s := by
  refine thn (ha pins s σ H _ I h) fun v s1 ⟨x, H1, I1, r1, q1⟩ => ?_
  refine thn (hb pins s1 σ H1 _ I1 q1) fun u s2 ⟨y, H2, I2, r2, q2⟩ => ?_
  exact hf v u s2 x y H2 I2 r1 r2 q2

/-! ### names and constants -/
def tVar (i : Nat) : TE := fun σ H Q => ∃ v, σ[i]? = some (some v) ∧ Q v H
def tC (v : V) : TE := fun _ H Q => Q v H
theorem pe_var {i : Nat} {x : Str} {pos : Pos} (hN : X.N[i]? = some x) (hv : Vis X.env.scope x) (hd : (x == ("__debug__" : Str)) = false := by decide) (hcd : (x == ("__classdict__" : Str)) = false := by decide) : PE X (.Name x pos) (tVar i) := by
  intro pins s σ H Q I h
  obtain ⟨v, e, h⟩ := h
  obtain ⟨m, hn, hl⟩ := I.loc
  obtain ⟨u, r, l⟩ := hl i x v hN e hv
  have fin : EP X pins σ Q u s := ⟨v, H, I, r, h⟩
  rcases l with ⟨hk, hm⟩ | ⟨hk, c, hc, hcell⟩
  · exact wpAny_Name (wpAny_loadName_local I.ok.kind hk hn hm fin) hd
  · rcases hk with hk | hk
    · exact wpAny_Name (wpAny_loadName_cell I.ok.kind hk hc hcell fin) hd
    · exact wpAny_Name (wpAny_loadName_free I.ok.kind hk hc hcell fin hcd) hd
theorem pe_int {i j pos} : PE X (.Constant (.int i) j pos) (tC (.int i)) := fun _ _ _ H _ I h => wpAny_Constant_int ⟨.int i, H, I.tok _, ⟨_, rfl⟩, h⟩
theorem pe_bl {b j pos} : PE X (.Constant (.bool b) j pos) (tC (.bl b)) := fun _ _ _ H _ I h => Constant_bool ⟨.bl b, H, I, rfl, h⟩
theorem pe_non {j pos} : PE X (.Constant .none j pos) (tC .non) := fun _ _ _ H _ I h => Constant_none ⟨.non, H, I, rfl, h⟩
theorem pe_str {x j pos} : PE X (.Constant (.str x) j pos) (tC (.str x)) := fun _ _ _ H _ I h => Calls.Constant_str ⟨.str x, H, I.tok _, ⟨_, rfl⟩, h⟩

/-- a global name of the def -/
def Gl (X : Cx) (x : Str) : Prop := X.env.kindOf x = some .globalImplicit
theorem ld_glob {E : Value → Shared → Prop} {pins : List (Addr × Obj)} {s : Shared} {σ : St} {H : Hp} {x : Str} {u : Value} {pos : Pos} {Q : Value → Shared → Prop} (I : Inv X pins σ H s) (hg : Gl X x) (hm : X.mg x = some u) (h : Q u s)
    (hd : (x == ("__debug__" : Str)) = false := by decide) : wpAny (model X.prog X.w) X.A (eval (.Name x pos) X.env) Q E s :=
  Calls.Name_function_global I.ok.kind hg (Calls.loadGlobal_global (by rw [I.ok.glob]; exact I.mod.glob.keeps I.bk) hm h) hd
theorem ld_blt {E : Value → Shared → Prop} {pins : List (Addr × Obj)} {s : Shared} {σ : St} {H : Hp} {x : Str} {u : Value} {pos : Pos} {Q : Value → Shared → Prop} (I : Inv X pins σ H s) (hg : Gl X x) (hm : X.mg x = none) (hv : bootBuiltins x = some u) (h : Q u s)
    (hn : x ≠ "__name__" := by decide) (hd : (x == ("__debug__" : Str)) = false := by decide) : wpAny (model X.prog X.w) X.A (eval (.Name x pos) X.env) Q E s := by
  obtain ⟨mb, h1, h2⟩ := I.mod.blt
  exact Calls.Name_function_global I.ok.kind hg (Calls.loadGlobal_builtin (by rw [I.ok.glob]; exact I.mod.glob.keeps I.bk) hm (by rw [I.ok.blt]; exact h1.keeps I.bk) ((h2 x hn).trans hv) h) hd
/-- a module's constant, a class, a function, as a value -/
theorem pe_glob {x : Str} {v : V} {u : Value} {pos : Pos} (hg : Gl X x) (hm : X.mg x = some u) (r : RelV v u) (hd : (x == ("__debug__" : Str)) = false := by decide) : PE X (.Name x pos) (tC v) :=
  fun _ _ _ H _ I h => ld_glob I hg hm ⟨v, H, I, r, h⟩ hd
theorem pe_bltn {x : Str} {v : V} {u : Value} {pos : Pos} (hg : Gl X x) (hm : X.mg x = none) (hv : bootBuiltins x = some u) (r : RelV v u) (hn : x ≠ "__name__" := by decide) (hd : (x == ("__debug__" : Str)) = false := by decide) : PE X (.Name x pos) (tC v) :=
  fun _ _ _ H _ I h => ld_blt I hg hm hv ⟨v, H, I, r, h⟩ hn hd

/-! ### arithmetic -/
/-- two ints -/
def t2I (ta tb : TE) (k : Int → Int → Hp → Prop) : St → Hp → Prop := fun σ H => ta σ H fun x H1 => tb σ H1 fun y H2 => ∃ i j, x = .int i ∧ y = .int j ∧ k i j H2
def tAdd (ta tb : TE) : TE := fun σ H Q => t2I ta tb (fun i j H2 => Q (.int (i + j)) H2) σ H
def tSub (ta tb : TE) : TE := fun σ H Q => t2I ta tb (fun i j H2 => Q (.int (i - j)) H2) σ H
/-- the left factor below 2^64 -/
def tMul (ta tb : TE) : TE := fun σ H Q => t2I ta tb (fun i j H2 => (-(2 ^ 64) < i ∧ i < 2 ^ 64) ∧ Q (.int (i * j)) H2) σ H
variable {a b : Expr} {ta tb : TE} {pos : Pos}
theorem pe_add (ha : PE X a ta) (hb : PE X b tb) : PE X (.BinOp a .Add b pos) (tAdd ta tb) := by
  intro pins s σ H Q I h
  refine wpAny_BinOp (bin ha hb I h fun v u s2 x y H2 I2 rx ry q => ?_)
  obtain ⟨i, j, rfl, rfl, q⟩ := q
  obtain ⟨t, rfl⟩ := rx
  obtain ⟨t', rfl⟩ := ry
  exact add_int ⟨.int _, H2, I2.tok _, ⟨_, rfl⟩, q⟩
theorem pe_sub (ha : PE X a ta) (hb : PE X b tb) : PE X (.BinOp a .Sub b pos) (tSub ta tb) := by
  intro pins s σ H Q I h
  refine wpAny_BinOp (bin ha hb I h fun v u s2 x y H2 I2 rx ry q => ?_)
  obtain ⟨i, j, rfl, rfl, q⟩ := q
  obtain ⟨t, rfl⟩ := rx
  obtain ⟨t', rfl⟩ := ry
  exact sub_int ⟨.int _, H2, I2.tok _, ⟨_, rfl⟩, q⟩
theorem pe_mul (ha : PE X a ta) (hb : PE X b tb) : PE X (.BinOp a .Mult b pos) (tMul ta tb) := by
  intro pins s σ H Q I h
  refine wpAny_BinOp (bin ha hb I h fun v u s2 x y H2 I2 rx ry q => ?_)
  obtain ⟨i, j, rfl, rfl, ⟨q1, q2⟩, q⟩ := q
  obtain ⟨t, rfl⟩ := rx
  obtain ⟨t', rfl⟩ := ry
  exact mul_int ⟨.int _, H2, I2.tok _, ⟨_, rfl⟩, q⟩ (.of_left (intBits_le_64 q1 q2))

/-! ### comparisons -/
def PC (X : Cx) (op : CmpOp) (a b : Expr) (t : TE) : Prop :=
  ∀ (pins : List (Addr × Obj)) (s : Shared) (σ : St) (H : Hp) (Q : VK), Inv X pins σ H s → t σ H Q →
    wpAny (model X.prog X.w) X.A (eval a X.env) (fun v s₁ => wpAny (model X.prog X.w) X.A (eval b X.env) (fun u s₂ => wpAny (model X.prog X.w) X.A (compareOp op v u) (EP X pins σ Q) X.xe s₂) X.xe s₁) X.xe s
theorem nobehind (b : Expr) {op : CmpOp} (h : op ≠ .In) (h2 : op ≠ .NotIn) : behindInMarks op b = false := by
  have e1 : (op == CmpOp.In) = false := by cases op <;> first | rfl | exact absurd rfl h
  have e2 : (op == CmpOp.NotIn) = false := by cases op <;> first | rfl | exact absurd rfl h2
  cases b <;> simp [behindInMarks, e1, e2]
def tCmp (p : Int → Int → Bool) (ta tb : TE) : TE := fun σ H Q => t2I ta tb (fun i j H2 => Q (.bl (p i j)) H2) σ H
abbrev tLt : TE → TE → TE := tCmp fun i j => decide (i < j)
abbrev tLe : TE → TE → TE := tCmp fun i j => decide (i ≤ j)
abbrev tGt : TE → TE → TE := tCmp fun i j => decide (j < i)
abbrev tGe : TE → TE → TE := tCmp fun i j => decide (j ≤ i)
abbrev tEqI : TE → TE → TE := tCmp fun i j => decide (i = j)
abbrev tNeI : TE → TE → TE := tCmp fun i j => !decide (i = j)
/-- a comparison of two ints, by its rule -/
theorem pc_int {op : CmpOp} {p : Int → Int → Bool} (ha : PE X a ta) (hb : PE X b tb)
    (rule : ∀ (i j : Int) (t u : Tok) (Q : Value → Shared → Prop) (s : Shared), Q (.bool (p i j)) s → wpAny (model X.prog X.w) X.A (compareOp op (.int i t) (.int j u)) Q X.xe s) : PC X op a b (tCmp p ta tb) := by
  intro pins s σ H Q I h
  refine bin ha hb I h fun v u s2 x y H2 I2 rx ry q => ?_
  obtain ⟨i, j, rfl, rfl, q⟩ := q
  obtain ⟨t, rfl⟩ := rx
  obtain ⟨t', rfl⟩ := ry
  exact rule i j t t' _ s2 ⟨.bl _, H2, I2, rfl, q⟩
theorem pc_lt (ha : PE X a ta) (hb : PE X b tb) : PC X .Lt a b (tLt ta tb) := pc_int ha hb fun _ _ _ _ _ _ h => lt_int h
theorem pc_le (ha : PE X a ta) (hb : PE X b tb) : PC X .LtE a b (tLe ta tb) := pc_int ha hb fun _ _ _ _ _ _ h => le_int h
theorem pc_gt (ha : PE X a ta) (hb : PE X b tb) : PC X .Gt a b (tGt ta tb) := pc_int ha hb fun _ _ _ _ _ _ h => gt_int h
theorem pc_ge (ha : PE X a ta) (hb : PE X b tb) : PC X .GtE a b (tGe ta tb) := pc_int ha hb fun _ _ _ _ _ _ h => ge_int h
theorem pc_eqI (ha : PE X a ta) (hb : PE X b tb) : PC X .Eq a b (tEqI ta tb) := pc_int ha hb fun _ _ _ _ _ _ h => eq_int (by rw [Bool.beq_eq_decide_eq]; exact h)
theorem pc_neI (ha : PE X a ta) (hb : PE X b tb) : PC X .NotEq a b (tNeI ta tb) := pc_int ha hb fun _ _ _ _ _ _ h => ne_int (by rw [bne, Bool.beq_eq_decide_eq]; exact h)
/-- is None -/
def tIsN (ta : TE) : TE := fun σ H Q => ta σ H fun x H1 => Q (.bl (decide (x = .non))) H1
def tNotN (ta : TE) : TE := fun σ H Q => ta σ H fun x H1 => Q (.bl (!decide (x = .non))) H1
theorem RelV.none_iff {x : V} {v : Value} (r : RelV x v) : (v == Value.none) = decide (x = .non) := by
  cases x with
  | non => cases r; rfl
  | bl _ => cases r; rfl
  | int _ => obtain ⟨t, rfl⟩ := r; rfl
  | str _ => obtain ⟨t, rfl⟩ := r; rfl
  | byt _ => obtain ⟨t, rfl⟩ := r; rfl
  | flt _ => obtain ⟨t, rfl⟩ := r; rfl
  | ref _ => cases r; rfl
  | ty _ => cases r; rfl
theorem pc_isN {j pos'} (ha : PE X a ta) : PC X .Is a (.Constant .none j pos') (tIsN ta) := by
  intro pins s σ H Q I h
  refine thn (ha pins s σ H _ I h) fun v s1 ⟨x, H1, I1, r1, q1⟩ => ?_
  exact Constant_none (is_none_gen ⟨.bl _, H1, I1, by rw [r1.none_iff]; rfl, q1⟩)
theorem pc_notN {j pos'} (ha : PE X a ta) : PC X .IsNot a (.Constant .none j pos') (tNotN ta) := by
  intro pins s σ H Q I h
  refine thn (ha pins s σ H _ I h) fun v s1 ⟨x, H1, I1, r1, q1⟩ => ?_
  exact Constant_none (isnot_none_gen ⟨.bl _, H1, I1, by rw [r1.none_iff]; rfl, q1⟩)
/-- a comparison as a value, as a test -/
def tB (t : TE) : TT := fun σ H Q => t σ H fun x H1 => ∃ c, x = .bl c ∧ Q c H1
theorem pe_cmp {op : CmpOp} {t : TE} (h : PC X op a b t) (h1 : behindInMarks op b = false := by first | exact nobehind _ (by decide) (by decide) | rfl) : PE X (.Compare a [op] [b] pos) t := fun pins s σ H Q I hw => wpAny_Compare1 (h pins s σ H Q I hw) h1
theorem pt_cmp {op : CmpOp} {t : TE} (h : PC X op a b t) (h1 : behindInMarks op b = false := by first | exact nobehind _ (by decide) (by decide) | rfl) : PT X (.Compare a [op] [b] pos) (tB t) := by
  intro pins s σ H Q I hw
  refine wpAny_isTrue_Compare1 (thn (h pins s σ H _ I hw) fun v s1 h1 => thn h1 fun u s2 h2 => thn h2 fun c s3 ⟨x, H1, I1, r1, q1⟩ => ?_) h1
  obtain ⟨d, rfl, q⟩ := q1
  cases r1
  exact wpAny_truthy_bool ⟨H1, I1, q⟩
/-- an expression whose value is a bool, as a test -/
theorem pt_val {e : Expr} {t : TE} (h : PE X e t) (he : ∀ whole, isTrue e X.env whole = (do let v ← whole; standAt e.pos; holding [v] (truthy v)) := by intro _; rfl) : PT X e (tB t) := by
  intro pins s σ H Q I hw
  refine isTrue_plain (thn (h pins s σ H _ I hw) fun v s1 ⟨x, H1, I1, r1, q1⟩ => ?_) (he _)
  obtain ⟨d, rfl, q⟩ := q1
  cases r1
  exact wpAny_truthy_bool ⟨H1, I1, q⟩

/-! ### and, or, not -/
variable {tA tB' : TT} {rest : List Expr}
def tAnd (t u : TT) : TT := fun σ H Q => t σ H fun c H1 => if c = true then u σ H1 Q else Q false H1
def tOr (t u : TT) : TT := fun σ H Q => t σ H fun c H1 => if c = true then Q true H1 else u σ H1 Q
def tNot (t : TT) : TT := fun σ H Q => t σ H fun c H1 => Q (!c) H1
theorem pw_and1 (ha : PT X a tA) : PW X (.BoolOp .And [a] pos) tA := by
  intro wh pins s σ H Q I h
  refine isTrue_and (thn (ha pins s σ H Q I h) fun c s1 e => ?_)
  cases c with
  | true => exact isTrue_and_nil e
  | false => exact e
theorem pw_or1 (ha : PT X a tA) : PW X (.BoolOp .Or [a] pos) tA := by
  intro wh pins s σ H Q I h
  refine isTrue_or (thn (ha pins s σ H Q I h) fun c s1 e => ?_)
  cases c with
  | false => exact isTrue_or_nil e
  | true => exact e
theorem pw_and (ha : PT X a tA) (hb : PW X (.BoolOp .And (b :: rest) pos) tB') : PW X (.BoolOp .And (a :: b :: rest) pos) (tAnd tA tB') := by
  intro wh pins s σ H Q I h
  refine isTrue_and (thn (ha pins s σ H _ I h) fun c s1 ⟨H1, I1, q1⟩ => ?_)
  cases c with
  | true => exact hb wh pins s1 σ H1 Q I1 q1
  | false => exact ⟨H1, I1, q1⟩
theorem pw_or (ha : PT X a tA) (hb : PW X (.BoolOp .Or (b :: rest) pos) tB') : PW X (.BoolOp .Or (a :: b :: rest) pos) (tOr tA tB') := by
  intro wh pins s σ H Q I h
  refine isTrue_or (thn (ha pins s σ H _ I h) fun c s1 ⟨H1, I1, q1⟩ => ?_)
  cases c with
  | true => exact ⟨H1, I1, q1⟩
  | false => exact hb wh pins s1 σ H1 Q I1 q1
theorem pt_not (ha : PT X a tA) : PT X (.UnaryOp .Not a pos) (tNot tA) := by
  intro pins s σ H Q I h
  exact isTrue_not (ha pins s σ H (fun c H1 => Q (!c) H1) I h)
/-- .. as values (bools) -/
def tAndV (ta tb : TE) : TE := fun σ H Q => ta σ H fun x H1 => ∃ c, x = .bl c ∧ if c = true then tb σ H1 Q else Q (.bl false) H1
def tOrV (ta tb : TE) : TE := fun σ H Q => ta σ H fun x H1 => ∃ c, x = .bl c ∧ if c = true then Q (.bl true) H1 else tb σ H1 Q
def tNotV (ta : TE) : TE := fun σ H Q => ta σ H fun x H1 => ∃ c, x = .bl c ∧ Q (.bl (!c)) H1
theorem pe_one {op} {t : TE} (h : PE X a t) : PE X (.BoolOp op [a] pos) t := fun pins s σ H Q I hw => BoolOp_one (h pins s σ H Q I hw)
theorem pe_and (ha : PE X a ta) (hb : PE X (.BoolOp .And (b :: rest) pos) tb) : PE X (.BoolOp .And (a :: b :: rest) pos) (tAndV ta tb) := by
  intro pins s σ H Q I h
  refine BoolOp_and (thn (ha pins s σ H _ I h) fun v s1 ⟨x, H1, I1, r1, q1⟩ => ?_)
  obtain ⟨c, rfl, q1⟩ := q1
  cases r1
  refine wpAny_truthy_bool ?_
  cases c with
  | true => exact hb pins s1 σ H1 Q I1 q1
  | false => exact ⟨.bl false, H1, I1, rfl, q1⟩
theorem pe_or (ha : PE X a ta) (hb : PE X (.BoolOp .Or (b :: rest) pos) tb) : PE X (.BoolOp .Or (a :: b :: rest) pos) (tOrV ta tb) := by
  intro pins s σ H Q I h
  refine BoolOp_or (thn (ha pins s σ H _ I h) fun v s1 ⟨x, H1, I1, r1, q1⟩ => ?_)
  obtain ⟨c, rfl, q1⟩ := q1
  cases r1
  refine wpAny_truthy_bool ?_
  cases c with
  | false => exact hb pins s1 σ H1 Q I1 q1
  | true => exact ⟨.bl true, H1, I1, rfl, q1⟩
theorem pe_not (ha : PE X a ta) : PE X (.UnaryOp .Not a pos) (tNotV ta) := by
  intro pins s σ H Q I h
  refine UnaryOp_ (thn (ha pins s σ H _ I h) fun v s1 ⟨x, H1, I1, r1, q1⟩ => ?_)
  obtain ⟨c, rfl, q1⟩ := q1
  cases r1
  exact not_of (wpAny_truthy_bool ⟨.bl (!c), H1, I1, rfl, q1⟩)
/-- a if t else b -/
def tIf (t : TT) (ta tb : TE) : TE := fun σ H Q => t σ H fun c H1 => if c = true then ta σ H1 Q else tb σ H1 Q
theorem pe_ifExp {c : Expr} (hc : PT X c tA) (ha : PE X a ta) (hb : PE X b tb) : PE X (.IfExp c a b pos) (tIf tA ta tb) := by
  intro pins s σ H Q I h
  refine wpAny_IfExp (thn (hc pins s σ H _ I h) fun d s1 ⟨H1, I1, q1⟩ => ?_)
  cases d with
  | true => exact ha pins s1 σ H1 Q I1 q1
  | false => exact hb pins s1 σ H1 Q I1 q1
end
end L2

namespace L2
open PySem PySem.Spec PyProof.Rows

/-! ### a list, a tuple that is read: tracked, frozen, or an object of the module -/
def SqL (K : PySem.W.Frag) (H : Hp) (a : Addr) (xs : List V) : Prop :=
  Rd H a (.lst xs) ∨
    ∃ (o : Obj) (its : Array Value) (n : Nat), K.lookup a = some o ∧ o.cls = .type "list" ∧ o.dict = none ∧ o.data = .seq its n ∧ its.size ≤ sizeLine ∧ Vals xs its.toList
def SqT (K : PySem.W.Frag) (H : Hp) (a : Addr) (xs : List V) : Prop :=
  Rd H a (.tup xs) ∨
    ∃ (o : Obj) (its : Array Value) (n : Nat), K.lookup a = some o ∧ o.cls = .type "tuple" ∧ o.data = .seq its n ∧ its.size ≤ sizeLine ∧ Vals xs its.toList
def absV : Value → Option V
  | .none => some .non
  | .bool b => some (.bl b)
  | .int i _ => some (.int i)
  | .str x _ => some (.str x)
  | .bytes b _ => some (.byt b)
  | .float b _ => some (.flt b)
  | .ref a => some (.ref a)
  | .type n => some (.ty n)
  | _ => none
theorem RelV.abs {x : V} {u : Value} (r : RelV x u) : absV u = some x := by
  cases x with
  | non => cases r; rfl
  | bl _ => cases r; rfl
  | int _ => obtain ⟨t, rfl⟩ := r; rfl
  | str _ => obtain ⟨t, rfl⟩ := r; rfl
  | byt _ => obtain ⟨t, rfl⟩ := r; rfl
  | flt _ => obtain ⟨t, rfl⟩ := r; rfl
  | ref _ => cases r; rfl
  | ty _ => cases r; rfl
theorem RelV.inj {x y : V} {u : Value} (r : RelV x u) (q : RelV y u) : x = y := Option.some.inj (r.abs.symm.trans q.abs)
theorem Vals.inj : ∀ {xs ys : List V} {us : List Value}, Vals xs us → Vals ys us → xs = ys
  | _, _, _, .nil, .nil => rfl
  | _, _, _, .cons r t, .cons r' t' => by rw [r.inj r', Vals.inj t t']
section
variable {X : Cx} {pins : List (Addr × Obj)} {σ : St} {H : Hp} {s : Shared} {a : Addr} {xs ys : List V}
theorem SqL.of {K : PySem.W.Frag} (h : H a = some (.lst xs)) : SqL K H a xs := .inl (.inl h)
theorem SqT.of {K : PySem.W.Frag} (h : H a = some (.tup xs)) : SqT K H a xs := .inl (.inl h)
theorem Inv.list (I : Inv X pins σ H s) (h : SqL X.K H a xs) : ∃ its : List Value, Vals xs its ∧ PlainL s.heap a its.toArray ∧ xs.length ≤ sizeLine := by
  rcases h with h | ⟨o, its, n, hk, hc, hd, hs, hz, r⟩
  · obtain ⟨z, its, n, r, e⟩ := h.ok I.hok
    exact ⟨its, r, ⟨_, n, e, rfl, rfl, rfl⟩, z⟩
  · refine ⟨its.toList, r, ⟨o, n, I.kIn a o hk, hc, hd, by simpa using hs⟩, ?_⟩
    have e := r.length
    simp only [Array.length_toList] at e
    omega
theorem Inv.tuple (I : Inv X pins σ H s) (h : SqT X.K H a xs) : ∃ its : List Value, Vals xs its ∧ IsTup s.heap a its.toArray ∧ xs.length ≤ sizeLine := by
  rcases h with h | ⟨o, its, n, hk, hc, hs, hz, r⟩
  · obtain ⟨z, its, r, p⟩ := h.ok I.hok
    exact ⟨its, r, p, z⟩
  · refine ⟨its.toList, r, ⟨o, I.kIn a o hk, hc, n, by simpa using hs⟩, ?_⟩
    have e := r.length
    simp only [Array.length_toList] at e
    omega
theorem Inv.list_inj (I : Inv X pins σ H s) (h : SqL X.K H a xs) (h' : SqL X.K H a ys) : xs = ys := by
  obtain ⟨its, r, ⟨o, n, e, _, _, d⟩, _⟩ := I.list h
  obtain ⟨its', r', ⟨o', n', e', _, _, d'⟩, _⟩ := I.list h'
  rw [e] at e'; cases e'
  rw [d] at d'
  injection d' with d1 _
  have : its = its' := by simpa using congrArg Array.toList d1
  subst this
  exact r.inj r'
theorem Inv.tuple_inj (I : Inv X pins σ H s) (h : SqT X.K H a xs) (h' : SqT X.K H a ys) : xs = ys := by
  obtain ⟨its, r, ⟨o, e, _, n, d⟩, _⟩ := I.tuple h
  obtain ⟨its', r', ⟨o', e', _, n', d'⟩, _⟩ := I.tuple h'
  rw [e] at e'; cases e'
  rw [d] at d'
  injection d' with d1 _
  have : its = its' := by simpa using congrArg Array.toList d1
  subst this
  exact r.inj r'
end

/-! ### another wish about exceptions -/
abbrev Cx.wish (X : Cx) (E : Value → Shared → Prop) : Cx := { X with xe := E }
/-- no exception leaves -/
abbrev Cx.nox (X : Cx) : Cx := X.wish fun _ _ => False
theorem Cx.Ok.wish {X : Cx} (ok : X.Ok) (E : Value → Shared → Prop) : (X.wish E).Ok :=
  ⟨ok.mod, ok.kind, ok.glob, ok.blt, ok.above, ok.inj, ok.has, ok.cab, ok.hd, ok.frames, ok.stk, ok.exf, ok.bs, ok.bsz, ok.noex, ok.exfs, ok.funs, ok.frf⟩
theorem Cx.Ok.unwish {X : Cx} {E : Value → Shared → Prop} (ok : (X.wish E).Ok) : X.Ok :=
  ⟨ok.mod, ok.kind, ok.glob, ok.blt, ok.above, ok.inj, ok.has, ok.cab, ok.hd, ok.frames, ok.stk, ok.exf, ok.bs, ok.bsz, ok.noex, ok.exfs, ok.funs, ok.frf⟩
section
variable {X : Cx} {pins : List (Addr × Obj)} {σ : St} {H : Hp} {s : Shared} {E : Value → Shared → Prop}
theorem Inv.wish (I : Inv X pins σ H s) (E : Value → Shared → Prop) : Inv (X.wish E) pins σ H s := ⟨I.ok.wish E, I.os, I.bare, I.base, I.loc, I.cell, I.free, I.freeC, I.pin, I.hok, I.len⟩
theorem Inv.unwish (I : Inv (X.wish E) pins σ H s) : Inv X pins σ H s := ⟨I.ok.unwish, I.os, I.bare, I.base, I.loc, I.cell, I.free, I.freeC, I.pin, I.hok, I.len⟩
theorem SP.unwish {D : Ends} {f : Flow} {s' : Shared} (h : SP (X.wish E) pins D f s') : SP X pins D f s' := by
  cases f with
  | next => obtain ⟨σ', H', I, q⟩ := h; exact ⟨σ', H', I.unwish, q⟩
  | brk => obtain ⟨σ', H', I, q⟩ := h; exact ⟨σ', H', I.unwish, q⟩
  | cont => obtain ⟨σ', H', I, q⟩ := h; exact ⟨σ', H', I.unwish, q⟩
  | ret u => obtain ⟨v, σ', H', I, r, q⟩ := h; exact ⟨v, σ', H', I.unwish, r, q⟩
theorem PE.nox {e : Expr} {t : TE} (h : PE X.nox e t) : PE X e t := fun pins s σ H Q I hw =>
  wpAny_mono (h pins s σ H Q (I.wish _) hw) (fun _ _ ⟨v, H', I', r, q⟩ => ⟨v, H', I'.unwish, r, q⟩) fun _ _ z => False.elim z
theorem PT.nox {e : Expr} {t : TT} (h : PT X.nox e t) : PT X e t := fun pins s σ H Q I hw =>
  wpAny_mono (h pins s σ H Q (I.wish _) hw) (fun _ _ ⟨H', I', q⟩ => ⟨H', I'.unwish, q⟩) fun _ _ z => False.elim z
theorem PSs.nox {st : List Stmt} {t : TS} (h : PSs X.nox st t) : PSs X st t := fun pins s σ H D I hw =>
  wpAny_mono (h pins s σ H D (I.wish _) hw) (fun _ _ q => q.unwish) fun _ _ z => False.elim z
end

/-! ### blocks and small statements -/
section
variable {X : Cx} {st : Stmt} {rest : List Stmt} {t u : TS} {e : Expr} {te : TE} {pos : Pos}
def tNext : TS := fun D σ H => D.nx σ H
def tSeq (t u : TS) : TS := fun D σ H => t { D with nx := u D } σ H
theorem pss_nil : PSs X [] tNext := fun _ _ σ H _ I h => wpAny_execs_nil ⟨σ, H, I, h⟩
theorem pss_cons (h1 : PS X st t) (h2 : PSs X rest u) : PSs X (st :: rest) (tSeq t u) := by
  intro pins s σ H D I h
  refine wpAny_execs_cons (thn (h1 pins s σ H { D with nx := u D } I h) fun f s1 q => ?_)
  cases f with
  | next =>
    obtain ⟨σ', H', I', q⟩ := q
    exact h2 pins s1 σ' H' D I' q
  | ret v => exact q
  | brk => exact q
  | cont => exact q
theorem pss_one (h1 : PS X st t) : PSs X [st] t := by
  intro pins s σ H D I h
  refine wpAny_execs_cons (thn (h1 pins s σ H D I h) fun f s1 q => ?_)
  cases f with
  | next => exact wpAny_execs_nil q
  | ret v => exact q
  | brk => exact q
  | cont => exact q
def tBreak : TS := fun D σ H => D.bk σ H
def tCont : TS := fun D σ H => D.ct σ H
theorem ps_pass : PS X (.Pass pos) tNext := fun _ _ σ H _ I h => wpAny_Pass ⟨σ, H, I, h⟩
theorem ps_break : PS X (.Break pos) tBreak := fun _ _ σ H _ I h => wpAny_Break ⟨σ, H, I, h⟩
theorem ps_continue : PS X (.Continue pos) tCont := fun _ _ σ H _ I h => wpAny_Continue ⟨σ, H, I, h⟩
/-- in a def's body nothing is shown -/
theorem Inv.quiet {pins : List (Addr × Obj)} {σ : St} {H : Hp} {s : Shared} (I : Inv X pins σ H s) : interactive X.env = false := by simp [interactive, I.ok.kind]
/-- a docstring -/
theorem ps_doc {x j pos pos'} : PS X (.Expr (.Constant (.str x) j pos) pos') tNext := fun _ s σ H _ I h => wpAny_Expr (Calls.Constant_str (show SP X _ _ .next { s with toks := s.toks + 1 } from ⟨σ, H, I.tok _, h⟩)) I.quiet
/-- an expression whose value is dropped -/
def tDrop (te : TE) : TS := fun D σ H => te σ H fun _ H1 => D.nx σ H1
theorem ps_expr (he : PE X e te) (hs : swapsWith e none pos.line X.env = pure false := by rfl) : PS X (.Expr e pos) (tDrop te) := by
  intro pins s σ H D I h
  exact wpAny_Expr_any (thn (he pins s σ H _ I h) fun v s1 ⟨x, H1, I1, r1, q1⟩ => ⟨σ, H1, I1, q1⟩) I.quiet hs
def tRet (te : TE) : TS := fun D σ H => te σ H D.rt
theorem ps_ret (he : PE X e te) : PS X (.Return (some e) pos) (tRet te) := by
  intro pins s σ H D I h
  exact wpAny_Return_some (thn (he pins s σ H _ I h) fun v s1 ⟨x, H1, I1, r1, q1⟩ => ⟨x, σ, H1, I1, r1, q1⟩)
def tRetN : TS := fun D _ H => D.rt .non H
theorem ps_retN : PS X (.Return none pos) tRetN := fun _ _ σ H _ I h => wpAny_Return_none ⟨.non, σ, H, I, rfl, h⟩
def tIfS (c : TT) (t u : TS) : TS := fun D σ H => c σ H fun b H1 => if b = true then t D σ H1 else u D σ H1
theorem ps_if {c : Expr} {a b : List Stmt} {tc : TT} (hc : PT X c tc) (ha : PSs X a t) (hb : PSs X b u) : PS X (.If c a b pos) (tIfS tc t u) := by
  intro pins s σ H D I h
  refine wpAny_If (thn (hc pins s σ H _ I h) fun d s1 ⟨H1, I1, q1⟩ => ?_)
  cases d with
  | true => exact ha pins s1 σ H1 D I1 q1
  | false => exact hb pins s1 σ H1 D I1 q1
/-- code that the proof never comes to -/
def tNever : TS := fun _ _ _ => False
theorem ps_never : PS X st tNever := fun _ _ _ _ _ _ h => h.elim
theorem pss_never {sts : List Stmt} : PSs X sts tNever := fun _ _ _ _ _ _ h => h.elim
end

/-! ### targets -/
abbrev TG := V → St → Hp → (St → Hp → Prop) → Prop
abbrev TGs := List V → St → Hp → (St → Hp → Prop) → Prop
def PG (X : Cx) (target : Expr) (t : TG) : Prop :=
  ∀ (pins : List (Addr × Obj)) (s : Shared) (σ : St) (H : Hp) (v : V) (u : Value) (Q : St → Hp → Prop), Inv X pins σ H s → RelV v u → t v σ H Q →
    wpAny (model X.prog X.w) X.A (assign target X.env u) (fun _ s' => ∃ σ' H', Inv X pins σ' H' s' ∧ Q σ' H') X.xe s
/-- several targets, one after another -/
def PGs (X : Cx) (ts : List Expr) (t : TGs) : Prop :=
  ∀ (pins : List (Addr × Obj)) (s : Shared) (σ : St) (H : Hp) (vs : List V) (us : List Value) (Q : St → Hp → Prop), Inv X pins σ H s → Vals vs us → t vs σ H Q →
    wpAny (model X.prog X.w) X.A (assignInOrder ((assignEach ts X.env).map (·.2)) us) (fun _ s' => ∃ σ' H', Inv X pins σ' H' s' ∧ Q σ' H') X.xe s
/-- o[i] = v, by values -/
abbrev TSet := V → V → V → Hp → (Hp → Prop) → Prop
def PSet (X : Cx) (t : TSet) : Prop :=
  ∀ (pins : List (Addr × Obj)) (s : Shared) (σ : St) (H : Hp) (o i v : V) (ov iv u : Value) (Q : Hp → Prop), Inv X pins σ H s → RelV o ov → RelV i iv → RelV v u → t o i v H Q →
    wpAny (model X.prog X.w) X.A (setItem ov iv u) (fun _ s' => ∃ H', Inv X pins σ H' s' ∧ Q H') X.xe s
/-- a op= b, by values -/
abbrev TIp := V → V → Hp → VK → Prop
def PIp (X : Cx) (op : Operator) (t : TIp) : Prop :=
  ∀ (pins : List (Addr × Obj)) (s : Shared) (σ : St) (H : Hp) (x y : V) (v u : Value) (Q : VK), Inv X pins σ H s → RelV x v → RelV y u → t x y H Q →
    wpAny (model X.prog X.w) X.A (inplaceOp op v u) (EP X pins σ Q) X.xe s
section
variable {X : Cx} {pos : Pos}
def gName (i : Nat) : TG := fun v σ H Q => Q (σ.set i (some v)) H
theorem pg_name {i : Nat} {x : Str} (hN : X.N.Nodup) (hi : X.N[i]? = some x) (hx : Loc X.env.scope x) (hf : X.fn x = true ∨ X.env.scope.names.lookup x = some .local := by first | exact .inl rfl | exact .inr rfl | assumption) : PG X (.Name x pos) (gName i) := by
  intro pins s σ H v u Q I r h
  exact wpAny_assign_Name (store_ok I hN hi hx r (fun s' I' => ⟨_, H, I', h⟩) hf)
def gNil : TGs := fun vs σ H Q => vs = [] ∧ Q σ H
def gCons (t : TG) (u : TGs) : TGs := fun vs σ H Q => ∃ v r, vs = v :: r ∧ t v σ H fun σ' H' => u r σ' H' Q
theorem pgs_nil : PGs X [] gNil := by
  intro pins s σ H vs us Q I r h
  obtain ⟨e, h⟩ := h
  subst e
  cases r
  exact assignInOrder_nil ⟨σ, H, I, h⟩
theorem pgs_cons {e : Expr} {es : List Expr} {t : TG} {u : TGs} (h1 : PG X e t) (h2 : PGs X es u)
    (hs : (assignEach (e :: es) X.env).map (·.2) = assign e X.env :: (assignEach es X.env).map (·.2) := by rfl) : PGs X (e :: es) (gCons t u) := by
  intro pins s σ H vs us Q I r h
  obtain ⟨v, vr, e1, h⟩ := h
  subst e1
  cases r with
  | cons r rr =>
    rw [hs]
    refine assignInOrder_cons (thn (h1 pins s σ H _ _ _ I r h) fun _ s1 ⟨σ1, H1, I1, q1⟩ => ?_)
    exact h2 pins s1 σ1 H1 _ _ Q I1 rr q1
/-- (a, b, ..) = a tuple of that length -/
def gTup (K : PySem.W.Frag) (n : Nat) (t : TGs) : TG := fun v σ H Q => ∃ a xs, v = .ref a ∧ SqT K H a xs ∧ xs.length = n ∧ t xs σ H Q
theorem pg_tup {es : List Expr} {k : Nat} {t : TGs} {n : Nat} (hc : X.calm = true) (h : PGs X es t)
    (hn : (assignEach es X.env).length = n := by rfl) (hst : (assignEach es X.env).findIdx? (·.1) = none := by rfl) : PG X (.Tuple es k pos) (gTup X.K n t) := by
  intro pins s σ H v u Q I r hw
  obtain ⟨a, xs, e1, hq, hl, hw⟩ := hw
  subst e1
  cases r
  obtain ⟨its, rv, ht, hz⟩ := I.tuple hq
  refine assign_Tuple_tuple (I.ok.hd hc) ht (by simp [hn, ← hl, rv.length]) hst fun h' hx => ?_
  have I1 : Inv X pins σ H { s with heap := h' } := I.kept (t' := s.toks) fun b o e => hx b o (Nat.ne_of_lt (Heap.lt_size e)) e
  exact h pins _ σ H xs _ Q I1 (by simpa using rv) hw
/-- o[i] = .. -/
def gSub (to ti : TE) (t : TSet) : TG := fun v σ H Q => to σ H fun o H1 => ti σ H1 fun i H2 => t o i v H2 fun H3 => Q σ H3
theorem pg_sub {o i : Expr} {to ti : TE} {t : TSet} (ho : PE X o to) (hi : PE X i ti) (hs : PSet X t)
    (ha : ∀ v, assign (.Subscript o i pos) X.env v = (do
      let ov ← holding [v] (eval o X.env)
      let iv ← holding [v, ov] (eval i X.env)
      standAt pos
      holding [v, ov, iv] (setItem ov iv v)
      release [v, ov, iv] []) := by intro _; rfl) : PG X (.Subscript o i pos) (gSub to ti t) := by
  intro pins s σ H v u Q I r h
  rw [ha]
  refine wpAny_bind (wpAny_holding (thn (ho pins s σ H _ I h) fun ov s1 ⟨x, H1, I1, r1, q1⟩ => ?_))
  refine wpAny_bind (wpAny_holding (thn (hi pins s1 σ H1 _ I1 q1) fun iv s2 ⟨y, H2, I2, r2, q2⟩ => ?_))
  refine wpAny_bind (wpAny_standAt (wpAny_bind (wpAny_holding (thn (hs pins s2 σ H2 x y v ov iv u _ I2 r1 r2 r q2) fun _ s3 ⟨H3, I3, q3⟩ => ?_))))
  exact wpAny_release ⟨σ, H3, I3, q3⟩
/-- target = value -/
def tAsg (te : TE) (g : TG) : TS := fun D σ H => te σ H fun x H1 => g x σ H1 D.nx
theorem ps_asg {tg e : Expr} {te : TE} {g : TG} (he : PE X e te) (hg : PG X tg g) (hs : swapsWithSole [tg] e pos.line X.env = pure false := by rfl) (hw : swappedStores [tg] e X.env = pure none := by rfl)
    (h1 : (assignEach [tg] X.env).map (·.2) = [assign tg X.env] := by rfl) : PS X (.Assign [tg] e pos) (tAsg te g) := by
  intro pins s σ H D I h
  refine wpAny_Assign_stores (thn (he pins s σ H _ I h) fun v s1 ⟨x, H1, I1, r1, q1⟩ => ?_) hs hw
  rw [h1]
  exact thn (hg pins s1 σ H1 x v _ I1 r1 q1) fun _ s2 q => q
/-- name = value -/
theorem ps_set {i : Nat} {x : Str} {e : Expr} {te : TE} {pos' : Pos} (hN : X.N.Nodup) (hi : X.N[i]? = some x) (hx : Loc X.env.scope x) (he : PE X e te) (hs : swapsWith e (some (.Name x pos')) pos.line X.env = pure false := by rfl) (hf : X.fn x = true ∨ X.env.scope.names.lookup x = some .local := by first | exact .inl rfl | exact .inr rfl | assumption) :
    PS X (.Assign [.Name x pos'] e pos) (tAsg te (gName i)) := by
  intro pins s σ H D I h
  refine wpAny_Assign_Name (thn (he pins s σ H _ I h) fun v s1 ⟨y, H1, I1, r1, q1⟩ => ?_) hs
  exact store_ok I1 hN hi hx r1 (fun s2 I2 => ⟨_, H1, I2, q1⟩) hf
/-- a, b = x, y with plain local names: stored from the right; the pair itself is not tracked (the opening rows as in PyProof/Rows/TupAssign.lean:23) -/
def tPar (i j : Nat) (ta : TA) : TS := fun D σ H => ta σ H fun vs H1 => ∃ v w, vs = [v, w] ∧ D.nx ((σ.set i (some v)).set j (some w)) H1
theorem ps_par {i j : Nat} {x y : Str} {a b : Expr} {ta : TA} {px py pt : Pos} {kt k2 pt2} (hc : X.calm = true) (hN : X.N.Nodup) (hi : X.N[i]? = some x) (hj : X.N[j]? = some y) (hij : i ≠ j)
    (hx : X.env.scope.names.lookup x = some .local) (hy : X.env.scope.names.lookup y = some .local) (ha : PA X [a, b] ta)
    (hw : swappedStores [.Tuple [.Name x px, .Name y py] kt pt] (.Tuple [a, b] k2 pt2) X.env = pure (some [x, y]))
    (hs : swapsWithSole [.Tuple [.Name x px, .Name y py] kt pt] (.Tuple [a, b] k2 pt2) pos.line X.env = pure false := by rfl) :
    PS X (.Assign [.Tuple [.Name x px, .Name y py] kt pt] (.Tuple [a, b] k2 pt2) pos) (tPar i j ta) := by
  intro pins s σ H D I h
  rw [exec_Assign_arm]
  refine wpAny_bind (wpAny_standAt ?_)
  rw [hs]
  refine wpAny_bind (wpAny_pure ?_)
  rw [if_neg (by decide)]
  refine wpAny_bind (Tuple_ (thn (ha _ pins s σ H _ I h) fun us s1 ⟨vs, H1, I1, r1, q1⟩ => ?_))
  obtain ⟨v, w, e1, q1⟩ := q1
  subst e1
  obtain ⟨u1, u2, rfl, rv, rw'⟩ : ∃ u1 u2, us = [u1, u2] ∧ RelV v u1 ∧ RelV w u2 := by
    cases r1 with
    | cons p q =>
      cases q with
      | cons p' q' =>
        cases q'
        exact ⟨_, _, rfl, p, p'⟩
  refine wpAny_newObj_type ?_ (by show 2 ≤ sizeLine; decide)
  have I2 : Inv X pins σ H1 { s1 with heap := s1.heap.push { cls := .type "tuple", data := .seq [u1, u2].toArray } } := I1.kept (t' := s1.toks) fun b o e => Heap.get?_push_of_some _ e
  rw [hw]
  refine wpAny_bind (wpAny_pure ?_)
  show wpAny (model X.prog X.w) X.A (do rule "assign.swapped-stores"; let items ← unpackItems (.ref s1.heap.objs.size) 2 none; assignInOrder [fun v => bindName X.env y v, fun v => bindName X.env x v] items.reverse; pure Flow.next) _ _ _
  refine wpAny_bind (wpAny_rule (wpAny_bind (unpackItems_tuple (items := #[u1, u2]) (I.ok.hd hc) (IsTup.new s1.heap _) fun h' hx' => ?_)))
  have I3 := I2.kept (h' := h') (t' := s1.toks) fun b o e => hx' b o (Nat.ne_of_lt (Heap.lt_size e)) e
  show wpAny _ _ (assignInOrder [fun v => bindName X.env y v, fun v => bindName X.env x v] [u2, u1] >>= fun _ => pure Flow.next) _ _ _
  refine wpAny_bind (assignInOrder_cons (wpAny_bindName (store_ok I3 hN hj (.inl hy) rw' (fun s2 I4 => ?_) (.inr hy))))
  refine assignInOrder_cons (wpAny_bindName (store_ok I4 hN hi (.inl hx) rv (fun s3 I5 => assignInOrder_nil (wpAny_pure ?_)) (.inr hx)))
  rw [List.set_comm _ _ (Ne.symm hij)] at I5
  exact ⟨_, H1, I5, q1⟩
/-- name op= e -/
def tAug (i : Nat) (te : TE) (ti : TIp) : TS := fun D σ H => ∃ x, σ[i]? = some (some x) ∧ te σ H fun y H1 => ti x y H1 fun z H2 => D.nx (σ.set i (some z)) H2
theorem ps_aug {i : Nat} {x : Str} {e : Expr} {te : TE} {op : Operator} {ti : TIp} {pos' : Pos} (hN : X.N.Nodup) (hi : X.N[i]? = some x) (hx : Loc X.env.scope x) (he : PE X e te) (ho : PIp X op ti) (hf : X.fn x = true ∨ X.env.scope.names.lookup x = some .local := by first | exact .inl rfl | exact .inr rfl | assumption) :
    PS X (.AugAssign (.Name x pos') op e pos) (tAug i te ti) := by
  intro pins s σ H D I h
  obtain ⟨v, e1, h⟩ := h
  obtain ⟨m, hn, hl⟩ := I.loc
  have vis : Vis X.env.scope x := by rcases hx with k | k; exact .inl k; exact .inr (.inl k)
  obtain ⟨u, r, l⟩ := hl i x v hi e1 vis
  refine wpAny_AugAssign_Name ?_
  have go : wpAny (model X.prog X.w) X.A (eval e X.env) (fun w s₂ => wpAny (model X.prog X.w) X.A (inplaceOp op u w) (fun r s₃ => wpAny (model X.prog X.w) X.A (storeName X.env x r) (fun _ => SP X pins D .next) X.xe s₃) X.xe s₂) X.xe s := by
    refine thn (he pins s σ H _ I h) fun w s1 ⟨y, H1, I1, r1, q1⟩ => ?_
    refine thn (ho pins s1 σ H1 v y u w _ I1 r r1 q1) fun z s2 ⟨zv, H2, I2, r2, q2⟩ => ?_
    exact store_ok I2 hN hi hx r2 (fun s3 I3 => ⟨_, H2, I3, q2⟩) hf
  rcases l with ⟨hk, hm⟩ | ⟨hk, c, hc, hcell⟩
  · exact wpAny_loadName_local I.ok.kind hk hn hm go
  · rcases hk with hk | hk
    · exact wpAny_loadName_cell I.ok.kind hk hc hcell go
    · rcases hx with k | k
      · have : X.env.scope.names.lookup x = some .free := hk
        rw [k] at this; cases this
      · have : X.env.scope.names.lookup x = some .free := hk
        rw [k] at this; cases this
/-- o[i] op= e -/
def tAugS (to ti te : TE) (tget : V → V → Hp → VK → Prop) (tip : TIp) (tset : TSet) : TS := fun D σ H => to σ H fun o H1 => ti σ H1 fun i H2 => tget o i H2 fun x H3 => te σ H3 fun y H4 => tip x y H4 fun z H5 => tset o i z H5 fun H6 => D.nx σ H6
/-- o[i], by values -/
def PGet (X : Cx) (t : V → V → Hp → VK → Prop) : Prop :=
  ∀ (pins : List (Addr × Obj)) (s : Shared) (σ : St) (H : Hp) (o i : V) (ov iv : Value) (Q : VK), Inv X pins σ H s → RelV o ov → RelV i iv → t o i H Q →
    wpAny (model X.prog X.w) X.A (getItem ov iv) (EP X pins σ Q) X.xe s
theorem ps_augS {o i e : Expr} {to ti te : TE} {tget : V → V → Hp → VK → Prop} {tip : TIp} {tset : TSet} {op : Operator} {tpos : Pos} (ho : PE X o to) (hi : PE X i ti) (hg : PGet X tget) (he : PE X e te) (hp : PIp X op tip) (hs : PSet X tset)
    (ha : ∀ ov iv new, augStore i ov iv new = (do holding [new, ov, iv] (setItem ov iv new); release [new, ov, iv] []; pure .next) := by intros; rfl) : PS X (.AugAssign (.Subscript o i tpos) op e pos) (tAugS to ti te tget tip tset) := by
  intro pins s σ H D I h
  refine wpAny_AugAssign_SubscriptAny (thn (ho pins s σ H _ I h) fun ov s1 ⟨x1, H1, I1, r1, q1⟩ => ?_) ha
  refine thn (hi pins s1 σ H1 _ I1 q1) fun iv s2 ⟨x2, H2, I2, r2, q2⟩ => ?_
  refine thn (hg pins s2 σ H2 x1 x2 ov iv _ I2 r1 r2 q2) fun old s3 ⟨x3, H3, I3, r3, q3⟩ => ?_
  refine thn (he pins s3 σ H3 _ I3 q3) fun v s4 ⟨x4, H4, I4, r4, q4⟩ => ?_
  refine thn (hp pins s4 σ H4 x3 x4 old v _ I4 r3 r4 q4) fun new s5 ⟨x5, H5, I5, r5, q5⟩ => ?_
  exact thn (hs pins s5 σ H5 x1 x2 x5 ov iv new _ I5 r1 r2 r5 q5) fun _ s6 ⟨H6, I6, q6⟩ => ⟨σ, H6, I6, q6⟩
/-- ints -/
def ipI (f : Int → Int → Int) : TIp := fun x y H Q => ∃ i j, x = .int i ∧ y = .int j ∧ Q (.int (f i j)) H
theorem ip_add : PIp X .Add (ipI fun i j => i + j) := by
  intro pins s σ H x y v u Q I r1 r2 h
  obtain ⟨i, j, e1, e2, q⟩ := h
  subst e1; subst e2
  obtain ⟨t, rfl⟩ := r1
  obtain ⟨t', rfl⟩ := r2
  exact iadd_int ⟨.int _, H, I.tok _, ⟨_, rfl⟩, q⟩
theorem ip_sub : PIp X .Sub (ipI fun i j => i - j) := by
  intro pins s σ H x y v u Q I r1 r2 h
  obtain ⟨i, j, e1, e2, q⟩ := h
  subst e1; subst e2
  obtain ⟨t, rfl⟩ := r1
  obtain ⟨t', rfl⟩ := r2
  exact isub_int ⟨.int _, H, I.tok _, ⟨_, rfl⟩, q⟩
end

/-! ### while -/
section
variable {X : Cx} {pos : Pos}
/-- the invariant W with its measure -/
def tWhile (c : TT) (tb : TS) : TS := fun D σ H => ∃ W : Nat → St → Hp → Prop, (∃ m, W m σ H) ∧ ∀ m σ H, W m σ H →
  c σ H fun b H1 => if b = true then ∃ N : St → Hp → Prop, (∀ σ' H', N σ' H' → ∃ m', m' < m ∧ W m' σ' H') ∧ tb { D with nx := N, ct := N, bk := D.nx } σ H1 else D.nx σ H1
theorem ps_while {c : Expr} {body : List Stmt} {tc : TT} {tb : TS} (hp : PassesOwn (model X.prog X.w) X.A X.env X.xe) (hc : PT X c tc) (hb : PSs X body tb) : PS X (.While c body [] pos) (tWhile tc tb) := by
  intro pins s σ H D I h
  obtain ⟨W, ⟨m0, w0⟩, turn⟩ := h
  refine wpAny_While (codeAny_whileLoop (fun n s' => ∃ σ' H', Inv X pins σ' H' s' ∧ W n σ' H') ?_ m0 ⟨σ, H, I, w0⟩)
  rintro n s1 ⟨σ1, H1, I1, w1⟩
  refine wpAny_passesOwn hp (thn (hc pins s1 σ1 H1 _ I1 (turn n σ1 H1 w1)) fun b s2 ⟨H2, I2, q2⟩ => ?_)
  cases b with
  | true =>
    obtain ⟨N, hN, q2⟩ := q2
    rw [if_pos rfl]
    refine wpAny_passesOwn hp (thn (hb pins s2 σ1 H2 _ I2 q2) fun f s3 q3 => ?_)
    cases f with
    | next =>
      obtain ⟨σ3, H3, I3, n3⟩ := q3
      obtain ⟨m', hm, w3⟩ := hN σ3 H3 n3
      exact ⟨m', hm, σ3, H3, I3, w3⟩
    | cont =>
      obtain ⟨σ3, H3, I3, n3⟩ := q3
      obtain ⟨m', hm, w3⟩ := hN σ3 H3 n3
      exact ⟨m', hm, σ3, H3, I3, w3⟩
    | brk => exact q3
    | ret v => exact q3
  | false =>
    rw [if_neg Bool.false_ne_true]
    exact wpAny_execs_nil ⟨σ1, H2, I2, q2⟩
end

/-! ### what a loop or a comprehension walks -/
/-- at turn i: it yields x (the heap may grow), or it stops -/
structure It where
  go : Nat → Hp → Prop
  yld : Nat → Hp → V → Hp → Prop
  stop : Nat → Hp → Prop
/-- the iterator's own objects may turn: they are not the frame's, not pinned, younger than the entry (or a comprehension's own) -/
def FpOk (X : Cx) (pins : List (Addr × Obj)) (H : Hp) (b : Addr) : Prop :=
  H b = none ∧ b ≠ X.env.locals ∧ b ∉ X.fs ∧ (b ∈ X.ex ∨ X.s₀.heap.objs.size ≤ b) ∧ (∀ x c, X.env.cells.lookup x = some c → c ≠ b) ∧ ∀ p ∈ X.pn ++ pins, p.1 ≠ b
theorem Inv.fpOk {X : Cx} {pins : List (Addr × Obj)} {σ : St} {H H' : Hp} {s : Shared} {b : Addr} (I : Inv X pins σ H s) (hb : s.heap.objs.size ≤ b) (hn : H' b = none) : FpOk X pins H' b := by
  refine ⟨hn, Nat.ne_of_gt (Nat.lt_of_lt_of_le I.lt hb), I.nofs hb, .inr (Nat.le_trans I.sz hb), fun x c e z => ?_, fun p hp z => ?_⟩
  · obtain ⟨v, q⟩ := I.cell x c e
    exact absurd (Nat.lt_of_lt_of_le q.lt (by rw [z]; exact hb)) (Nat.lt_irrefl _)
  · exact absurd (Nat.lt_of_lt_of_le (Heap.lt_size (I.pin p hp).1) (by rw [z]; exact hb)) (Nat.lt_irrefl _)
structure Turn (P : Program) (w : World) (K : PySem.W.Frag) (tg : Expr) (J : It) (fp : List Addr) (it : Addr) (tn : Nat → Heap → Prop) : Prop where
  mem : it ∈ fp
  obj : ∀ i h, tn i h → ∀ b ∈ fp, ∃ o, h.get? b = some o ∧ ∀ v, o.data ≠ .cell v
  keep : ∀ i h h', tn i h → (∀ b ∈ fp, ∀ o, h.get? b = some o → h'.get? b = some o) → tn i h'
  item : ∀ (X : Cx), X.prog = P → X.w = w → X.K = K → X.calm = true → ∀ (i : Nat) (pins : List (Addr × Obj)) (s : Shared) (σ : St) (H : Hp) (E : Value → Shared → Prop), Inv X pins σ H s → (∀ b ∈ fp, FpOk X pins H b) → tn i s.heap → J.go i H →
    wpAny (model P w) X.A (pyNext (.ref it)) (fun r s1 => ∃ u, r = some u ∧
      wpAny (model P w) X.A (letOwnedTupleGo tg (.ref it) u) (fun _ s2 => ∃ x H', Inv X pins σ H' s2 ∧ RelV x u ∧ J.yld i H x H' ∧ tn (i + 1) s2.heap ∧ ∀ b ∈ fp, H' b = none) E s1) E s
  done : ∀ (X : Cx), X.prog = P → X.w = w → X.K = K → X.calm = true → ∀ (i : Nat) (pins : List (Addr × Obj)) (s : Shared) (σ : St) (H : Hp) (E : Value → Shared → Prop), Inv X pins σ H s → (∀ b ∈ fp, FpOk X pins H b) → tn i s.heap → J.stop i H →
    wpAny (model P w) X.A (pyNext (.ref it)) (fun r s1 => r = none ∧ Inv X pins σ H s1) E s
  self : ∀ (A : Around) (i : Nat) (s : Shared) (Q : Value → Shared → Prop) (E : Value → Shared → Prop), tn i s.heap → Q (.ref it) s → wpAny (model P w) A (pyIter (.ref it)) Q E s
abbrev TI := St → Hp → (It → Hp → Prop) → Prop
/-- an iterator has come -/
def PIE (X : Cx) (pins : List (Addr × Obj)) (σ : St) (tg : Expr) (R : It → Hp → Prop) (itv : Value) (s2 : Shared) : Prop :=
  ∃ (it : Addr) (fp : List Addr) (tn : Nat → Heap → Prop) (J : It) (H' : Hp), itv = .ref it ∧ Inv X pins σ H' s2 ∧ Turn X.prog X.w X.K tg J fp it tn ∧ tn 0 s2.heap ∧ (∀ b ∈ fp, FpOk X pins H' b) ∧ R J H'
def PI (X : Cx) (tg iter : Expr) (wi : TI) : Prop :=
  ∀ (pins : List (Addr × Obj)) (s : Shared) (σ : St) (H : Hp) (R : It → Hp → Prop), Inv X pins σ H s → wi σ H R →
    wpAny (model X.prog X.w) X.A (eval iter X.env) (fun v s1 => wpAny (model X.prog X.w) X.A (pyIter v) (PIE X pins σ tg R) X.xe s1) X.xe s

/-- the step ahead of the store is nothing for an iterator that keeps no tuple -/
theorem go_of {M : Model} {A : Around} {E : Value → Shared → Prop} {s : Shared} {tg : Expr} {it : Addr} {u : Value} {o : Obj} {n : String} {vs : Array Value} {Q : Unit → Shared → Prop} (ho : s.heap.get? it = some o) (hc : o.cls = .type n) (hd : o.data = .fields vs)
    (hn : ["enumerate", "zip", "dict_itemiterator", "dict_reverseitemiterator", "odict_iterator", "itertools.zip_longest", "itertools.pairwise"].contains n = false) (hQ : Q () s) : wpAny M A (letOwnedTupleGo tg (.ref it) u) Q E s := by
  unfold letOwnedTupleGo
  cases tg <;> first
    | exact wpAny_pure hQ
    | (cases u <;> first
        | exact wpAny_pure hQ
        | (refine wpAny_bind (wpAny_load ho ?_)
           rw [hc, hd]
           show wpAny M A (if (["enumerate", "zip", "dict_itemiterator", "dict_reverseitemiterator", "odict_iterator", "itertools.zip_longest", "itertools.pairwise"].contains n && vs[0]? == some (rawInt _)) = true then _ else _) Q E s
           rw [if_neg (by intro h; rw [hn, Bool.false_and] at h; cases h)]
           exact wpAny_pure hQ))

/-- the list at a, as it stands at each turn (a loop may append to it) -/
def Itl (K : PySem.W.Frag) (a : Addr) : It :=
  ⟨fun i H => ∃ xs x, SqL K H a xs ∧ xs[i]? = some x, fun i H x H' => H' = H ∧ ∀ xs, SqL K H a xs → xs[i]? = some x, fun i H => ∃ xs, SqL K H a xs ∧ xs.length ≤ i⟩
def Itt (K : PySem.W.Frag) (a : Addr) : It :=
  ⟨fun i H => ∃ xs x, SqT K H a xs ∧ xs[i]? = some x, fun i H x H' => H' = H ∧ ∀ xs, SqT K H a xs → xs[i]? = some x, fun i H => ∃ xs, SqT K H a xs ∧ xs.length ≤ i⟩
/-- lo, lo + 1, .. (n of them) -/
def Itr (lo : Int) (n : Nat) : It := ⟨fun i _ => i < n, fun i H x H' => H' = H ∧ x = .int (lo + i), fun i _ => n ≤ i⟩
theorem turn_list {P : Program} {w : World} {K : PySem.W.Frag} {tg : Expr} (a it : Addr) : Turn P w K tg (Itl K a) [it] it (fun i h => h.IsListIter it a i) where
  mem := by simp
  obj := fun i h st b hb => by
    have e : b = it := by simpa using hb
    subst e
    obtain ⟨o, e, c, d⟩ := st
    exact ⟨o, e, fun v z => by rw [d] at z; cases z⟩
  keep := fun i h h' st k => st.at fun o e => k it (by simp) o e
  item := by
    intro X hP hw hK hc i pins s σ H E I hf st hg
    subst hP hw hK
    obtain ⟨xs, x, hq, hx⟩ := hg
    obtain ⟨its, rv, p, hz⟩ := I.list hq
    obtain ⟨u, hu, ru⟩ := rv.get hx
    obtain ⟨f0, f1, f2, f3, f4, f5⟩ := hf it (by simp)
    refine wpAny_pyNext_list_item st p.isList (x := u) (by simpa using hu) fun h' st' sb => ?_
    have I1 : Inv X pins σ H { s with heap := h' } := I.turned (t' := s.toks) (fun b o hb e => (sb.2 b hb).trans e) f0 f1 f3 f4 f5
    obtain ⟨o, e, c, d⟩ := id st'
    exact ⟨u, rfl, go_of (s := { s with heap := h' }) e c d (by decide) ⟨x, H, I1, ru, ⟨rfl, fun ys hy => by rw [I.list_inj hy hq]; exact hx⟩, st', fun b hb => (hf b hb).1⟩⟩
  done := by
    intro X hP hw hK hc i pins s σ H E I hf st hg
    subst hP hw hK
    obtain ⟨xs, hq, hx⟩ := hg
    obtain ⟨its, rv, p, hz⟩ := I.list hq
    obtain ⟨f0, f1, f2, f3, f4, f5⟩ := hf it (by simp)
    have hl := rv.length
    exact wpAny_pyNext_list_end (I.ok.hd hc) st p.isList (by simp; omega) fun h' eb => ⟨rfl, I.turned (t' := s.toks) (fun b o hb e => eb b o hb e) f0 f1 f3 f4 f5⟩
  self := fun _ _ _ _ _ st h => wpAny_pyIter_listiter st h
theorem turn_tuple {P : Program} {w : World} {K : PySem.W.Frag} {tg : Expr} (a it : Addr) : Turn P w K tg (Itt K a) [it] it (fun i h => h.IsTupleIter it a i) where
  mem := by simp
  obj := fun i h st b hb => by
    have e : b = it := by simpa using hb
    subst e
    obtain ⟨o, e, c, d⟩ := st
    exact ⟨o, e, fun v z => by rw [d] at z; cases z⟩
  keep := fun i h h' st k => st.at fun o e => k it (by simp) o e
  item := by
    intro X hP hw hK hc i pins s σ H E I hf st hg
    subst hP hw hK
    obtain ⟨xs, x, hq, hx⟩ := hg
    obtain ⟨its, rv, p, hz⟩ := I.tuple hq
    obtain ⟨u, hu, ru⟩ := rv.get hx
    obtain ⟨f0, f1, f2, f3, f4, f5⟩ := hf it (by simp)
    refine wpAny_pyNext_tuple_item st (show s.heap.IsTuple a its.toArray from p) (x := u) (by simpa using hu) fun h' st' sb => ?_
    have I1 : Inv X pins σ H { s with heap := h' } := I.turned (t' := s.toks) (fun b o hb e => (sb.2 b hb).trans e) f0 f1 f3 f4 f5
    obtain ⟨o, e, c, d⟩ := id st'
    exact ⟨u, rfl, go_of (s := { s with heap := h' }) e c d (by decide) ⟨x, H, I1, ru, ⟨rfl, fun ys hy => by rw [I.tuple_inj hy hq]; exact hx⟩, st', fun b hb => (hf b hb).1⟩⟩
  done := by
    intro X hP hw hK hc i pins s σ H E I hf st hg
    subst hP hw hK
    obtain ⟨xs, hq, hx⟩ := hg
    obtain ⟨its, rv, p, hz⟩ := I.tuple hq
    obtain ⟨f0, f1, f2, f3, f4, f5⟩ := hf it (by simp)
    have hl := rv.length
    exact wpAny_pyNext_tuple_end (I.ok.hd hc) st (show s.heap.IsTuple a its.toArray from p) (by simp; omega) fun h' eb => ⟨rfl, I.turned (t' := s.toks) (fun b o hb e => eb b o hb e) f0 f1 f3 f4 f5⟩
  self := fun _ _ _ _ _ st h => wpAny_pyIter_tupleiter st h
theorem turn_range {P : Program} {w : World} {K : PySem.W.Frag} {tg : Expr} (it : Addr) (lo : Int) (n : Nat) : Turn P w K tg (Itr lo n) [it] it (fun i h => IsRangeIter h it (lo + (i : Nat) * 1) ((n : Int) - (i : Nat)) 1) where
  mem := by simp
  obj := fun i h st b hb => by
    have e : b = it := by simpa using hb
    subst e
    exact ⟨_, st, fun v z => by
      have z' : Data.fields _ = Data.cell v := z
      cases z'⟩
  keep := fun i h h' st k => k it (by simp) _ st
  item := by
    intro X hP hw hK hc i pins s σ H E I hf st hg
    subst hP hw hK
    obtain ⟨f0, f1, f2, f3, f4, f5⟩ := hf it (by simp)
    have W := Walks.range (prog := X.prog) (w := X.w) (I.ok.hd hc) it lo 1 n
    refine W.item i s _ _ hg st fun v h' tk hv st' kk => ?_
    obtain ⟨t, rfl⟩ := hv
    have I1 : Inv X pins σ H { s with heap := h', toks := tk } := I.turned (fun b o hb e => kk b o (by simpa using hb) e) f0 f1 f3 f4 f5
    refine ⟨_, rfl, go_of (s := { s with heap := h', toks := tk }) (n := "range_iterator") st' rfl rfl (by decide) ⟨.int (lo + i), H, I1, ⟨t, ?_⟩, ⟨rfl, rfl⟩, st', fun b hb => (hf b hb).1⟩⟩
    rw [Int.mul_one]
  done := by
    intro X hP hw hK hc i pins s σ H E I hf st hg
    subst hP hw hK
    obtain ⟨f0, f1, f2, f3, f4, f5⟩ := hf it (by simp)
    exact wpAny_pyNext_range_end (I.ok.hd hc) st (by have : n ≤ i := hg; omega) fun h' eb => ⟨rfl, I.turned (t' := s.toks) (fun b o hb e => eb b o hb e) f0 f1 f3 f4 f5⟩
  self := fun _ _ _ _ _ st h => wpAny_pyIter_rangeiter st h
end L2

namespace L2
open PySem PySem.Spec PyProof.Rows
section
variable {X : Cx} {tg : Expr}
def iList (K : PySem.W.Frag) (tl : TE) : TI := fun σ H R => tl σ H fun x H1 => ∃ a, x = .ref a ∧ (∃ xs, SqL K H1 a xs) ∧ R (Itl K a) H1
def iTup (K : PySem.W.Frag) (tl : TE) : TI := fun σ H R => tl σ H fun x H1 => ∃ a, x = .ref a ∧ (∃ xs, SqT K H1 a xs) ∧ R (Itt K a) H1
theorem pi_list {l : Expr} {tl : TE} (hl : PE X l tl) : PI X tg l (iList X.K tl) := by
  intro pins s σ H R I h
  refine thn (hl pins s σ H _ I h) fun v s1 ⟨x, H1, I1, r1, q1⟩ => ?_
  obtain ⟨a, e, ⟨xs, hq⟩, q⟩ := q1
  subst e
  cases r1
  obtain ⟨its, rv, p, hz⟩ := I1.list hq
  refine wpAny_pyIter_list p.isList ?_
  refine ⟨s1.heap.objs.size, [s1.heap.objs.size], _, _, H1, rfl, I1.kept (t' := s1.toks) fun b o e => Heap.get?_push_of_some _ e, turn_list a _, ⟨_, Heap.get?_push_size _ rfl, rfl, rfl⟩, fun b hb => ?_, q⟩
  have e : b = s1.heap.objs.size := by simpa using hb
  subst e
  exact I1.fpOk (Nat.le_refl _) (I1.hok.fresh (Nat.le_refl _))
theorem pi_tup {l : Expr} {tl : TE} (hl : PE X l tl) : PI X tg l (iTup X.K tl) := by
  intro pins s σ H R I h
  refine thn (hl pins s σ H _ I h) fun v s1 ⟨x, H1, I1, r1, q1⟩ => ?_
  obtain ⟨a, e, ⟨xs, hq⟩, q⟩ := q1
  subst e
  cases r1
  obtain ⟨its, rv, p, hz⟩ := I1.tuple hq
  refine wpAny_pyIter_tuple (show s1.heap.IsTuple a its.toArray from p) ?_
  refine ⟨s1.heap.objs.size, [s1.heap.objs.size], _, _, H1, rfl, I1.kept (t' := s1.toks) fun b o e => Heap.get?_push_of_some _ e, turn_tuple a _, ⟨_, Heap.get?_push_size _ rfl, rfl, rfl⟩, fun b hb => ?_, q⟩
  have e : b = s1.heap.objs.size := by simpa using hb
  subst e
  exact I1.fpOk (Nat.le_refl _) (I1.hok.fresh (Nat.le_refl _))
/-- a range object just made, walked -/
theorem range_it {pins : List (Addr × Obj)} {σ : St} {H : Hp} {s : Shared} {R : It → Hp → Prop} {E : Value → Shared → Prop} {lo hi : Int} {t u v : Tok} {tk : Nat} (I : Inv X pins σ H s) (h1 : -(2 ^ 62) ≤ lo) (h2 : lo < 2 ^ 62) (h3 : -(2 ^ 62) ≤ hi) (h4 : hi < 2 ^ 62)
    (q : R (Itr lo (hi - lo).toNat) H) : wpAny (model X.prog X.w) X.A (pyIter (.ref s.heap.objs.size)) (PIE X pins σ tg R) E { s with heap := s.heap.push { cls := .type "range", data := .fields #[.int lo t, .int hi u, .int 1 v] }, toks := tk } := by
  refine wpAny_pyIter_range (IsRange.new ..) (small_one h1 h2 h3 h4) ?_
  have I1 : Inv X pins σ H { s with heap := s.heap.push { cls := .type "range", data := .fields #[.int lo t, .int hi u, .int 1 v] }, toks := tk } := I.kept fun b o e => Heap.get?_push_of_some _ e
  refine ⟨(s.heap.push { cls := .type "range", data := .fields #[.int lo t, .int hi u, .int 1 v] }).objs.size, [(s.heap.push { cls := .type "range", data := .fields #[.int lo t, .int hi u, .int 1 v] }).objs.size], _, _, H, rfl,
    I1.kept (t' := tk) fun b o e => Heap.get?_push_of_some _ e, turn_range _ lo (hi - lo).toNat, ?_, fun b hb => ?_, q⟩
  · have e1 : lo + ((0 : Nat) : Int) * 1 = lo := by simp
    have e2 : (((hi - lo).toNat : Nat) : Int) - ((0 : Nat) : Int) = Builtin.Range.rangeSize lo hi 1 := by rw [rangeSize_one]; split <;> omega
    show IsRangeIter _ _ (lo + ((0 : Nat) : Int) * 1) ((((hi - lo).toNat : Nat) : Int) - ((0 : Nat) : Int)) 1
    rw [e1, e2]
    exact Heap.get?_push_size _ rfl
  · have e : b = (s.heap.push { cls := .type "range", data := .fields #[.int lo t, .int hi u, .int 1 v] }).objs.size := by simpa using hb
    subst e
    exact I1.fpOk (Nat.le_refl _) (I1.hok.fresh (Nat.le_refl _))
def iRng1 (ta : TA) : TI := fun σ H R => ta σ H fun vs H1 => ∃ j : Int, vs = [.int j] ∧ -(2 ^ 62) ≤ j ∧ j < 2 ^ 62 ∧ R (Itr 0 j.toNat) H1
def iRng2 (ta : TA) : TI := fun σ H R => ta σ H fun vs H1 => ∃ i j : Int, vs = [.int i, .int j] ∧ (-(2 ^ 62) ≤ i ∧ i < 2 ^ 62 ∧ -(2 ^ 62) ≤ j ∧ j < 2 ^ 62) ∧ R (Itr i (j - i).toNat) H1
theorem pi_range1 {a : Expr} {ta : TA} {p pos : Pos} (hg : Gl X "range") (hm : X.mg "range" = none) (ha : PA X [a] ta) (hs : starEach [a] X.env = [(false, eval a X.env)] := by rfl) : PI X tg (.Call (.Name "range" p) [a] [] pos) (iRng1 ta) := by
  intro pins s σ H R I h
  refine Call_ (ld_blt I hg hm boot_range (PyProof.Rows.callWith_type1 (thn (ha pos pins s σ H _ I h) fun us s1 ⟨vs, H1, I1, r1, q1⟩ => ?_) hs rfl))
  obtain ⟨j, e, q1, q2, q⟩ := q1
  subst e
  cases r1 with
  | cons r rr =>
    cases rr
    obtain ⟨t, rfl⟩ := r
    exact call_range_1 (range_it I1 (by omega) (by omega) q1 q2 (by simpa using q))
theorem pi_range2 {a b : Expr} {ta : TA} {p pos : Pos} (hg : Gl X "range") (hm : X.mg "range" = none) (ha : PA X [a, b] ta) (hs : starEach [a, b] X.env = [(false, eval a X.env), (false, eval b X.env)] := by rfl) (hs2 : starEach [b] X.env = [(false, eval b X.env)] := by rfl) :
    PI X tg (.Call (.Name "range" p) [a, b] [] pos) (iRng2 ta) := by
  intro pins s σ H R I h
  refine Call_ (ld_blt I hg hm boot_range (PyProof.Rows.callWith_type1 (thn (ha pos pins s σ H _ I h) fun us s1 ⟨vs, H1, I1, r1, q1⟩ => ?_) (by rw [hs, hs2]) (by rw [hs2]; rfl)))
  obtain ⟨i, j, e, ⟨q1, q2, q3, q4⟩, q⟩ := q1
  subst e
  cases r1 with
  | cons r rr =>
    cases rr with
    | cons r' rr =>
      cases rr
      obtain ⟨t, rfl⟩ := r
      obtain ⟨t', rfl⟩ := r'
      exact call_range_2 (range_it I1 q1 q2 q3 q4 q)

/-! ### for -/
/-- W: the invariant by the turn and a measure; N: what the body is to reach -/
def tFor (wi : TI) (g : TG) (tb : TS) : TS := fun D σ H => wi σ H fun J H1 => ∃ W : Nat → Nat → St → Hp → Prop, (∃ m, W 0 m σ H1) ∧ ∀ i m σ H, W i m σ H →
  (J.stop i H ∧ D.nx σ H) ∨ (J.go i H ∧ ∃ N : St → Hp → Prop, (∀ σ' H', N σ' H' → ∃ m', m' < m ∧ W (i + 1) m' σ' H') ∧ ∀ x H', J.yld i H x H' → g x σ H' fun σ2 H2 => tb { D with nx := N, ct := N, bk := D.nx } σ2 H2)
/-- the records at fp as they stand -/
def pinsAt (fp : List Addr) (h : Heap) : List (Addr × Obj) := fp.filterMap fun b => (h.get? b).map fun o => (b, o)
theorem mem_pinsAt {fp : List Addr} {h : Heap} {b : Addr} {o : Obj} (hb : b ∈ fp) (e : h.get? b = some o) : (b, o) ∈ pinsAt fp h := List.mem_filterMap.mpr ⟨b, hb, by rw [e]; rfl⟩
theorem of_pinsAt {fp : List Addr} {h : Heap} {p : Addr × Obj} (hp : p ∈ pinsAt fp h) : p.1 ∈ fp ∧ h.get? p.1 = some p.2 := by
  obtain ⟨b, hb, e⟩ := List.mem_filterMap.mp hp
  cases q : h.get? b with
  | none => rw [q] at e; cases e
  | some o =>
    rw [q] at e
    have e' : (b, o) = p := Option.some.inj e
    subst e'
    exact ⟨hb, q⟩
theorem Inv.pinned {pins : List (Addr × Obj)} {σ : St} {H : Hp} {s : Shared} {fp : List Addr} (I : Inv X pins σ H s) (hf : ∀ b ∈ fp, FpOk X pins H b) (ho : ∀ b ∈ fp, ∃ o, s.heap.get? b = some o ∧ ∀ v, o.data ≠ .cell v) : Inv X (pins ++ pinsAt fp s.heap) σ H s :=
  I.pins_of fun p hp => (List.mem_append.mp hp).elim (fun z => I.pin p (List.mem_append_right _ z)) fun z => by
    obtain ⟨hb, e⟩ := of_pinsAt z
    obtain ⟨f0, f1, f2, _⟩ := hf p.1 hb
    obtain ⟨o, e', d⟩ := ho p.1 hb
    rw [e] at e'; cases e'
    exact ⟨e, f0, f1, f2, d⟩
theorem Inv.unpinned {pins pl : List (Addr × Obj)} {σ : St} {H : Hp} {s : Shared} (I : Inv X (pins ++ pl) σ H s) : Inv X pins σ H s := I.pins_of fun p hp => I.pin p (List.mem_append_right _ (List.mem_append_left _ hp))
theorem ps_for {iter : Expr} {body : List Stmt} {wi : TI} {g : TG} {tb : TS} {pos : Pos} (hp : PassesOwn (model X.prog X.w) X.A X.env X.xe) (hc : X.calm = true) (hi : PI X tg iter wi) (hg : PG X tg g) (hb : PSs X body tb)
    (hs : ∀ x, foldedSetIterable iter X.env x = pure x := by intro _; rfl) : PS X (.For tg iter body [] pos) (tFor wi g tb) := by
  intro pins s σ H D I h
  refine wpAny_For (thn (hi pins s σ H _ I h) fun v s1 h1 => thn h1 fun itv s2 h2 => ?_) hs
  obtain ⟨it, fp, tn, J, H2, e, I2, T, st2, f2, W, ⟨m0, w0⟩, turn⟩ := h2
  subst e
  -- what stays true of the iterator's objects through the loop
  have stat : ∀ {H' : Hp}, (∀ b ∈ fp, H' b = none) → ∀ b ∈ fp, FpOk X pins H' b := fun hn b hb => ⟨hn b hb, (f2 b hb).2⟩
  refine codeAny_forLoop_any (fun n s' => ∃ i σ' H', Inv X pins σ' H' s' ∧ tn i s'.heap ∧ (∀ b ∈ fp, H' b = none) ∧ W i n σ' H') ?_ m0 ⟨0, σ, H2, I2, st2, fun b hb => (f2 b hb).1, w0⟩
  rintro n s3 ⟨i, σ3, H3, I3, st3, fr3, w3⟩
  rcases turn i n σ3 H3 w3 with ⟨stop, qn⟩ | ⟨go, N, hN, step⟩
  · refine wpAny_passesOwn hp (thn (T.done X rfl rfl rfl hc i pins s3 σ3 H3 X.xe I3 (stat fr3) st3 stop) fun r s4 ⟨hr, I4⟩ => ?_)
    subst hr
    exact wpAny_execs_nil ⟨σ3, H3, I4, qn⟩
  · refine wpAny_passesOwn hp (thn (T.item X rfl rfl rfl hc i pins s3 σ3 H3 X.xe I3 (stat fr3) st3 go) fun r s4 ⟨u, hr, h4⟩ => ?_)
    subst hr
    refine wpAny_passesOwn hp (thn h4 fun _ s5 ⟨x, H5, I5, r5, y5, st5, fr5⟩ => ?_)
    have I5' := I5.pinned (stat fr5) (T.obj _ _ st5)
    refine wpAny_passesOwn hp (thn (hg _ s5 σ3 H5 x u _ I5' r5 (step x H5 y5)) fun _ s6 ⟨σ6, H6, I6, q6⟩ => ?_)
    refine wpAny_passesOwn hp (thn (hb _ s6 σ6 H6 _ I6 q6) fun f s7 q7 => ?_)
    have again : ∀ {σ7 : St} {H7 : Hp}, Inv X (pins ++ pinsAt fp s5.heap) σ7 H7 s7 → N σ7 H7 → ∃ m, m < n ∧ ∃ i σ' H', Inv X pins σ' H' s7 ∧ tn i s7.heap ∧ (∀ b ∈ fp, H' b = none) ∧ W i m σ' H' := fun {σ7 H7} I7 n7 => by
      obtain ⟨m', hm, w7⟩ := hN σ7 H7 n7
      refine ⟨m', hm, i + 1, σ7, H7, I7.unpinned, T.keep _ _ _ st5 fun b hb o e => (I7.pin (b, o) (List.mem_append_right _ (List.mem_append_right _ (mem_pinsAt hb e)))).1, fun b hb => ?_, w7⟩
      obtain ⟨o, e, d⟩ := T.obj _ _ st5 b hb
      exact (I7.pin (b, o) (List.mem_append_right _ (List.mem_append_right _ (mem_pinsAt hb e)))).2.1
    cases f with
    | next => obtain ⟨σ7, H7, I7, n7⟩ := q7; exact again I7 n7
    | cont => obtain ⟨σ7, H7, I7, n7⟩ := q7; exact again I7 n7
    | brk => obtain ⟨σ7, H7, I7, q7⟩ := q7; exact ⟨σ7, H7, I7.unpinned, q7⟩
    | ret v => obtain ⟨x7, σ7, H7, I7, r7, q7⟩ := q7; exact ⟨x7, σ7, H7, I7.unpinned, r7, q7⟩
end

/-! ### the forms one uses -/
/-- over a list that the body leaves as it is -/
theorem for_list {K : PySem.W.Frag} {a : Addr} {xs : List V} {g : TG} {tb : TS} {D : Ends} {σ : St} {H : Hp} (Pv : Nat → St → Hp → Prop) (h0 : Pv 0 σ H) (hl : ∀ i σ H, i ≤ xs.length → Pv i σ H → SqL K H a xs)
    (hs : ∀ i x σ H, xs[i]? = some x → Pv i σ H → g x σ H fun σ2 H2 => tb { D with nx := Pv (i + 1), ct := Pv (i + 1), bk := D.nx } σ2 H2) (hd : ∀ σ H, Pv xs.length σ H → D.nx σ H) :
    ∃ W : Nat → Nat → St → Hp → Prop, (∃ m, W 0 m σ H) ∧ ∀ i m σ H, W i m σ H →
      ((Itl K a).stop i H ∧ D.nx σ H) ∨ ((Itl K a).go i H ∧ ∃ N : St → Hp → Prop, (∀ σ' H', N σ' H' → ∃ m', m' < m ∧ W (i + 1) m' σ' H') ∧ ∀ x H', (Itl K a).yld i H x H' → g x σ H' fun σ2 H2 => tb { D with nx := N, ct := N, bk := D.nx } σ2 H2) := by
  refine ⟨fun i m σ H => m = xs.length - i ∧ i ≤ xs.length ∧ Pv i σ H, ⟨xs.length, by simp, Nat.zero_le _, h0⟩, ?_⟩
  rintro i m σ H ⟨rfl, hi, p⟩
  have q := hl i σ H hi p
  by_cases hlt : i < xs.length
  · refine .inr ⟨⟨xs, xs[i], q, by simp [hlt]⟩, Pv (i + 1), fun σ' H' p' => ⟨xs.length - (i + 1), by omega, rfl, hlt, p'⟩, fun x H' y => ?_⟩
    obtain ⟨e, y⟩ := y
    subst e
    exact hs i x σ _ (y xs q) p
  · have e : i = xs.length := by omega
    subst e
    exact .inl ⟨⟨xs, q, Nat.le_refl _⟩, hd σ H p⟩
theorem for_tup {K : PySem.W.Frag} {a : Addr} {xs : List V} {g : TG} {tb : TS} {D : Ends} {σ : St} {H : Hp} (Pv : Nat → St → Hp → Prop) (h0 : Pv 0 σ H) (hl : ∀ i σ H, i ≤ xs.length → Pv i σ H → SqT K H a xs)
    (hs : ∀ i x σ H, xs[i]? = some x → Pv i σ H → g x σ H fun σ2 H2 => tb { D with nx := Pv (i + 1), ct := Pv (i + 1), bk := D.nx } σ2 H2) (hd : ∀ σ H, Pv xs.length σ H → D.nx σ H) :
    ∃ W : Nat → Nat → St → Hp → Prop, (∃ m, W 0 m σ H) ∧ ∀ i m σ H, W i m σ H →
      ((Itt K a).stop i H ∧ D.nx σ H) ∨ ((Itt K a).go i H ∧ ∃ N : St → Hp → Prop, (∀ σ' H', N σ' H' → ∃ m', m' < m ∧ W (i + 1) m' σ' H') ∧ ∀ x H', (Itt K a).yld i H x H' → g x σ H' fun σ2 H2 => tb { D with nx := N, ct := N, bk := D.nx } σ2 H2) := by
  refine ⟨fun i m σ H => m = xs.length - i ∧ i ≤ xs.length ∧ Pv i σ H, ⟨xs.length, by simp, Nat.zero_le _, h0⟩, ?_⟩
  rintro i m σ H ⟨rfl, hi, p⟩
  have q := hl i σ H hi p
  by_cases hlt : i < xs.length
  · refine .inr ⟨⟨xs, xs[i], q, by simp [hlt]⟩, Pv (i + 1), fun σ' H' p' => ⟨xs.length - (i + 1), by omega, rfl, hlt, p'⟩, fun x H' y => ?_⟩
    obtain ⟨e, y⟩ := y
    subst e
    exact hs i x σ _ (y xs q) p
  · have e : i = xs.length := by omega
    subst e
    exact .inl ⟨⟨xs, q, Nat.le_refl _⟩, hd σ H p⟩
theorem for_range {lo : Int} {n : Nat} {g : TG} {tb : TS} {D : Ends} {σ : St} {H : Hp} (Pv : Nat → St → Hp → Prop) (h0 : Pv 0 σ H)
    (hs : ∀ i σ H, i < n → Pv i σ H → g (.int (lo + i)) σ H fun σ2 H2 => tb { D with nx := Pv (i + 1), ct := Pv (i + 1), bk := D.nx } σ2 H2) (hd : ∀ σ H, Pv n σ H → D.nx σ H) :
    ∃ W : Nat → Nat → St → Hp → Prop, (∃ m, W 0 m σ H) ∧ ∀ i m σ H, W i m σ H →
      ((Itr lo n).stop i H ∧ D.nx σ H) ∨ ((Itr lo n).go i H ∧ ∃ N : St → Hp → Prop, (∀ σ' H', N σ' H' → ∃ m', m' < m ∧ W (i + 1) m' σ' H') ∧ ∀ x H', (Itr lo n).yld i H x H' → g x σ H' fun σ2 H2 => tb { D with nx := N, ct := N, bk := D.nx } σ2 H2) := by
  refine ⟨fun i m σ H => m = n - i ∧ i ≤ n ∧ Pv i σ H, ⟨n, by simp, Nat.zero_le _, h0⟩, ?_⟩
  rintro i m σ H ⟨rfl, hi, p⟩
  by_cases hlt : i < n
  · refine .inr ⟨hlt, Pv (i + 1), fun σ' H' p' => ⟨n - (i + 1), by omega, rfl, hlt, p'⟩, fun x H' y => ?_⟩
    obtain ⟨e, y⟩ := y
    subst e y
    exact hs i σ _ hlt p
  · have e : i = n := by omega
    subst e
    exact .inl ⟨Nat.le_refl _, hd σ H p⟩
/-- while, by a word and a measure of the state -/
theorem while_by {c : TT} {tb : TS} {D : Ends} {σ : St} {H : Hp} (Pv : St → Hp → Prop) (μ : St → Hp → Nat) (h0 : Pv σ H)
    (hs : ∀ σ H, Pv σ H → c σ H fun b H1 => if b = true then tb { D with nx := fun σ' H' => Pv σ' H' ∧ μ σ' H' < μ σ H, ct := fun σ' H' => Pv σ' H' ∧ μ σ' H' < μ σ H, bk := D.nx } σ H1 else D.nx σ H1)
    (mono : ∀ σ H Q Q', (∀ b H1, Q b H1 → Q' b H1) → c σ H Q → c σ H Q') : tWhile c tb D σ H := by
  refine ⟨fun m σ H => m = μ σ H ∧ Pv σ H, ⟨_, rfl, h0⟩, ?_⟩
  rintro m σ H ⟨rfl, p⟩
  refine mono σ H _ _ (fun b H1 q => ?_) (hs σ H p)
  cases b with
  | true => exact ⟨_, fun σ' H' ⟨p', l⟩ => ⟨_, l, rfl, p'⟩, q⟩
  | false => exact q
end L2

namespace L2
open PySem PySem.Spec PyProof.Rows

abbrev R2 := V → V → Hp → VK → Prop
/-- a two-place operation on values: f is binaryOp op, inplaceOp op or compareOp op -/
def OpR (X : Cx) (f : Value → Value → Sem Value) (r : R2) : Prop :=
  ∀ (pins : List (Addr × Obj)) (s : Shared) (σ : St) (H : Hp) (x y : V) (v u : Value) (Q : VK), Inv X pins σ H s → RelV x v → RelV y u → r x y H Q →
    wpAny (model X.prog X.w) X.A (f v u) (EP X pins σ Q) X.xe s
/-- a one-place operation -/
def UnR (X : Cx) (f : Value → Sem Value) (r : V → Hp → VK → Prop) : Prop :=
  ∀ (pins : List (Addr × Obj)) (s : Shared) (σ : St) (H : Hp) (x : V) (v : Value) (Q : VK), Inv X pins σ H s → RelV x v → r x H Q →
    wpAny (model X.prog X.w) X.A (f v) (EP X pins σ Q) X.xe s
/-- a call of a value that is known (a builtin, a type) with values -/
def CallR (X : Cx) (f : Value) (r : List V → Hp → VK → Prop) : Prop :=
  ∀ (pins : List (Addr × Obj)) (s : Shared) (σ : St) (H : Hp) (xs : List V) (us : List Value) (Q : VK), Inv X pins σ H s → Vals xs us → r xs H Q →
    wpAny (model X.prog X.w) X.A (call f us) (EP X pins σ Q) X.xe s
/-- a value's truth -/
def TruR (X : Cx) (r : V → Hp → (Bool → Hp → Prop) → Prop) : Prop :=
  ∀ (pins : List (Addr × Obj)) (s : Shared) (σ : St) (H : Hp) (x : V) (v : Value) (Q : Bool → Hp → Prop), Inv X pins σ H s → RelV x v → r x H Q →
    wpAny (model X.prog X.w) X.A (truthy v) (TP X pins σ Q) X.xe s

def tOp (r : R2) (ta tb : TE) : TE := fun σ H Q => ta σ H fun x H1 => tb σ H1 fun y H2 => r x y H2 Q
def tUn (r : V → Hp → VK → Prop) (ta : TE) : TE := fun σ H Q => ta σ H fun x H1 => r x H1 Q
/-- ints in, under C, and a value out -/
def rI (C : Int → Int → Prop) (g : Int → Int → V) : R2 := fun x y H Q => ∃ i j, x = .int i ∧ y = .int j ∧ C i j ∧ Q (g i j) H
def rI0 (g : Int → Int → V) : R2 := fun x y H Q => ∃ i j, x = .int i ∧ y = .int j ∧ Q (g i j) H
def rU (g : Int → V) : V → Hp → VK → Prop := fun x H Q => ∃ i, x = .int i ∧ Q (g i) H

section
variable {X : Cx} {a b c : Expr} {ta tb tc : TE} {pos : Pos}

theorem binT (ha : PE X a ta) (hb : PE X b tb) {pins : List (Addr × Obj)} {s : Shared} {σ : St} {H : Hp} {R : V → V → Hp → Prop} (I : Inv X pins σ H s)
    (h : ta σ H fun x H1 => tb σ H1 fun y H2 => R x y H2) {Q : Value → Shared → Prop} {f : Value → Value → Sem Value}
    (hf : ∀ v u s2 x y H2, Inv X pins σ H2 s2 → RelV x v → RelV y u → R x y H2 → wpAny (model X.prog X.w) X.A (f v u) Q X.xe s2) :
    wpAny (model X.prog X.w) X.A (eval a X.env) (fun v s₁ => wpAny (model X.prog X.w) X.A (eval b X.env) (fun u s₂ => wpAny (model X.prog X.w) X.A (f v u) Q X.xe s₂) X.xe s₁) X.xe s := by
  refine thn (ha pins s σ H _ I h) fun v s1 ⟨x, H1, I1, r1, q1⟩ => ?_
  refine thn (hb pins s1 σ H1 _ I1 q1) fun u s2 ⟨y, H2, I2, r2, q2⟩ => ?_
  exact hf v u s2 x y H2 I2 r1 r2 q2

theorem pe_op {op : Operator} {r : R2} (ho : OpR X (binaryOp op) r) (ha : PE X a ta) (hb : PE X b tb) : PE X (.BinOp a op b pos) (tOp r ta tb) := by
  intro pins s σ H Q I h
  exact wpAny_BinOp (binT ha hb I h fun v u s2 x y H2 I2 rx ry q => ho pins s2 σ H2 x y v u Q I2 rx ry q)
theorem pe_un {op : UnaryOp} {r : V → Hp → VK → Prop} (ho : UnR X (unaryOp op) r) (ha : PE X a ta) : PE X (.UnaryOp op a pos) (tUn r ta) := by
  intro pins s σ H Q I h
  exact UnaryOp_ (thn (ha pins s σ H _ I h) fun v s1 ⟨x, H1, I1, r1, q1⟩ => ho pins s1 σ H1 x v Q I1 r1 q1)
/-- a op= e at a name: the name's slot i -/
theorem augR {op : Operator} {r : R2} (ho : OpR X (inplaceOp op) r) {pins : List (Addr × Obj)} {s : Shared} {σ : St} {H : Hp} {x y : V} {v u : Value} {Q : VK} (I : Inv X pins σ H s)
    (rx : RelV x v) (ry : RelV y u) (q : r x y H Q) : wpAny (model X.prog X.w) X.A (inplaceOp op v u) (EP X pins σ Q) X.xe s := ho pins s σ H x y v u Q I rx ry q

/-! ### ints -/
theorem opI {f : Value → Value → Sem Value} {C : Int → Int → Prop} {g : Int → Int → Int}
    (rule : ∀ (i j : Int) (t u : Tok) (s : Shared) (Q : Value → Shared → Prop) (E : Value → Shared → Prop), C i j → Q (.int (g i j) s.toks) { s with toks := s.toks + 1 } → wpAny (model X.prog X.w) X.A (f (.int i t) (.int j u)) Q E s) :
    OpR X f (rI C fun i j => .int (g i j)) := by
  intro pins s σ H x y v u Q I rx ry h
  obtain ⟨i, j, rfl, rfl, hc, q⟩ := h
  obtain ⟨t, rfl⟩ := rx
  obtain ⟨t', rfl⟩ := ry
  exact rule i j t t' s _ _ hc ⟨.int (g i j), H, I.tok _, ⟨_, rfl⟩, q⟩
theorem opI0 {f : Value → Value → Sem Value} {g : Int → Int → Int}
    (rule : ∀ (i j : Int) (t u : Tok) (s : Shared) (Q : Value → Shared → Prop) (E : Value → Shared → Prop), Q (.int (g i j) s.toks) { s with toks := s.toks + 1 } → wpAny (model X.prog X.w) X.A (f (.int i t) (.int j u)) Q E s) :
    OpR X f (rI0 fun i j => .int (g i j)) := by
  intro pins s σ H x y v u Q I rx ry h
  obtain ⟨i, j, rfl, rfl, q⟩ := h
  obtain ⟨t, rfl⟩ := rx
  obtain ⟨t', rfl⟩ := ry
  exact rule i j t t' s _ _ ⟨.int (g i j), H, I.tok _, ⟨_, rfl⟩, q⟩
theorem opB0 {f : Value → Value → Sem Value} {g : Int → Int → Bool}
    (rule : ∀ (i j : Int) (t u : Tok) (s : Shared) (Q : Value → Shared → Prop) (E : Value → Shared → Prop), Q (.bool (g i j)) s → wpAny (model X.prog X.w) X.A (f (.int i t) (.int j u)) Q E s) :
    OpR X f (rI0 fun i j => .bl (g i j)) := by
  intro pins s σ H x y v u Q I rx ry h
  obtain ⟨i, j, rfl, rfl, q⟩ := h
  obtain ⟨t, rfl⟩ := rx
  obtain ⟨t', rfl⟩ := ry
  exact rule i j t t' s _ _ ⟨.bl (g i j), H, I, rfl, q⟩

def CDiv (i j : Int) : Prop := 0 < j ∧ j < 1073741824
def CDivN (i j : Int) : Prop := j ≠ 0 ∧ j.natAbs < 1073741824
def CPow (i j : Int) : Prop := 0 ≤ j ∧ j ≤ 1000000 ∧ i.natAbs < 2 ^ 64
def CMul (i j : Int) : Prop := (-(2 ^ 64) < i ∧ i < 2 ^ 64) ∨ (-(2 ^ 64) < j ∧ j < 2 ^ 64)
theorem CMul.ok {i j : Int} (h : CMul i j) : IntMulOk i j := by
  rcases h with ⟨h1, h2⟩ | ⟨h1, h2⟩
  · exact .of_left (intBits_le_64 h1 h2)
  · exact .of_right (intBits_le_64 h1 h2)
theorem two_pow_nn (k : Nat) : (0 : Int) ≤ 2 ^ k := by
  rw [two_pow_cast]
  exact Int.natCast_nonneg _

theorem op_add : OpR X (binaryOp .Add) (rI0 fun i j => .int (i + j)) := opI0 fun _ _ _ _ _ _ _ q => add_int q
theorem op_sub : OpR X (binaryOp .Sub) (rI0 fun i j => .int (i - j)) := opI0 fun _ _ _ _ _ _ _ q => sub_int q
theorem op_mul : OpR X (binaryOp .Mult) (rI CMul fun i j => .int (i * j)) := opI fun _ _ _ _ _ _ _ hc q => mul_int q hc.ok
/-- // by a positive divisor -/
theorem op_fdiv : OpR X (binaryOp .FloorDiv) (rI CDiv fun i j => .int (i / j)) := opI fun i j _ _ _ _ _ hc q => by
  have h1 : (0 : Int) < j := hc.1
  have h2 : j < 1073741824 := hc.2
  exact floordiv_int (by omega) (by rw [Int.fdiv_eq_ediv_of_nonneg i (by omega)]; exact q) (.inl (PyProof.noPylong_small (by omega)))
theorem op_fdivN : OpR X (binaryOp .FloorDiv) (rI CDivN fun i j => .int (i.fdiv j)) := opI fun _ _ _ _ _ _ _ hc q => floordiv_int hc.1 q (.inl (PyProof.noPylong_small hc.2))
/-- % by a positive divisor of any size -/
theorem op_mod : OpR X (binaryOp .Mod) (rI (fun _ j => 0 < j) fun i j => .int (i % j)) := opI fun i j _ _ _ _ _ hc q => by
  have h1 : (0 : Int) < j := hc
  exact mod_int' (by omega) (by rw [Int.fmod_eq_emod_of_nonneg i (by omega)]; exact q)
theorem op_modN : OpR X (binaryOp .Mod) (rI (fun _ j => j ≠ 0) fun i j => .int (i.fmod j)) := opI fun _ _ _ _ _ _ _ hc q => mod_int' hc q
theorem op_pow : OpR X (binaryOp .Pow) (rI CPow fun i j => .int (i ^ j.toNat)) := opI fun _ _ _ _ _ _ _ hc q => pow_int_small hc.1 hc.2.1 hc.2.2 q
theorem op_shl : OpR X (binaryOp .LShift) (rI CPow fun i j => .int (i * 2 ^ j.toNat)) := opI fun _ _ _ _ _ _ _ hc q => lshift_int_small hc.1 hc.2.1 hc.2.2 q
theorem op_shr : OpR X (binaryOp .RShift) (rI (fun _ j => 0 ≤ j) fun i j => .int (i / 2 ^ j.toNat)) := opI fun i j _ _ _ _ _ hc q =>
  rshift_int hc (by rw [Int.fdiv_eq_ediv_of_nonneg i (two_pow_nn _)]; exact q)
theorem op_and : OpR X (binaryOp .BitAnd) (rI0 fun i j => .int (Builtin.bitAnd i j)) := opI0 fun _ _ _ _ _ _ _ q => and_int q
theorem op_or : OpR X (binaryOp .BitOr) (rI0 fun i j => .int (Builtin.bitOr i j)) := opI0 fun _ _ _ _ _ _ _ q => or_int q
theorem op_xor : OpR X (binaryOp .BitXor) (rI0 fun i j => .int (Builtin.bitXor i j)) := opI0 fun _ _ _ _ _ _ _ q => xor_int q

theorem iop_add : OpR X (inplaceOp .Add) (rI0 fun i j => .int (i + j)) := opI0 fun _ _ _ _ _ _ _ q => iadd_int q
theorem iop_sub : OpR X (inplaceOp .Sub) (rI0 fun i j => .int (i - j)) := opI0 fun _ _ _ _ _ _ _ q => isub_int q
theorem iop_mul : OpR X (inplaceOp .Mult) (rI CMul fun i j => .int (i * j)) := opI fun _ _ _ _ _ _ _ hc q => imul_int q hc.ok
theorem iop_fdiv : OpR X (inplaceOp .FloorDiv) (rI CDiv fun i j => .int (i / j)) := opI fun i j _ _ _ _ _ hc q => by
  have h1 : (0 : Int) < j := hc.1
  have h2 : j < 1073741824 := hc.2
  exact ifloordiv_int (by omega) (by rw [Int.fdiv_eq_ediv_of_nonneg i (by omega)]; exact q) (.inl (PyProof.noPylong_small (by omega)))
theorem iop_mod : OpR X (inplaceOp .Mod) (rI (fun _ j => 0 < j) fun i j => .int (i % j)) := opI fun i j _ _ _ _ _ hc q => by
  have h1 : (0 : Int) < j := hc
  exact imod_int (by omega) (by rw [Int.fmod_eq_emod_of_nonneg i (by omega)]; exact q)
theorem iop_shl : OpR X (inplaceOp .LShift) (rI CPow fun i j => .int (i * 2 ^ j.toNat)) := opI fun _ _ _ _ _ _ _ hc q => ilshift_int_small hc.1 hc.2.1 hc.2.2 q
theorem iop_shr : OpR X (inplaceOp .RShift) (rI (fun _ j => 0 ≤ j) fun i j => .int (i / 2 ^ j.toNat)) := opI fun i j _ _ _ _ _ hc q =>
  irshift_int hc (by rw [Int.fdiv_eq_ediv_of_nonneg i (two_pow_nn _)]; exact q)
theorem iop_and : OpR X (inplaceOp .BitAnd) (rI0 fun i j => .int (Builtin.bitAnd i j)) := opI0 fun _ _ _ _ _ _ _ q => iand_int q
theorem iop_or : OpR X (inplaceOp .BitOr) (rI0 fun i j => .int (Builtin.bitOr i j)) := opI0 fun _ _ _ _ _ _ _ q => ior_int q
theorem iop_xor : OpR X (inplaceOp .BitXor) (rI0 fun i j => .int (Builtin.bitXor i j)) := opI0 fun _ _ _ _ _ _ _ q => ixor_int q

theorem unI {f : Value → Sem Value} {g : Int → Int}
    (rule : ∀ (i : Int) (t : Tok) (s : Shared) (Q : Value → Shared → Prop) (E : Value → Shared → Prop), Q (.int (g i) s.toks) { s with toks := s.toks + 1 } → wpAny (model X.prog X.w) X.A (f (.int i t)) Q E s) :
    UnR X f (rU fun i => .int (g i)) := by
  intro pins s σ H x v Q I rx h
  obtain ⟨i, rfl, q⟩ := h
  obtain ⟨t, rfl⟩ := rx
  exact rule i t s _ _ ⟨.int (g i), H, I.tok _, ⟨_, rfl⟩, q⟩
theorem un_neg : UnR X (unaryOp .USub) (rU fun i => .int (-i)) := unI fun _ _ _ _ _ q => neg_int q
theorem un_inv : UnR X (unaryOp .Invert) (rU fun i => .int (Builtin.bitNot i)) := unI fun _ _ _ _ _ q => invert_int q

/-! ### bools among ints: n += (a < b) -/
theorem op_add_ib : OpR X (binaryOp .Add) (fun x y H Q => ∃ i k, x = .int i ∧ y = .bl k ∧ Q (.int (i + b2i k)) H) := by
  intro pins s σ H x y v u Q I rx ry h
  obtain ⟨i, k, rfl, rfl, q⟩ := h
  obtain ⟨t, rfl⟩ := rx
  cases ry
  exact add_int_bool ⟨.int (i + b2i k), H, I.tok _, ⟨_, rfl⟩, q⟩
end

/-! ### comparisons -/
/-- the scalars that == tells apart as data does -/
def scal : V → V → Bool
  | .non, .non => true | .non, .int _ => true | .int _, .non => true | .non, .bl _ => true | .bl _, .non => true | .non, .str _ => true | .str _, .non => true
  | .int _, .int _ => true | .bl _, .bl _ => true | .str _, .str _ => true | .byt _, .byt _ => true
  | .int _, .str _ => true | .str _, .int _ => true | .bl _, .str _ => true | .str _, .bl _ => true
  | _, _ => false
def rEq : R2 := fun x y H Q => scal x y = true ∧ Q (.bl (decide (x = y))) H
def rNe : R2 := fun x y H Q => scal x y = true ∧ Q (.bl (!decide (x = y))) H

theorem dec_int {i j : Int} : decide (V.int i = V.int j) = (i == j) := by
  rw [Bool.eq_iff_iff]
  simp
theorem dec_bl {i j : Bool} : decide (V.bl i = V.bl j) = (i == j) := by
  rw [Bool.eq_iff_iff]
  simp
theorem dec_str {i j : Str} : decide (V.str i = V.str j) = (i == j) := by
  rw [Bool.eq_iff_iff]
  simp
theorem dec_byt {i j : Array UInt8} : decide (V.byt i = V.byt j) = (i.toList == j.toList) := by
  rw [Bool.eq_iff_iff]
  cases i
  cases j
  simp

section
variable {X : Cx} {a b c : Expr} {ta tb tc : TE} {pos : Pos}
theorem fin_bl {pins : List (Addr × Obj)} {σ : St} {H : Hp} {s : Shared} {Q : VK} {k k' : Bool} (I : Inv X pins σ H s) (q : Q (.bl k) H) (e : k = k') : EP X pins σ Q (.bool k') s := by
  subst e
  exact ⟨.bl k, H, I, rfl, q⟩
theorem op_eq : OpR X (compareOp .Eq) rEq := by
  intro pins s σ H x y v u Q I rx ry h
  obtain ⟨hs, q⟩ := h
  cases x with
  | non =>
    cases rx
    cases y with
    | non => cases ry; exact PySem.EqNone.eq_none_none (fin_bl I q (by simp))
    | bl j => cases ry; exact PySem.EqNone.eq_none_bool (fin_bl I q (by simp))
    | int j => obtain ⟨t', rfl⟩ := ry; exact PySem.EqNone.eq_none_int (fin_bl I q (by simp))
    | str j => obtain ⟨t', rfl⟩ := ry; exact PySem.EqNone.eq_none_str (fin_bl I q (by simp))
    | _ => exact absurd (show false = true from hs) Bool.false_ne_true
  | bl i =>
    cases rx
    cases y with
    | non => cases ry; exact PySem.EqNone.eq_bool_none (fin_bl I q (by simp))
    | bl j => cases ry; exact eq_bool (fin_bl I q dec_bl)
    | str j => obtain ⟨t', rfl⟩ := ry; exact PySem.EqMixed.eq_bool_str (fin_bl I q (by simp))
    | _ => exact absurd (show false = true from hs) Bool.false_ne_true
  | int i =>
    obtain ⟨t, rfl⟩ := rx
    cases y with
    | non => cases ry; exact PySem.EqNone.eq_int_none (fin_bl I q (by simp))
    | int j => obtain ⟨t', rfl⟩ := ry; exact eq_int (fin_bl I q dec_int)
    | str j => obtain ⟨t', rfl⟩ := ry; exact PySem.EqMixed.eq_int_str (fin_bl I q (by simp))
    | _ => exact absurd (show false = true from hs) Bool.false_ne_true
  | str i =>
    obtain ⟨t, rfl⟩ := rx
    cases y with
    | non => cases ry; exact PySem.EqNone.eq_str_none (fin_bl I q (by simp))
    | bl j => cases ry; exact PySem.EqMixed.eq_str_bool (fin_bl I q (by simp))
    | int j => obtain ⟨t', rfl⟩ := ry; exact PySem.EqMixed.eq_str_int (fin_bl I q (by simp))
    | str j => obtain ⟨t', rfl⟩ := ry; exact eq_str (fin_bl I q dec_str)
    | _ => exact absurd (show false = true from hs) Bool.false_ne_true
  | byt i =>
    obtain ⟨t, rfl⟩ := rx
    cases y with
    | byt j => obtain ⟨t', rfl⟩ := ry; exact PySem.W.eq_bytes (fin_bl I q dec_byt)
    | _ => exact absurd (show false = true from hs) Bool.false_ne_true
  | _ => cases y <;> exact absurd (show false = true from hs) Bool.false_ne_true
theorem op_ne : OpR X (compareOp .NotEq) rNe := by
  intro pins s σ H x y v u Q I rx ry h
  obtain ⟨hs, q⟩ := h
  cases x with
  | non =>
    cases rx
    cases y with
    | non => cases ry; exact PySem.EqNone.ne_none_none (fin_bl I q (by simp))
    | bl j => cases ry; exact PySem.EqNone.ne_none_bool (fin_bl I q (by simp))
    | int j => obtain ⟨t', rfl⟩ := ry; exact PySem.EqNone.ne_none_int (fin_bl I q (by simp))
    | str j => obtain ⟨t', rfl⟩ := ry; exact PySem.EqNone.ne_none_str (fin_bl I q (by simp))
    | _ => exact absurd (show false = true from hs) Bool.false_ne_true
  | bl i =>
    cases rx
    cases y with
    | non => cases ry; exact PySem.EqNone.ne_bool_none (fin_bl I q (by simp))
    | bl j => cases ry; exact ne_bool (fin_bl I q (congrArg not dec_bl))
    | str j => obtain ⟨t', rfl⟩ := ry; exact PySem.EqMixed.ne_bool_str (fin_bl I q (by simp))
    | _ => exact absurd (show false = true from hs) Bool.false_ne_true
  | int i =>
    obtain ⟨t, rfl⟩ := rx
    cases y with
    | non => cases ry; exact PySem.EqNone.ne_int_none (fin_bl I q (by simp))
    | int j => obtain ⟨t', rfl⟩ := ry; exact ne_int (fin_bl I q (congrArg not dec_int))
    | str j => obtain ⟨t', rfl⟩ := ry; exact PySem.EqMixed.ne_int_str (fin_bl I q (by simp))
    | _ => exact absurd (show false = true from hs) Bool.false_ne_true
  | str i =>
    obtain ⟨t, rfl⟩ := rx
    cases y with
    | non => cases ry; exact PySem.EqNone.ne_str_none (fin_bl I q (by simp))
    | bl j => cases ry; exact PySem.EqMixed.ne_str_bool (fin_bl I q (by simp))
    | int j => obtain ⟨t', rfl⟩ := ry; exact PySem.EqMixed.ne_str_int (fin_bl I q (by simp))
    | str j => obtain ⟨t', rfl⟩ := ry; exact ne_str (fin_bl I q (congrArg not dec_str))
    | _ => exact absurd (show false = true from hs) Bool.false_ne_true
  | byt i =>
    obtain ⟨t, rfl⟩ := rx
    cases y with
    | byt j => obtain ⟨t', rfl⟩ := ry; exact PySem.W.ne_bytes (fin_bl I q (congrArg not dec_byt))
    | _ => exact absurd (show false = true from hs) Bool.false_ne_true
  | _ => cases y <;> exact absurd (show false = true from hs) Bool.false_ne_true

theorem op_lt : OpR X (compareOp .Lt) (rI0 fun i j => .bl (decide (i < j))) := opB0 fun _ _ _ _ _ _ _ q => lt_int q
theorem op_le : OpR X (compareOp .LtE) (rI0 fun i j => .bl (decide (i ≤ j))) := opB0 fun _ _ _ _ _ _ _ q => le_int q
theorem op_gt : OpR X (compareOp .Gt) (rI0 fun i j => .bl (decide (j < i))) := opB0 fun _ _ _ _ _ _ _ q => gt_int q
theorem op_ge : OpR X (compareOp .GtE) (rI0 fun i j => .bl (decide (j ≤ i))) := opB0 fun _ _ _ _ _ _ _ q => ge_int q
theorem op_lt_str : OpR X (compareOp .Lt) (fun x y H Q => ∃ i j, x = .str i ∧ y = .str j ∧ Q (.bl (decide (i.cps.toList < j.cps.toList))) H) := by
  intro pins s σ H x y v u Q I rx ry h
  obtain ⟨i, j, rfl, rfl, q⟩ := h
  obtain ⟨t, rfl⟩ := rx
  obtain ⟨t', rfl⟩ := ry
  exact lt_str (fin_bl I q rfl)
/-- the one string within the other -/
theorem op_in_str : OpR X (compareOp .In) (fun x y H Q => ∃ i j, x = .str i ∧ y = .str j ∧ Q (.bl (!(Builtin.Str.occurrences j i 0 j.length 1).isEmpty)) H) := by
  intro pins s σ H x y v u Q I rx ry h
  obtain ⟨i, j, rfl, rfl, q⟩ := h
  obtain ⟨t, rfl⟩ := rx
  obtain ⟨t', rfl⟩ := ry
  exact in_str (fin_bl I q rfl)

/-- is None, is not None: the right side a value none -/
theorem op_isN : OpR X (compareOp .Is) (fun x y H Q => y = .non ∧ Q (.bl (decide (x = .non))) H) := by
  intro pins s σ H x y v u Q I rx ry h
  obtain ⟨rfl, q⟩ := h
  cases ry
  refine is_none_gen (fin_bl I q ?_)
  cases x <;> first
    | (cases rx; rfl)
    | (obtain ⟨t, rfl⟩ := rx; rfl)
theorem op_notN : OpR X (compareOp .IsNot) (fun x y H Q => y = .non ∧ Q (.bl (!decide (x = .non))) H) := by
  intro pins s σ H x y v u Q I rx ry h
  obtain ⟨rfl, q⟩ := h
  cases ry
  refine isnot_none_gen (fin_bl I q ?_)
  cases x <;> first
    | (cases rx; rfl)
    | (obtain ⟨t, rfl⟩ := rx; rfl)

theorem op_notin_str : OpR X (compareOp .NotIn) (fun x y H Q => ∃ i j, x = .str i ∧ y = .str j ∧ Q (.bl (!(!(Builtin.Str.occurrences j i 0 j.length 1).isEmpty))) H) := by
  intro pins s σ H x y v u Q I rx ry h
  obtain ⟨i, j, rfl, rfl, q⟩ := h
  obtain ⟨t, rfl⟩ := rx
  obtain ⟨t', rfl⟩ := ry
  exact notIn_str (fin_bl I q rfl)
/-- is, is not of two objects that are tracked lists or instances -/
def isObj : HO → Bool
  | .lst _ => true
  | .ins _ _ _ => true
  | _ => false
theorem obj_there {pins : List (Addr × Obj)} {s : Shared} {σ : St} {H : Hp} {a : Addr} {o : HO} (I : Inv X pins σ H s) (h : H a = some o) (p : isObj o = true) : ∃ ob, s.heap.get? a = some ob ∧ ob.cls ≠ .type "tuple" := by
  cases o with
  | lst xs =>
    obtain ⟨_, its, n, _, e⟩ : xs.length ≤ sizeLine ∧ ∃ (its : List Value) (n : Nat), Vals xs its ∧ s.heap.get? a = some { cls := .type "list", data := .seq its.toArray n } := I.hok a _ h
    exact ⟨_, e, (by show Value.type "list" ≠ .type "tuple"; decide +kernel)⟩
  | ins C dx fs =>
    have x := I.hok a _ h
    obtain ⟨_, _, _, e, _⟩ := x
    exact ⟨_, e, (by show Value.ref C ≠ .type "tuple"; exact fun z => by cases z)⟩
  | _ => exact absurd (show false = true from p) Bool.false_ne_true
theorem op_is_ref : OpR X (compareOp .Is) (fun x y H Q => ∃ a b oa ob, x = .ref a ∧ y = .ref b ∧ H a = some oa ∧ isObj oa = true ∧ H b = some ob ∧ isObj ob = true ∧ Q (.bl (decide (a = b))) H) := by
  intro pins s σ H x y v u Q I rx ry h
  obtain ⟨a, b, oa, ob, rfl, rfl, ha, pa, hb, pb, q⟩ := h
  cases rx
  cases ry
  obtain ⟨o1, e1, n1⟩ := obj_there I ha pa
  obtain ⟨o2, e2, _⟩ := obj_there I hb pb
  by_cases z : a = b
  · subst z
    exact wpAny_is_ref_self (fin_bl I q (by simp))
  · exact wpAny_is_ref_other z e1 e2 n1 (fin_bl I q (by simp [z]))
theorem op_isnot_ref : OpR X (compareOp .IsNot) (fun x y H Q => ∃ a b oa ob, x = .ref a ∧ y = .ref b ∧ H a = some oa ∧ isObj oa = true ∧ H b = some ob ∧ isObj ob = true ∧ Q (.bl (!decide (a = b))) H) := by
  intro pins s σ H x y v u Q I rx ry h
  obtain ⟨a, b, oa, ob, rfl, rfl, ha, pa, hb, pb, q⟩ := h
  cases rx
  cases ry
  obtain ⟨o1, e1, n1⟩ := obj_there I ha pa
  obtain ⟨o2, e2, _⟩ := obj_there I hb pb
  by_cases z : a = b
  · subst z
    exact wpAny_isNot_ref_self (fin_bl I q (by simp))
  · exact wpAny_isNot_ref_other z e1 e2 n1 (fin_bl I q (by simp [z]))

/-- two rules for one operation: by cases -/
theorem OpR.or {f : Value → Value → Sem Value} {r r' : R2} (h : OpR X f r) (h' : OpR X f r') : OpR X f (fun x y H Q => r x y H Q ∨ r' x y H Q) := by
  intro pins s σ H x y v u Q I rx ry q
  rcases q with q | q
  · exact h pins s σ H x y v u Q I rx ry q
  · exact h' pins s σ H x y v u Q I rx ry q

theorem nomark (b : Expr) {op : CmpOp} (h : op ≠ .In := by decide) (h2 : op ≠ .NotIn := by decide) : behindInMarks op b = false := by
  have e1 : (op == CmpOp.In) = false := by cases op <;> first | rfl | exact absurd rfl h
  have e2 : (op == CmpOp.NotIn) = false := by cases op <;> first | rfl | exact absurd rfl h2
  cases b <;> simp [behindInMarks, e1, e2]
/-- a comparison as a value; hm: nomark b, or (for in, not in) by with_unfolding_all rfl -/
theorem pe_cmpR {op : CmpOp} {r : R2} (ho : OpR X (compareOp op) r) (ha : PE X a ta) (hb : PE X b tb) (hm : behindInMarks op b = false) : PE X (.Compare a [op] [b] pos) (tOp r ta tb) := by
  intro pins s σ H Q I h
  exact wpAny_Compare1 (binT ha hb I h fun v u s2 x y H2 I2 rx ry q => ho pins s2 σ H2 x y v u Q I2 rx ry q) hm
/-- a reading of a value as a test -/
def tTest (t : TE) : TT := fun σ H Q => t σ H fun x H' => ∃ k, x = .bl k ∧ Q k H'
theorem pt_cmpR {op : CmpOp} {r : R2} (ho : OpR X (compareOp op) r) (ha : PE X a ta) (hb : PE X b tb) (hm : behindInMarks op b = false) : PT X (.Compare a [op] [b] pos) (tTest (tOp r ta tb)) := by
  intro pins s σ H Q I h
  refine wpAny_isTrue_Compare1 (thn (ha pins s σ H _ I h) fun v s1 ⟨x, H1, I1, r1, q1⟩ => thn (hb pins s1 σ H1 _ I1 q1) fun u s2 ⟨y, H2, I2, r2, q2⟩ =>
    thn (ho pins s2 σ H2 x y v u _ I2 r1 r2 q2) fun c s3 ⟨z, H3, I3, r3, k, e, q3⟩ => ?_) hm
  subst e
  cases r3
  exact wpAny_truthy_bool ⟨H3, I3, q3⟩
/-- a op1 b op2 c -/
def tChain (r r' : R2) (ta tb tc : TE) : TE := fun σ H Q => ta σ H fun x H1 => tb σ H1 fun y H2 => r x y H2 fun z H3 => ∃ k, z = .bl k ∧
  (if k = true then tc σ H3 fun w' H4 => r' y w' H4 Q else Q (.bl false) H3)
theorem pe_chain {op op' : CmpOp} {r r' : R2} (ho : OpR X (compareOp op) r) (ho' : OpR X (compareOp op') r') (ha : PE X a ta) (hb : PE X b tb) (hc : PE X c tc)
    (hm : lastMarks [op, op'] [b, c] = false := by with_unfolding_all rfl) : PE X (.Compare a [op, op'] [b, c] pos) (tChain r r' ta tb tc) := by
  intro pins s σ H Q I h
  refine Compare_chain (thn (ha pins s σ H _ I h) fun v s1 ⟨x, H1, I1, r1, q1⟩ => chain_link (thn (hb pins s1 σ H1 _ I1 q1) fun u s2 ⟨y, H2, I2, r2, q2⟩ =>
    thn (ho pins s2 σ H2 x y v u _ I2 r1 r2 q2) fun d s3 ⟨z, H3, I3, r3, k, e, q3⟩ => ?_)) hm
  subst e
  cases r3
  refine wpAny_truthy_bool ?_
  cases k with
  | false => exact ite_ff ⟨.bl false, H3, I3, rfl, q3⟩
  | true => exact ite_tt (chain_last (thn (hc pins s3 σ H3 _ I3 q3) fun w' s4 ⟨z', H4, I4, r4, q4⟩ => ho' pins s4 σ H4 y z' u w' Q I4 r2 r4 q4))
theorem pt_chain {op op' : CmpOp} {r r' : R2} (ho : OpR X (compareOp op) r) (ho' : OpR X (compareOp op') r') (ha : PE X a ta) (hb : PE X b tb) (hc : PE X c tc)
    (hm : lastMarks [op, op'] [b, c] = false := by with_unfolding_all rfl) : PT X (.Compare a [op, op'] [b, c] pos) (tTest (tChain r r' ta tb tc)) := by
  intro pins s σ H Q I h
  refine isTrue_chain (thn (ha pins s σ H _ I h) fun v s1 ⟨x, H1, I1, r1, q1⟩ => test_link (thn (hb pins s1 σ H1 _ I1 q1) fun u s2 ⟨y, H2, I2, r2, q2⟩ =>
    thn (ho pins s2 σ H2 x y v u _ I2 r1 r2 q2) fun d s3 ⟨z, H3, I3, r3, k, e, q3⟩ => ?_)) hm
  subst e
  cases r3
  refine wpAny_truthy_bool ?_
  cases k with
  | false =>
    obtain ⟨k', e', q'⟩ := q3
    cases e'
    exact ite_ff ⟨H3, I3, q'⟩
  | true =>
    refine ite_tt (test_last (thn (hc pins s3 σ H3 _ I3 q3) fun w' s4 ⟨z', H4, I4, r4, q4⟩ => thn (ho' pins s4 σ H4 y z' u w' _ I4 r2 r4 q4) fun d' s5 ⟨z2, H5, I5, r5, k2, e2, q5⟩ => ?_))
    subst e2
    cases r5
    exact wpAny_truthy_bool ⟨H5, I5, q5⟩

/-! ### truth -/
/-- a value's truth by the abstract heap -/
def TruV (K : PySem.W.Frag) (x : V) (H : Hp) (k : Bool) : Prop :=
  match x with
  | .non => k = false
  | .bl b => k = b
  | .int i => k = (i != 0)
  | .str y => y.length ≤ sizeLine ∧ k = ((y.length : Int) != 0)
  | .byt y => y.size ≤ sizeLine ∧ k = ((y.size : Int) != 0)
  | .ref p => (∃ xs, SqL K H p xs ∧ k = !xs.isEmpty) ∨ (∃ xs, SqT K H p xs ∧ k = !xs.isEmpty) ∨ ∃ kvs, H p = some (.dK kvs) ∧ k = !kvs.isEmpty
  | _ => False
theorem isEmpty_kv {κ : Type} {kvs : List (κ × V)} {vs : List (κ × Value)} (r : KV kvs vs) : (!vs.isEmpty) = !kvs.isEmpty := by
  cases r <;> rfl
theorem isEmpty_of {xs : List V} {its : List Value} (r : Vals xs its) : (!its.toArray.isEmpty) = !xs.isEmpty := by
  cases r <;> simp
theorem line63 : (sizeLine : Nat) < 2 ^ 63 := by rw [sizeLine_eq]; decide
theorem tru_ok : TruR X (fun x H Q => ∃ k, TruV X.K x H k ∧ Q k H) := by
  intro pins s σ H x v Q I rx h
  obtain ⟨k, e, q⟩ := h
  have hl := line63
  have hs : sizeLine = 16777216 := sizeLine_eq
  cases x with
  | non =>
    cases rx
    have e' : k = false := e
    subst e'
    exact truthy_none ⟨H, I, q⟩
  | bl b =>
    cases rx
    have e' : k = b := e
    subst e'
    exact wpAny_truthy_bool ⟨H, I, q⟩
  | int i =>
    obtain ⟨t, rfl⟩ := rx
    have e' : k = (i != 0) := e
    subst e'
    exact PySem.P.truthy_int ⟨H, I, q⟩
  | str y =>
    obtain ⟨t, rfl⟩ := rx
    obtain ⟨hy, e'⟩ : y.length ≤ sizeLine ∧ k = ((y.length : Int) != 0) := e
    subst e'
    exact PySem.P.truthy_str (by omega) ⟨H, I.tok _, q⟩
  | byt y =>
    obtain ⟨t, rfl⟩ := rx
    obtain ⟨hy, e'⟩ : y.size ≤ sizeLine ∧ k = ((y.size : Int) != 0) := e
    subst e'
    exact PySem.W.truthy_bytes (by omega) ⟨H, I.tok _, q⟩
  | ref p =>
    cases rx
    have e' : (∃ xs, SqL X.K H p xs ∧ k = !xs.isEmpty) ∨ (∃ xs, SqT X.K H p xs ∧ k = !xs.isEmpty) ∨ ∃ kvs, H p = some (.dK kvs) ∧ k = !kvs.isEmpty := e
    rcases e' with ⟨xs, hx, e'⟩ | ⟨xs, hx, e'⟩ | ⟨kvs, hx, e'⟩
    · subst e'
      obtain ⟨its, r, pl, hz⟩ := I.list hx
      have hlen := r.length
      exact wpAny_truthy_list pl.isList (by simp only [List.size_toArray]; omega) ⟨H, I.tok _, by rw [isEmpty_of r]; exact q⟩
    · subst e'
      obtain ⟨its, r, pl, hz⟩ := I.tuple hx
      have hlen := r.length
      exact truthy_tuple pl (by simp only [List.size_toArray]; omega) ⟨H, I.tok _, by rw [isEmpty_of r]; exact q⟩
    · subst e'
      obtain ⟨hz, hS, vs, r, m⟩ : kvs.length ≤ sizeLine ∧ (p == sysModules) = false ∧ ∃ vs, KV kvs vs ∧ s.heap.DictOf (mixKind X.prog X.w) p vs := I.hok p _ hx
      have hlen : kvs.length = vs.length := Paired.length r
      exact wpAny_truthy_dict hS m (by omega) ⟨H, I.tok _, by rw [isEmpty_kv r]; exact q⟩
  | _ => exact (show False from e).elim
/-- any expression whose test is its value's truth (a name, a call, a subscript, a field ..: he by fun _ => rfl) -/
theorem pt_truth (ha : PE X a ta) (he : ∀ whole, isTrue a X.env whole = (do let v ← whole; standAt a.pos; holding [v] (truthy v))) :
    PT X a (fun σ H Q => ta σ H fun x H' => ∃ k, TruV X.K x H' k ∧ Q k H') := by
  intro pins s σ H Q I h
  exact isTrue_plain (thn (ha pins s σ H _ I h) fun v s1 ⟨x, H1, I1, r1, q1⟩ => tru_ok pins s1 σ H1 x v Q I1 r1 q1) (he _)

/-! ### strs and bytes -/
theorem pe_byt {x : List UInt8} {k : Nat} : PE X (.Constant (.bytes x) k pos) (fun _ H Q => Q (.byt x.toArray) H) := fun _ _ _ H _ I h => PySem.W.Constant_bytes ⟨.byt x.toArray, H, I.tok _, ⟨_, rfl⟩, h⟩
theorem op_add_str : OpR X (binaryOp .Add) (fun x y H Q => ∃ i j, x = .str i ∧ y = .str j ∧ i.length + j.length ≤ sizeLine ∧ Q (.str (i ++ j)) H) := by
  intro pins s σ H x y v u Q I rx ry h
  obtain ⟨i, j, rfl, rfl, hz, q⟩ := h
  obtain ⟨t, rfl⟩ := rx
  obtain ⟨t', rfl⟩ := ry
  exact add_str (fun t' tk => ⟨.str (i ++ j), H, I.tok _, ⟨_, rfl⟩, q⟩) hz
theorem iop_add_str : OpR X (inplaceOp .Add) (fun x y H Q => ∃ i j, x = .str i ∧ y = .str j ∧ i.length + j.length ≤ sizeLine ∧ Q (.str (i ++ j)) H) := by
  intro pins s σ H x y v u Q I rx ry h
  obtain ⟨i, j, rfl, rfl, hz, q⟩ := h
  obtain ⟨t, rfl⟩ := rx
  obtain ⟨t', rfl⟩ := ry
  exact iadd_str (fun t' tk => ⟨.str (i ++ j), H, I.tok _, ⟨_, rfl⟩, q⟩) hz
theorem op_add_byt : OpR X (binaryOp .Add) (fun x y H Q => ∃ i j, x = .byt i ∧ y = .byt j ∧ i.size + j.size ≤ 16777216 ∧ Q (.byt (i ++ j)) H) := by
  intro pins s σ H x y v u Q I rx ry h
  obtain ⟨i, j, rfl, rfl, hz, q⟩ := h
  obtain ⟨t, rfl⟩ := rx
  obtain ⟨t', rfl⟩ := ry
  exact PySem.W.KBy.add_bytes hz (fun t' tk => ⟨.byt (i ++ j), H, I.tok _, ⟨_, rfl⟩, q⟩)

def PlainIxT (b : Expr) : Prop := ∀ o i, subscripted b false o i = operate [o, i] (getItem o i)
/-- s[i], 0 ≤ i < len -/
theorem pe_item_str (ha : PE X a ta) (hb : PE X b tb) (hs : PlainIxT b) :
    PE X (.Subscript a b pos) (tOp (fun x y H Q => ∃ z i c, x = .str z ∧ y = .int i ∧ 0 ≤ i ∧ i < 2 ^ 63 ∧ i < z.length ∧ z.cps[i.toNat]? = some c ∧ Q (.str ⟨#[c]⟩) H) ta tb) := by
  intro pins s σ H Q I h
  refine Subscript_ (binT ha hb I h fun v u s2 x y H2 I2 rx ry q => ?_)
  obtain ⟨z, i, c, rfl, rfl, h0, h63, h1, hc, q⟩ := q
  obtain ⟨t, rfl⟩ := rx
  obtain ⟨t', rfl⟩ := ry
  have e : seqIndex? i z.length = some i.toNat := PySem.StrLaws.seqIndex_nonneg h0 h1
  exact tail_any (typeIs_str s2 z t) slot_str_getitem.lookup (getItem_str (c := c) (by
    have e1 : decide (i < -(2 ^ 63 : Int)) = false := decide_eq_false (by omega)
    have e2 : decide (i ≥ 2 ^ 63) = false := decide_eq_false (by omega)
    rw [e1, e2] <;> rfl) (by rw [e]; exact hc) ⟨.str ⟨#[c]⟩, H2, I2.tok _, ⟨_, rfl⟩, q⟩) (hs _ _)
/-- b[i], 0 ≤ i < len -/
theorem pe_item_byt (ha : PE X a ta) (hb : PE X b tb) (hs : PlainIxT b) :
    PE X (.Subscript a b pos) (tOp (fun x y H Q => ∃ (z : List UInt8) (i : Int), x = .byt z.toArray ∧ y = .int i ∧ z.length ≤ sizeLine ∧ 0 ≤ i ∧ i < z.length ∧ Q (.int ((z.getD i.toNat 0).toNat : Nat)) H) ta tb) := by
  intro pins s σ H Q I h
  refine Subscript_ (binT ha hb I h fun v u s2 x y H2 I2 rx ry q => ?_)
  obtain ⟨z, i, rfl, rfl, hz, h0, h1, q⟩ := q
  obtain ⟨t, rfl⟩ := rx
  obtain ⟨t', rfl⟩ := ry
  have hl : sizeLine = 16777216 := sizeLine_eq
  exact tail_any (PySem.W.typeIs_bytes s2 z.toArray t) PySem.W.FB.slot_bytes_getitem.lookup (PySem.W.getItem_bytes (by omega) h0 h1 ⟨.int ((z.getD i.toNat 0).toNat : Nat), H2, I2.tok _, ⟨_, rfl⟩, q⟩) (hs _ _)

/-! ### scalar builtins, by CallR -/
theorem vals1 {x : V} {us : List Value} (r : Vals [x] us) : ∃ u, us = [u] ∧ RelV x u := by
  cases r with
  | cons r1 r2 => cases r2; exact ⟨_, rfl, r1⟩
theorem vals2 {x y : V} {us : List Value} (r : Vals [x, y] us) : ∃ u w', us = [u, w'] ∧ RelV x u ∧ RelV y w' := by
  cases r with
  | cons r1 r2 =>
    cases r2 with
    | cons r3 r4 => cases r4; exact ⟨_, _, rfl, r1, r3⟩
theorem call_abs : CallR X (.builtin "abs") (fun xs H Q => ∃ i, xs = [.int i] ∧ Q (.int (if i < 0 then -i else i)) H) := by
  intro pins s σ H xs us Q I r h
  obtain ⟨i, rfl, q⟩ := h
  obtain ⟨u, rfl, t, rfl⟩ := vals1 r
  exact call_abs_int fun u tk => ⟨.int (if i < 0 then -i else i), H, I.tok _, ⟨_, rfl⟩, q⟩
theorem call_max2 (hc : X.calm = true) : CallR X (.builtin "max") (fun xs H Q => ∃ i j, xs = [.int i, .int j] ∧ Q (.int (if j > i then j else i)) H) := by
  intro pins s σ H xs us Q I r h
  obtain ⟨i, j, rfl, q⟩ := h
  obtain ⟨u, w', rfl, ⟨t, rfl⟩, ⟨t', rfl⟩⟩ := vals2 r
  refine max_two_ints (I.ok.hd hc) fun h' tk k => ⟨_, H, I.kept k, ?_, q⟩
  by_cases hj : j > i
  · rw [if_pos hj, if_pos hj]; exact ⟨_, rfl⟩
  · rw [if_neg hj, if_neg hj]; exact ⟨_, rfl⟩
theorem call_min2 (hc : X.calm = true) : CallR X (.builtin "min") (fun xs H Q => ∃ i j, xs = [.int i, .int j] ∧ Q (.int (if j < i then j else i)) H) := by
  intro pins s σ H xs us Q I r h
  obtain ⟨i, j, rfl, q⟩ := h
  obtain ⟨u, w', rfl, ⟨t, rfl⟩, ⟨t', rfl⟩⟩ := vals2 r
  refine min_two_ints (I.ok.hd hc) fun h' tk k => ⟨_, H, I.kept k, ?_, q⟩
  by_cases hj : j < i
  · rw [if_pos hj, if_pos hj]; exact ⟨_, rfl⟩
  · rw [if_neg hj, if_neg hj]; exact ⟨_, rfl⟩
theorem call_int1 : CallR X (.type "int") (fun xs H Q => (∃ i, xs = [.int i] ∧ Q (.int i) H) ∨ ∃ k, xs = [.bl k] ∧ Q (.int (if k then 1 else 0)) H) := by
  intro pins s σ H xs us Q I r h
  rcases h with ⟨i, rfl, q⟩ | ⟨k, rfl, q⟩
  · obtain ⟨u, rfl, t, rfl⟩ := vals1 r
    exact call_int_int ⟨.int i, H, I, ⟨_, rfl⟩, q⟩
  · obtain ⟨u, rfl, r1⟩ := vals1 r
    cases r1
    exact call_int_bool ⟨.int (if k then 1 else 0), H, I.tok _, ⟨_, rfl⟩, q⟩
theorem call_bool1 : CallR X (.type "bool") (fun xs H Q => (∃ i, xs = [.int i] ∧ Q (.bl (i != 0)) H) ∨ ∃ k, xs = [.bl k] ∧ Q (.bl k) H) := by
  intro pins s σ H xs us Q I r h
  rcases h with ⟨i, rfl, q⟩ | ⟨k, rfl, q⟩
  · obtain ⟨u, rfl, t, rfl⟩ := vals1 r
    exact call_bool_int ⟨.bl (i != 0), H, I, rfl, q⟩
  · obtain ⟨u, rfl, r1⟩ := vals1 r
    cases r1
    exact call_bool_bool ⟨.bl k, H, I, rfl, q⟩
theorem call_str_int : CallR X (.type "str") (fun xs H Q => ∃ i, xs = [.int i] ∧ i.natAbs.log2 < 1920 ∧ Q (.str (toString i)) H) := by
  intro pins s σ H xs us Q I r h
  obtain ⟨i, rfl, hz, q⟩ := h
  obtain ⟨u, rfl, t, rfl⟩ := vals1 r
  exact PySem.P.str_of_int hz ⟨.str _, H, I.tok _, ⟨_, rfl⟩, q⟩
theorem call_ord : CallR X (.builtin "ord") (fun xs H Q => ∃ x, xs = [.str x] ∧ x.length = 1 ∧ Q (.int (x.cps.getD 0 0 : Nat)) H) := by
  intro pins s σ H xs us Q I r h
  obtain ⟨x, rfl, hz, q⟩ := h
  obtain ⟨u, rfl, t, rfl⟩ := vals1 r
  exact ord_of_one hz ⟨.int _, H, I.tok _, ⟨_, rfl⟩, q⟩
theorem call_chr : CallR X (.builtin "chr") (fun xs H Q => ∃ i, xs = [.int i] ∧ 0 ≤ i ∧ i ≤ 1114111 ∧ Q (.str ⟨#[i.toNat]⟩) H) := by
  intro pins s σ H xs us Q I r h
  obtain ⟨i, rfl, h0, h1, q⟩ := h
  obtain ⟨u, rfl, t, rfl⟩ := vals1 r
  exact chr_of_range h0 h1 ⟨.str _, H, I.tok _, ⟨_, rfl⟩, q⟩
/-- len of a str, a bytes, a list, a tuple -/
def LenV (K : PySem.W.Frag) (x : V) (H : Hp) (n : Nat) : Prop :=
  match x with
  | .str y => y.length ≤ sizeLine ∧ n = y.length
  | .byt y => y.size ≤ sizeLine ∧ n = y.size
  | .ref p => (∃ xs, SqL K H p xs ∧ n = xs.length) ∨ ∃ xs, SqT K H p xs ∧ n = xs.length
  | _ => False
theorem call_len : CallR X (.builtin "len") (fun xs H Q => ∃ x n, xs = [x] ∧ LenV X.K x H n ∧ Q (.int n) H) := by
  intro pins s σ H xs us Q I r h
  obtain ⟨x, n, rfl, e, q⟩ := h
  obtain ⟨u, rfl, rx⟩ := vals1 r
  have hl := line63
  have hs : sizeLine = 16777216 := sizeLine_eq
  cases x with
  | str y =>
    obtain ⟨t, rfl⟩ := rx
    obtain ⟨hy, e'⟩ : y.length ≤ sizeLine ∧ n = y.length := e
    subst e'
    exact len_str (by omega) ⟨.int _, H, I.tok _, ⟨_, rfl⟩, q⟩
  | byt y =>
    obtain ⟨t, rfl⟩ := rx
    obtain ⟨hy, e'⟩ : y.size ≤ sizeLine ∧ n = y.size := e
    subst e'
    exact PySem.W.len_bytes (by omega) ⟨.int _, H, I.tok _, ⟨_, rfl⟩, q⟩
  | ref p =>
    cases rx
    have e' : (∃ xs, SqL X.K H p xs ∧ n = xs.length) ∨ ∃ xs, SqT X.K H p xs ∧ n = xs.length := e
    rcases e' with ⟨xs, hx, e'⟩ | ⟨xs, hx, e'⟩
    · subst e'
      obtain ⟨its, r', pl, hz⟩ := I.list hx
      have hlen := r'.length
      exact Calls.call_len_list pl.isList (by simp only [List.size_toArray]; omega) ⟨.int xs.length, H, I.tok _, ⟨_, by simp only [List.size_toArray]; rw [hlen]⟩, q⟩
    · subst e'
      obtain ⟨its, r', pl, hz⟩ := I.tuple hx
      have hlen := r'.length
      exact len_tuple pl (by simp only [List.size_toArray]; omega) ⟨.int xs.length, H, I.tok _, ⟨_, by simp only [List.size_toArray]; rw [hlen]⟩, q⟩
  | _ => exact (show False from e).elim
/-- divmod: a new tuple -/
theorem call_divmod : CallR X (.builtin "divmod") (fun xs H Q => ∃ i j, xs = [.int i, .int j] ∧ CDiv i j ∧ ∀ p, H p = none → Q (.ref p) (upd H p (.tup [.int (i / j), .int (i % j)]))) := by
  intro pins s σ H xs us Q I r h
  obtain ⟨i, j, rfl, ⟨h1, h2⟩, q⟩ := h
  obtain ⟨u, w', rfl, ⟨t, rfl⟩, ⟨t', rfl⟩⟩ := vals2 r
  refine divmod_int (by omega) ?_ (.inl (PyProof.noPylong_small (by omega)))
  rw [Int.fdiv_eq_ediv_of_nonneg i (by omega), Int.fmod_eq_emod_of_nonneg i (by omega)]
  have hn : H s.heap.objs.size = none := I.hok.fresh (Nat.le_refl _)
  refine ⟨.ref s.heap.objs.size, _, ?_, rfl, q _ hn⟩
  refine I.laid (fun b o e => Heap.get?_push_of_some _ e) (Nat.le_refl _) ⟨by simp only [List.length_cons, List.length_nil]; rw [sizeLine_eq]; decide, [.int (i / j) s.toks, .int (i % j) (s.toks + 1)], .cons ⟨_, rfl⟩ (.cons ⟨_, rfl⟩ .nil), ?_⟩
  exact ⟨_, Heap.get?_push_size s.heap rfl, rfl, 0, rfl⟩
end
end L2

namespace L2
open PySem PySem.Spec PyProof.Rows

/-! ### an instance, its attributes a map -/
structure ObjM (h : Heap) (x dx C : Addr) (mA : Str → Option Value) : Prop where
  obj : h.get? x = some (PySem.W.instObj C dx)
  ns : h.Ns1 dx mA
  ne : dx ≠ x

theorem lookIn_ns {h : Heap} {dx : Addr} {mA : Str → Option Value} (n : h.Ns1 dx mA) : ∃ od, h.get? dx = some od ∧ ∀ name, PySem.W.lookIn name od = some (mA name) := by
  obtain ⟨o, es, ep, ho, hd, hk, _, hm⟩ := n
  refine ⟨o, ho, fun name => ?_⟩
  have e := hm name
  unfold nsFind findBy at e
  rw [← Array.find?_toList] at e
  unfold PySem.W.lookIn
  rw [hd]
  dsimp only
  split
  · rename_i y q
    rw [q] at e
    exact congrArg some e
  · rename_i q
    rw [q] at e
    have a : es.toList.any (·.refKey) = false := by
      rw [List.any_eq_false]
      intro y hy
      obtain ⟨z, t, hkey⟩ := hk y (Array.mem_toList_iff.mp hy)
      simp [DictEntry.refKey, hkey]
    have a' : ¬ es.toList.any (·.refKey) = true := by rw [a]; exact Bool.false_ne_true
    rw [if_neg a']
    exact congrArg some e

theorem ObjM.look {h : Heap} {x dx C : Addr} {mA : Str → Option Value} (I : ObjM h x dx C mA) : ∃ od, PySem.W.InstAt h x (PySem.W.instObj C dx) C (some od) ∧ ∀ name, PySem.W.lookIn name od = some (mA name) :=
  let ⟨od, ho, hl⟩ := lookIn_ns I.ns
  ⟨od, ⟨I.obj, rfl, rfl, ho⟩, hl⟩

section
variable {prog : Program} {w : World} {A : Around} {E : Value → Shared → Prop} {s : Shared} {K : PySem.W.Frag} {x dx C f : Addr} {mA : Str → Option Value} {name : Str} {v : Value}

theorem get_map {expr : Bool} {Q : Value → Shared → Prop} (X : K.In s.heap) (I : ObjM s.heap x dx C mA) (hg : PySem.W.plainGet K C name = true) (hh : PySem.W.hasDictIn K C = true)
    (ha : PySem.W.findIn K (.ref C) name = some none) (hv : mA name = some v) (hv' : PySem.W.handedIn v = true) (h : Q v { s with toks := s.toks + 1 }) :
    wpAny (model prog w) A (getAttr (.ref x) name expr) Q E s := by
  obtain ⟨od, J, hl⟩ := I.look
  exact PySem.W.get_value X J (PySem.W.plainGet_of hg).1 (PySem.W.findObj_own hh ha rfl (by rw [hl, hv])) hv' h

theorem get_const {expr : Bool} {a : Value} {Q : Value → Shared → Prop} (X : K.In s.heap) (I : ObjM s.heap x dx C mA) (hg : PySem.W.plainGet K C name = true) (hh : PySem.W.hasDictIn K C = true)
    (ha : PySem.W.findIn K (.ref C) name = some (some a)) (hn : PySem.W.specialIn K a "__get__" = some none) (hc : PySem.W.copiedNames.contains name = false) (hv : mA name = none) (hv' : PySem.W.handedIn a = true)
    (h : Q a { s with toks := s.toks + 1 }) : wpAny (model prog w) A (getAttr (.ref x) name expr) Q E s := by
  obtain ⟨od, J, hl⟩ := I.look
  exact PySem.W.get_value X J (PySem.W.plainGet_of hg).1 (PySem.W.findObj_cls hh ha hn hv' hc (by rw [hl, hv])) hv' h

theorem get_meth {pl : Sem Bool} {Q : Value × List Value → Shared → Prop} (X : K.In s.heap) (I : ObjM s.heap x dx C mA) (hg : PySem.W.plainGet K C name = true)
    (hf : PySem.W.findIn K (.ref C) name = some (some (.ref f))) (ht : PySem.W.isFn K (.ref f) = true) (hv : mA name = none) (h : Q (.ref f, [.ref x]) s) :
    wpAny (model prog w) A (getMethod (.ref x) name pl) Q E s := by
  obtain ⟨od, J, hl⟩ := I.look
  exact PySem.W.method_fn X J (PySem.W.plainGet_of hg).1 (PySem.W.plainGet_of hg).2 hf (beq_iff_eq.mp ht) (by show (PySem.W.lookIn name od).map (·.isSome) = some false; rw [hl, hv]; rfl) h

theorem set_map {ns : List Str} {Q : Unit → Shared → Prop} (X : K.In s.heap) (I : ObjM s.heap x dx C mA)
    (hs : PySem.W.findIn K (.ref C) "__setattr__" = some (some (.builtin "object.__setattr__"))) (hp : PySem.W.plainOver K C = true) (ht : PySem.W.takerIn K C name = some none) (hh : PySem.W.hasDictIn K C = true)
    (hw : PySem.Within mA ns) (hsz : ns.length ≤ sizeLine)
    (h : ∀ h', ObjM h' x dx C (fun y => if y = name then some v else mA y) → Heap.SameBut dx s.heap h' → Q () { s with heap := h', toks := s.toks + 2 }) :
    wpAny (model prog w) A (setAttr (.ref x) name v) Q E s := by
  obtain ⟨od, J, hl⟩ := I.look
  refine PySem.W.set_plain X J hs (PySem.W.osa_open (s := { s with toks := s.toks + 1 }) (r := none) X J hp ht fun b => ?_)
  obtain ⟨cd, hc, hd'⟩ := PySem.W.any_some hh
  have hx : s.heap.get? x = some ⟨.ref C, some dx, .plain, #[]⟩ := I.obj
  refine wpAny_bind (wpAny_pure (wpAny_bind (wpAny_bind (wpAny_loadPart hx (wpAny_bind (PySem.W.Looks.here (s := { s with toks := s.toks + 1 }) (PySem.W.looks_clsIn X hc) ?_))))))
  rw [hd']
  refine wpAny_pure (a := some dx) (wpAny_bind (wpAny_pure (wpAny_bind ?_)))
  refine wpAny_nsSet1 (s := { s with toks := s.toks + 1 }) I.ns fun h' hn2 hs2 => ?_
  obtain ⟨oD, esD, epD, hoD, hdD, hcD⟩ := hn2.count (PySem.Within.cons name v hw)
  refine wpAny_bind (wpAny_lookBehind hoD (by rw [hdD]; exact pastItsLine_dict (Nat.le_trans hcD (by rw [List.length_cons]; omega))) ?_)
  exact wpAny_pure (h _ ⟨(hs2.2 _ (Ne.symm I.ne)).trans I.obj, hn2, I.ne⟩ hs2)

/-- C(..): the dict at the heap's end, the instance behind it; then its __init__ -/
theorem make_map {R : Result → Shared → Prop} {vs : List Value} {kw : List (Str × Value)} (X : K.In s.heap) (hm : PySem.W.makesIn K C = true)
    (hi : PySem.W.findIn K (.ref C) "__init__" = some (some (.ref f))) (hf : PySem.W.typeIn K (.ref f) = some (.type "function"))
    (h : codeAny (model prog w) (A.under (.builtin "type.__call__" ⟨.ref C :: vs, kw⟩)) (.call (.ref f) ⟨.ref (s.heap.objs.size + 1) :: vs, kw⟩) (PySem.W.InitBack (s.heap.objs.size + 1) R)
      { s with heap := (s.heap.push PySem.W.emptyDict).push (PySem.W.instObj C s.heap.objs.size) }) :
    codeAny (model prog w) A (.call (.ref C) ⟨vs, kw⟩) R s := by
  obtain ⟨hh, g, d, t, os⟩ := s
  exact PySem.W.make_core (PySem.W.makes_of X hm) (PySem.W.looks_findIn X hi) (fun self => PySem.W.bind_fn X self hf) (.inl rfl) h
/-- C() where there is no __init__ but object's -/
theorem make_map0 {R : Result → Shared → Prop} (X : K.In s.heap) (hm : PySem.W.makesIn K C = true)
    (hi : PySem.W.findIn K (.ref C) "__init__" = some (some (.builtin "object.__init__")))
    (hb : ∀ self, PySem.W.Looks (model prog w) s.heap (bindSpecial (.builtin "object.__init__") self) (.builtin "object.__init__", [self]))
    (h : codeAny (model prog w) (A.under (.builtin "type.__call__" ⟨[.ref C], []⟩)) (.call (.builtin "object.__init__") ⟨[.ref (s.heap.objs.size + 1)], []⟩) (PySem.W.InitBack (s.heap.objs.size + 1) R)
      { s with heap := (s.heap.push PySem.W.emptyDict).push (PySem.W.instObj C s.heap.objs.size) }) :
    codeAny (model prog w) A (.call (.ref C) ⟨[], []⟩) R s := by
  obtain ⟨hh, g, d, t, os⟩ := s
  exact PySem.W.make_core (PySem.W.makes_of X hm) (PySem.W.looks_findIn X hi) hb (.inr ⟨rfl, rfl⟩) h
end

/-! ### the attributes as a list of pairs -/
def putF (f : Str) (v : V) : List (Str × V) → List (Str × V)
  | [] => [(f, v)]
  | (g, x) :: r => if g = f then (g, v) :: r else (g, x) :: putF f v r
theorem lookup_putF (f g : Str) (v : V) : ∀ fs : List (Str × V), (putF f v fs).lookup g = if g = f then some v else fs.lookup g
  | [] => by
    show List.lookup g [(f, v)] = _
    by_cases h : g = f
    · have hb : (g == f) = true := beq_iff_eq.mpr h
      simp only [List.lookup, hb, if_pos h]
    · have hb : (g == f) = false := beq_eq_false_iff_ne.mpr h
      simp only [List.lookup, hb, if_neg h]
  | (k, x) :: r => by
    have ih := lookup_putF f g v r
    rw [show putF f v ((k, x) :: r) = (if k = f then (k, v) :: r else (k, x) :: putF f v r) from rfl]
    by_cases hk : k = f
    · rw [if_pos hk]
      by_cases h : g = k
      · have hb : (g == k) = true := beq_iff_eq.mpr h
        simp only [List.lookup, hb, if_pos (h.trans hk)]
      · have hb : (g == k) = false := beq_eq_false_iff_ne.mpr h
        simp only [List.lookup, hb, if_neg (fun e : g = f => h (e.trans hk.symm))]
    · rw [if_neg hk]
      by_cases h : g = k
      · have hb : (g == k) = true := beq_iff_eq.mpr h
        simp only [List.lookup, hb, if_neg (fun e : g = f => hk (h.symm.trans e))]
      · have hb : (g == k) = false := beq_eq_false_iff_ne.mpr h
        simp only [List.lookup, hb]
        exact ih
theorem keys_putF (f : Str) (v : V) : ∀ fs : List (Str × V), f ∈ (putF f v fs).map (·.1) ∧ ∀ g, g ∈ fs.map (·.1) → g ∈ (putF f v fs).map (·.1)
  | [] => ⟨by simp [putF], fun g h => by simp at h⟩
  | (k, x) :: r => by
    obtain ⟨i1, i2⟩ := keys_putF f v r
    rw [show putF f v ((k, x) :: r) = (if k = f then (k, v) :: r else (k, x) :: putF f v r) from rfl]
    by_cases hk : k = f
    · rw [if_pos hk]
      subst hk
      exact ⟨by simp, fun g h => by simpa using h⟩
    · rw [if_neg hk]
      refine ⟨?_, fun g h => ?_⟩
      · rw [List.map_cons]
        exact List.mem_cons_of_mem _ i1
      · rw [List.map_cons] at h ⊢
        rcases List.mem_cons.mp h with e | e
        · exact List.mem_cons.mpr (.inl e)
        · exact List.mem_cons_of_mem _ (i2 g e)
theorem length_putF (f : Str) (v : V) : ∀ fs : List (Str × V), (putF f v fs).length ≤ fs.length + 1
  | [] => by simp [putF]
  | (k, x) :: r => by
    have ih := length_putF f v r
    rw [show putF f v ((k, x) :: r) = (if k = f then (k, v) :: r else (k, x) :: putF f v r) from rfl]
    by_cases hk : k = f
    · rw [if_pos hk, List.length_cons, List.length_cons]; omega
    · rw [if_neg hk, List.length_cons, List.length_cons]; omega

theorem RelO.some_of {v : V} {o : Option Value} (r : RelO (some v) o) : ∃ u, o = some u ∧ RelV v u := by
  cases o with
  | none => exact (show False from r).elim
  | some u => exact ⟨u, rfl, r⟩
theorem RelO.none_of {o : Option Value} (r : RelO none o) : o = none := by
  cases o with
  | none => rfl
  | some u => exact (show False from r).elim
theorem handed_of {v : V} {u : Value} (r : RelV v u) : PySem.W.handedIn u = true := by
  cases v with
  | non => cases (show u = Value.none from r); rfl
  | bl b => cases (show u = Value.bool b from r); rfl
  | int i => obtain ⟨t, e⟩ := (show ∃ t, u = Value.int i t from r); cases e; rfl
  | str x => obtain ⟨t, e⟩ := (show ∃ t, u = Value.str x t from r); cases e; rfl
  | byt b => obtain ⟨t, e⟩ := (show ∃ t, u = Value.bytes b t from r); cases e; rfl
  | flt b => obtain ⟨t, e⟩ := (show ∃ t, u = Value.float b t from r); cases e; rfl
  | ref a => cases (show u = Value.ref a from r); rfl
  | ty n => cases (show u = Value.type n from r); rfl

section
variable {P : Program} {w : World} {H H' : Hp} {h h' : Heap} {a C dx : Addr} {fs fs' : List (Str × V)}
theorem ins_get (hok : HOk P w H h) (e : H a = some (.ins C dx fs)) : ∃ mA, ObjM h a dx C mA ∧ (∀ f, RelO (fs.lookup f) (mA f)) ∧ PySem.Within mA (fs.map (·.1)) ∧ fs.length ≤ 1000 ∧ H dx = some (.own a) := by
  obtain ⟨d, z, ne, ob, mA, n, r, q⟩ := (show ObjOk P w H h a (.ins C dx fs) from hok a _ e)
  exact ⟨mA, ⟨ob, n, ne⟩, r, q, z, d⟩
end

/-! ### what of the text a class must have -/
structure Cls (K : PySem.W.Frag) (C : Addr) : Prop where
  pg : PySem.W.plainGet K C Str.empty = true
  hd : PySem.W.hasDictIn K C = true
  po : PySem.W.plainOver K C = true
  sa : PySem.W.findIn K (.ref C) "__setattr__" = some (some (.builtin "object.__setattr__"))
theorem Cls.get {K : PySem.W.Frag} {C : Addr} (c : Cls K C) (f : Str) : PySem.W.plainGet K C f = true := c.pg
/-- no class of it has the name -/
def NoAttr (K : PySem.W.Frag) (C : Addr) (f : Str) : Prop := PySem.W.findIn K (.ref C) f = some none
theorem NoAttr.taker {K : PySem.W.Frag} {C : Addr} {f : Str} (n : NoAttr K C f) : PySem.W.takerIn K C f = some none := by
  unfold PySem.W.takerIn
  rw [show PySem.W.findIn K (.ref C) f = some none from n]
  rfl
/-- a constant of the class -/
structure Con (K : PySem.W.Frag) (C : Addr) (f : Str) (v : V) (u : Value) : Prop where
  at_ : PySem.W.findIn K (.ref C) f = some (some u)
  rel : RelV v u
  get : PySem.W.specialIn K u "__get__" = some none
  cp : PySem.W.copiedNames.contains f = false
/-- a method: a plain def of the class or of one above it -/
structure Meth (K : PySem.W.Frag) (C : Addr) (m : Str) (f : Addr) : Prop where
  at_ : PySem.W.findIn K (.ref C) m = some (some (.ref f))
  fn : PySem.W.isFn K (.ref f) = true
  kp : PySem.W.keepIn K (.ref f) = true

section
variable {X : Cx} {pins : List (Addr × Obj)} {σ : St} {H : Hp} {s : Shared} {a C dx : Addr} {fs : List (Str × V)} {f : Str} {v : V} {A : Around} {E : Value → Shared → Prop}

theorem getattr_ok {b : Bool} {Q : Value → Shared → Prop} (I : Inv X pins σ H s) (e : H a = some (.ins C dx fs)) (c : Cls X.K C) (n : NoAttr X.K C f) (l : fs.lookup f = some v)
    (h : ∀ u s', Inv X pins σ H s' → RelV v u → Q u s') : wpAny (model X.prog X.w) A (getAttr (.ref a) f b) Q E s := by
  obtain ⟨mA, O, r, _, _, _⟩ := ins_get I.hok e
  obtain ⟨u, hu, ru⟩ := RelO.some_of (v := v) (o := mA f) (by rw [← l]; exact r f)
  exact get_map I.kIn O (c.get f) c.hd n hu (handed_of ru) (h u _ (I.tok _) ru)

theorem getcon_ok {b : Bool} {u : Value} {Q : Value → Shared → Prop} (I : Inv X pins σ H s) (e : H a = some (.ins C dx fs)) (c : Cls X.K C) (k : Con X.K C f v u) (l : fs.lookup f = none)
    (h : ∀ s', Inv X pins σ H s' → Q u s') : wpAny (model X.prog X.w) A (getAttr (.ref a) f b) Q E s := by
  obtain ⟨mA, O, r, _, _, _⟩ := ins_get I.hok e
  have hn : mA f = none := RelO.none_of (by rw [← l]; exact r f)
  exact get_const I.kIn O (c.get f) c.hd k.at_ k.get k.cp hn (handed_of k.rel) (h _ (I.tok _))

theorem getmeth_ok {m : Str} {g : Addr} {pl : Sem Bool} {Q : Value × List Value → Shared → Prop} (I : Inv X pins σ H s) (e : H a = some (.ins C dx fs)) (c : Cls X.K C) (k : Meth X.K C m g) (l : fs.lookup m = none)
    (h : Q (.ref g, [.ref a]) s) : wpAny (model X.prog X.w) A (getMethod (.ref a) m pl) Q E s := by
  obtain ⟨mA, O, r, _, _, _⟩ := ins_get I.hok e
  have hn : mA m = none := RelO.none_of (by rw [← l]; exact r m)
  exact get_meth I.kIn O (c.get m) k.at_ k.fn hn h

theorem setattr_ok {y : V} {u : Value} {Q : Unit → Shared → Prop} (I : Inv X pins σ H s) (e : H a = some (.ins C dx fs)) (c : Cls X.K C) (n : NoAttr X.K C f) (hl : fs.length < 1000) (ry : RelV y u)
    (h : ∀ s', Inv X pins σ (upd H a (.ins C dx (putF f y fs))) s' → Q () s') : wpAny (model X.prog X.w) A (setAttr (.ref a) f u) Q E s := by
  obtain ⟨mA, O, r, wi, _, ho⟩ := ins_get I.hok e
  have hz : (fs.map (·.1)).length ≤ sizeLine := by rw [List.length_map, sizeLine_eq]; omega
  refine set_map I.kIn O c.sa c.po n.taker c.hd wi hz fun h' O' sb => h _ ?_
  have hd : ∃ o, h'.get? dx = some o := let ⟨o, _, _, e', _⟩ := O'.ns; ⟨o, e'⟩
  refine I.write (x := a) (e := dx) (by rw [e]; exact True.intro) (.inr ho) (fun b q hb z => (sb.2 b hb).trans z) hd ?_
  refine ⟨by rw [upd_ne O.ne]; exact ho, ?_, O.ne, O'.obj, _, O'.ns, fun g => ?_, fun g hg => ?_⟩
  · have := length_putF f y fs; omega
  · show RelO ((putF f y fs).lookup g) (if g = f then some u else mA g)
    rw [lookup_putF]
    by_cases q : g = f
    · rw [if_pos q, if_pos q]; exact ry
    · rw [if_neg q, if_neg q]; exact r g
  · by_cases q : g = f
    · rw [q]; exact (keys_putF f y fs).1
    · refine (keys_putF f y fs).2 g (wi g fun z => hg ?_)
      show (if g = f then some u else mA g) = none
      rw [if_neg q]; exact z

/-- a new instance, tracked, without attributes -/
theorem Inv.made (I : Inv X pins σ H s) : Inv X pins σ (upd (upd H s.heap.objs.size (.own (s.heap.objs.size + 1))) (s.heap.objs.size + 1) (.ins C s.heap.objs.size []))
    { s with heap := (s.heap.push PySem.W.emptyDict).push (PySem.W.instObj C s.heap.objs.size) } := by
  have e1 : (s.heap.push PySem.W.emptyDict).get? s.heap.objs.size = some PySem.W.emptyDict := Heap.get?_push_size s.heap rfl
  have e2 : ((s.heap.push PySem.W.emptyDict).push (PySem.W.instObj C s.heap.objs.size)).get? (s.heap.objs.size + 1) = some (PySem.W.instObj C s.heap.objs.size) := by
    have := Heap.get?_push_size (s.heap.push PySem.W.emptyDict) (o := PySem.W.instObj C s.heap.objs.size) rfl
    rwa [Heap.size_push] at this
  have e3 : (s.heap.push PySem.W.emptyDict).Ns s.heap.objs.size (fun _ => none) := ⟨PySem.W.emptyDict, #[], _, e1, rfl, (fun e he => absurd he (by simp)), fun _ => rfl⟩
  have I1 := I.laid (a := s.heap.objs.size) (o := .own (s.heap.objs.size + 1)) (h' := s.heap.push PySem.W.emptyDict) (t' := s.toks) (fun b u q => Heap.get?_push_of_some _ q) (Nat.le_refl _) ⟨_, e1⟩
  refine I1.laid (a := s.heap.objs.size + 1) (o := .ins C s.heap.objs.size []) (t' := s.toks) (fun b u q => Heap.get?_push_of_some _ q) (Nat.le_of_eq (Heap.size_push _ _)) ?_
  have ne : s.heap.objs.size ≠ s.heap.objs.size + 1 := Nat.ne_of_lt (Nat.lt_succ_self _)
  refine ⟨by rw [upd_ne ne, upd_same], Nat.zero_le _, ne, e2, fun _ => none, (Heap.Ns1.of_empty e3).at fun o q => Heap.get?_push_of_some _ q, fun _ => True.intro, fun y hy => absurd rfl hy⟩

/-- e.f where nothing but the object is asked: through attributeBase (super) and the last hold -/
theorem attr_of {prog : Program} {w : World} {env : Env} {e : Expr} {f : Str} {pos : Pos} {s : Shared} {Q : Value → Shared → Prop} (hb : attributeBase e f env (eval e env) = eval e env)
    (h : wpAny (model prog w) A (eval e env) (fun o s₁ => wpAny (model prog w) A (getAttr o f true) Q E s₁) E s) : wpAny (model prog w) A (eval (.Attribute e f pos) env) Q E s :=
  Attribute_any_ h (by rw [arm_eval_Attribute, hb])
end

/-! ### readings and rules -/
/-- e.f, an attribute of the instance -/
def tFld (K : PySem.W.Frag) (ta : TE) (f : Str) : TE := fun σ H Q => ta σ H fun x H1 => ∃ a C dx fs v, x = .ref a ∧ H1 a = some (.ins C dx fs) ∧ Cls K C ∧ NoAttr K C f ∧ fs.lookup f = some v ∧ Q v H1
/-- e.f, a constant of the class -/
def tCon (K : PySem.W.Frag) (ta : TE) (f : Str) : TE := fun σ H Q => ta σ H fun x H1 => ∃ a C dx fs v u, x = .ref a ∧ H1 a = some (.ins C dx fs) ∧ Cls K C ∧ Con K C f v u ∧ fs.lookup f = none ∧ Q v H1
/-- e.f = value -/
def sFld (K : PySem.W.Frag) (ta tv : TE) (f : Str) : TS := fun D σ H => tv σ H fun y H1 => ta σ H1 fun x H2 => ∃ a C dx fs, x = .ref a ∧ H2 a = some (.ins C dx fs) ∧ Cls K C ∧ NoAttr K C f ∧ fs.length < 1000 ∧
  D.nx σ (upd H2 a (.ins C dx (putF f y fs)))
/-- an augmented operator on two values -/
def InOp (X : Cx) (op : Operator) (rd : V → V → Hp → VK → Prop) : Prop :=
  ∀ (pins : List (Addr × Obj)) (s : Shared) (σ : St) (H : Hp) (x y : V) (u v : Value) (Q : VK), Inv X pins σ H s → RelV x u → RelV y v → rd x y H Q → wpAny (model X.prog X.w) X.A (inplaceOp op u v) (EP X pins σ Q) X.xe s
/-- e.f op= value -/
def sFldAug (K : PySem.W.Frag) (ta tv : TE) (rd : V → V → Hp → VK → Prop) (f : Str) : TS := fun D σ H => ta σ H fun x H1 => ∃ a C dx fs v, x = .ref a ∧ H1 a = some (.ins C dx fs) ∧ Cls K C ∧ NoAttr K C f ∧ fs.lookup f = some v ∧
  tv σ H1 fun y H2 => rd v y H2 fun z H3 => ∃ dx' fs', H3 a = some (.ins C dx' fs') ∧ fs'.length < 1000 ∧ D.nx σ (upd H3 a (.ins C dx' (putF f z fs')))

section
variable {X : Cx} {o e value : Expr} {f : Str} {pos pos' tpos : Pos} {ta tv : TE}
theorem pe_fld (he : PE X e ta) (hb : attributeBase e f X.env (eval e X.env) = eval e X.env) : PE X (.Attribute e f pos) (tFld X.K ta f) := by
  intro pins s σ H Q I h
  refine attr_of hb (thn (he pins s σ H _ I h) fun u s1 ⟨x, H1, I1, rx, a, C, dx, fs, v, ex, ea, c, n, l, q⟩ => ?_)
  subst ex
  obtain rfl : u = Value.ref a := rx
  exact getattr_ok I1 ea c n l fun u' s2 I2 ru => ⟨v, H1, I2, ru, q⟩
theorem pe_con (he : PE X e ta) (hb : attributeBase e f X.env (eval e X.env) = eval e X.env) : PE X (.Attribute e f pos) (tCon X.K ta f) := by
  intro pins s σ H Q I h
  refine attr_of hb (thn (he pins s σ H _ I h) fun u s1 ⟨x, H1, I1, rx, a, C, dx, fs, v, u0, ex, ea, c, k, l, q⟩ => ?_)
  subst ex
  obtain rfl : u = Value.ref a := rx
  exact getcon_ok I1 ea c k l fun s2 I2 => ⟨v, H1, I2, k.rel, q⟩
theorem ps_fld (ha : PE X o ta) (hv : PE X value tv) (hs : swapsWith value (some (.Attribute o f pos')) pos.line X.env = pure false) : PS X (.Assign [.Attribute o f pos'] value pos) (sFld X.K ta tv f) := by
  intro pins s σ H D I h
  refine plainObj_wpAny_Assign_Attribute (thn (hv pins s σ H _ I h) fun u s1 ⟨y, H1, I1, ry, q⟩ => thn (ha pins s1 σ H1 _ I1 q) fun ov s2 ⟨x, H2, I2, rx, a, C, dx, fs, ex, ea, c, n, l, q2⟩ => ?_) hs
  subst ex
  obtain rfl : ov = Value.ref a := rx
  exact setattr_ok I2 ea c n l ry fun s3 I3 => ⟨σ, _, I3, q2⟩
theorem ps_fldaug {op : Operator} {rd : V → V → Hp → VK → Prop} (ha : PE X o ta) (hv : PE X value tv) (hop : InOp X op rd) : PS X (.AugAssign (.Attribute o f tpos) op value pos) (sFldAug X.K ta tv rd f) := by
  intro pins s σ H D I h
  refine wpAny_AugAssign_AttributeAny (thn (ha pins s σ H _ I h) fun ov s1 ⟨x, H1, I1, rx, a, C, dx, fs, v, ex, ea, c, n, l, q⟩ => ?_)
  subst ex
  obtain rfl : ov = Value.ref a := rx
  refine getattr_ok I1 ea c n l fun u s2 I2 ru => thn (hv pins s2 σ H1 _ I2 q) fun w3 s3 ⟨y, H2, I3, ry, q3⟩ => thn (hop pins s3 σ H2 v y u w3 _ I3 ru ry q3) fun w4 s4 ⟨z, H3, I4, rz, dx', fs', ea', l', q4⟩ => ?_
  exact setattr_ok I4 ea' c n l' rz fun s5 I5 => ⟨σ, _, I5, q4⟩
def rAdd : V → V → Hp → VK → Prop := fun x y H Q => ∃ i j, x = .int i ∧ y = .int j ∧ Q (.int (i + j)) H
def rSub : V → V → Hp → VK → Prop := fun x y H Q => ∃ i j, x = .int i ∧ y = .int j ∧ Q (.int (i - j)) H
theorem in_add : InOp X .Add rAdd := by
  rintro pins s σ H x y u v Q I rx ry ⟨i, j, rfl, rfl, q⟩
  obtain ⟨t, rfl⟩ := (show ∃ t, u = Value.int i t from rx)
  obtain ⟨t', rfl⟩ := (show ∃ t', v = Value.int j t' from ry)
  exact PyProof.Rows.iadd_int ⟨.int (i + j), H, I.tok _, ⟨_, rfl⟩, q⟩
theorem in_sub : InOp X .Sub rSub := by
  rintro pins s σ H x y u v Q I rx ry ⟨i, j, rfl, rfl, q⟩
  obtain ⟨t, rfl⟩ := (show ∃ t, u = Value.int i t from rx)
  obtain ⟨t', rfl⟩ := (show ∃ t', v = Value.int j t' from ry)
  exact PyProof.Rows.isub_int ⟨.int (i - j), H, I.tok _, ⟨_, rfl⟩, q⟩

/-- what is between an instance and its method: the tree of a method call -/
theorem methcall_of {pl : Sem Bool} {m : Str} {apos : Pos} {args : List Expr} {pins : List (Addr × Obj)} {s : Shared} {σ : St} {H : Hp} {Q : Value → Shared → Prop} {te : TE} (he : PE X e te) (I : Inv X pins σ H s)
    (h : te σ H fun x H1 => ∃ a C dx fs g, x = .ref a ∧ H1 a = some (.ins C dx fs) ∧ Cls X.K C ∧ Meth X.K C m g ∧ fs.lookup m = none ∧
      ∀ s1, Inv X pins σ H1 s1 → wpAny (model X.prog X.w) X.A (callWith pos (.ref g) [.ref a] (backTo pos (starEach args X.env)) (backToKw pos (keywordEach [] X.env))) Q X.xe s1)
    (ht : eval (.Call (.Attribute e m apos) args [] pos) X.env = (do
      let ov ← eval e X.env
      standAt apos.atName
      let (f, first) ← holding [ov] (getMethod ov m pl)
      callWith pos f first (backTo pos (starEach args X.env)) (backToKw pos (keywordEach [] X.env)))) :
    wpAny (model X.prog X.w) X.A (eval (.Call (.Attribute e m apos) args [] pos) X.env) Q X.xe s := by
  refine PySem.W.methodCall_KW (pl := pl) (thn (he pins s σ H _ I h) fun u s1 ⟨x, H1, I1, rx, a, C, dx, fs, g, ex, ea, c, k, l, q⟩ => ?_) ht
  subst ex
  obtain rfl : u = Value.ref a := rx
  exact getmeth_ok I1 ea c k l (q s1 I1)
end

/-! ### isinstance -/
section
variable {X : Cx} {pins : List (Addr × Obj)} {σ : St} {H : Hp} {s : Shared} {A : Around} {E : Value → Shared → Prop} {Q : Value → Shared → Prop} {c : Value} {b : Bool}
/-- the type of a value, as the fragment's deciders take it; for an instance its class -/
inductive TyOf (K : PySem.W.Frag) (H : Hp) : V → Value → Prop where
  | non : TyOf K H .non (.type "NoneType")
  | bl (x : Bool) : TyOf K H (.bl x) (.type "bool")
  | int (i : Int) : TyOf K H (.int i) (.type "int")
  | str (x : Str) : TyOf K H (.str x) (.type "str")
  | flt (x : UInt64) : TyOf K H (.flt x) (.type "float")
  | lst {a : Addr} {xs : List V} (e : H a = some (.lst xs)) : TyOf K H (.ref a) (.type "list")
  | frz {a : Addr} {o : Obj} {xs : List V} (e : H a = some (.frz o (.lst xs))) : TyOf K H (.ref a) (.type "list")
  | tup {a : Addr} {xs : List V} (e : H a = some (.tup xs)) : TyOf K H (.ref a) (.type "tuple")
  | dK {a : Addr} {kvs : List (Key × V)} (e : H a = some (.dK kvs)) : TyOf K H (.ref a) (.type "dict")
  | dT {a : Addr} {kvs : List (List Key × V)} (e : H a = some (.dT kvs)) : TyOf K H (.ref a) (.type "dict")
  | ins {a C dx : Addr} {fs : List (Str × V)} (e : H a = some (.ins C dx fs)) (cl : Cls K C) (ha : PySem.W.findIn K (.ref C) "__class__" = some (some (.builtin "object.__class__")))
      (hn : PySem.W.specialIn K (.builtin "object.__class__") "__get__" = some (some (.builtin "getset_descriptor.__get__"))) (htk : PySem.W.takesIn K (.builtin "object.__class__") = some true)
      (hm : PySem.W.mroIn K C (.type "object") = some true) : TyOf K H (.ref a) (.ref C)
/-- isinstance(x, c) for one class c, a built-in or an own one: kitOne's answer -/
theorem isinst_ok {x : V} {u t : Value} (I : Inv X pins σ H s) (rx : RelV x u) (ty : TyOf X.K H x t) (e : PySem.W.kitOne X.K t c = some b) (h : ∀ tk, Q (.bool b) { s with toks := tk }) :
    wpAny (model X.prog X.w) A (call (.builtin "isinstance") [u, c]) Q E s := by
  cases ty with
  | non => cases (show u = Value.none from rx); exact PySem.W.kia_one PySem.W.kitx_none I.kIn True.intro e (fun z => nomatch z) h
  | bl y => cases (show u = Value.bool y from rx); exact PySem.W.kia_one PySem.W.kitx_bool I.kIn True.intro e (fun z => nomatch z) h
  | int i => obtain ⟨t, q⟩ := (show ∃ t, u = Value.int i t from rx); cases q; exact PySem.W.kia_one PySem.W.kitx_int I.kIn True.intro e (fun z => nomatch z) h
  | str y => obtain ⟨t, q⟩ := (show ∃ t, u = Value.str y t from rx); cases q; exact PySem.W.kia_one PySem.W.kitx_str I.kIn True.intro e (fun z => nomatch z) h
  | flt y => obtain ⟨t, q⟩ := (show ∃ t, u = Value.float y t from rx); cases q; exact PySem.W.kia_one PySem.W.kitx_float I.kIn True.intro e (fun z => nomatch z) h
  | @lst a xs ea =>
    cases (show u = Value.ref a from rx)
    obtain ⟨_, _, n, _, h1⟩ := (show ObjOk X.prog X.w H s.heap a (.lst xs) from I.hok a _ ea)
    exact PySem.W.kia_one PySem.W.kitx_list I.kIn ⟨_, h1, rfl⟩ e (fun z => nomatch z) h
  | @frz a ob xs ea =>
    cases (show u = Value.ref a from rx)
    obtain ⟨_, _, _, n, _, h1⟩ := (show ObjOk X.prog X.w H s.heap a (.frz ob (.lst xs)) from I.hok a _ ea)
    exact PySem.W.kia_one PySem.W.kitx_list I.kIn ⟨_, h1, rfl⟩ e (fun z => nomatch z) h
  | @tup a xs ea =>
    cases (show u = Value.ref a from rx)
    obtain ⟨_, _, _, p⟩ := (show ObjOk X.prog X.w H s.heap a (.tup xs) from I.hok a _ ea)
    obtain ⟨o, h1, h2, _⟩ := p
    exact PySem.W.kia_one PySem.W.kitx_tuple I.kIn ⟨o, h1, h2⟩ e (fun z => nomatch z) h
  | @dK a kvs ea =>
    cases (show u = Value.ref a from rx)
    obtain ⟨_, _, vs, _, p⟩ := (show ObjOk X.prog X.w H s.heap a (.dK kvs) from I.hok a _ ea)
    obtain ⟨o, es, ep, h1, h2, _⟩ := p
    exact PySem.W.kia_one PySem.W.kitx_dict I.kIn ⟨o, h1, h2.1⟩ e (fun z => nomatch z) h
  | @dT a kvs ea =>
    cases (show u = Value.ref a from rx)
    obtain ⟨_, _, xs, _, o, es, ep, h1, h2, _⟩ := (show ObjOk X.prog X.w H s.heap a (.dT kvs) from I.hok a _ ea)
    exact PySem.W.kia_one PySem.W.kitx_dict I.kIn ⟨o, h1, h2.1⟩ e (fun z => nomatch z) h
  | @ins a C dx fs ea cl ha hn htk hm =>
    cases (show u = Value.ref a from rx)
    obtain ⟨mA, O, _⟩ := ins_get I.hok ea
    obtain ⟨od, J, _⟩ := O.look
    exact PySem.W.kia_one (PySem.W.kitx_own (cl.get _) cl.hd ha hn htk hm) I.kIn J e (fun z => nomatch z) h
end
end L2

namespace L2
open PySem PySem.Spec PyProof.Rows

/-! ### room -/
structure Room (k : Nat) (A : Around) : Prop where
  hd : A.handled = none
  dp : A.depth + 3 * k + 5 < recursionLimit
  un : A.units + 16 * k + 200 < cLine
  gd : A.guards = some []
theorem Room.mono {j k : Nat} {A : Around} (r : Room k A) (h : j ≤ k) : Room j A := ⟨r.hd, by have := r.dp; omega, by have := r.un; omega, r.gd⟩
theorem Room.deeper {k : Nat} {A : Around} (r : Room (k + 1) A) (env : Env) : Room k (A.deeper env) :=
  ⟨r.hd, by have := r.dp; show A.depth + 1 + 3 * k + 5 < _; omega, by have := r.un; show A.units + 3 + 16 * k + 200 < _; omega, r.gd⟩
theorem Room.in1 {k : Nat} {A : Around} (r : Room (k + 1) A) : Room k A.in1 :=
  ⟨r.hd, by have := r.dp; show A.depth + 3 * k + 5 < _; omega, by have := r.un; show A.units + 1 + 16 * k + 200 < _; omega, r.gd⟩
theorem make_depth {A : Around} {C : Addr} {us : List Value} {kw : List (Str × Value)} : (A.under (.builtin "type.__call__" ⟨.ref C :: us, kw⟩)).depth = A.depth + 1 := by
  first | rfl | simp [Around.under, Code.weight, Code.isCreation, Code.isGuard, Code.isCaller, Code.frames, Code.isFrame, guardIds]
theorem make_units {A : Around} {C : Addr} {us : List Value} {kw : List (Str × Value)} : (A.under (.builtin "type.__call__" ⟨.ref C :: us, kw⟩)).units = A.units + 1 := by
  first | rfl | simp [Around.under, Code.cUnits, Code.frames, Code.isFrame]
theorem Room.make {k : Nat} {A : Around} (r : Room (k + 1) A) (C : Addr) (us : List Value) (kw : List (Str × Value)) : Room k (A.under (.builtin "type.__call__" ⟨.ref C :: us, kw⟩)) :=
  ⟨r.hd, by have := r.dp; rw [make_depth]; omega, by have := r.un; rw [make_units]; omega, by have := r.gd; first | exact this | simpa [Around.under, Code.guards, Code.isGuard, guardIds, pushGuards] using this⟩
theorem Room.depth {k : Nat} {A : Around} (r : Room k A) : A.depth < recursionLimit := by have := r.dp; omega
theorem Room.units {k : Nat} {A : Around} (r : Room k A) : A.units + 64 < cLine := by have := r.un; omega
theorem Room.units0 {k : Nat} {A : Around} (r : Room k A) : A.units < cLine := by have := r.un; omega

/-! ### argument lists and displays -/
def tNil : TA := fun _ H Q => Q [] H
def tCons (ta : TE) (tr : TA) : TA := fun σ H Q => ta σ H fun x H1 => tr σ H1 fun xs H2 => Q (x :: xs) H2
section
variable {X : Cx} {e : Expr} {es : List Expr} {te : TE} {t : TA} {pos : Pos}
theorem pa_nil : PA X [] tNil := fun _ _ _ _ H Q I h => Calls.spliced_nil ⟨[], H, I, .nil, h⟩
theorem pa_cons (ha : PE X e te) (hr : PA X es t) (hs : starEach (e :: es) X.env = (false, eval e X.env) :: starEach es X.env := by rfl) : PA X (e :: es) (tCons te t) := by
  intro pos pins s σ H Q I h
  rw [hs]
  show wpAny _ _ (spliced ((false, eval e X.env) :: backTo pos (starEach es X.env))) _ _ s
  refine Calls.spliced_cons (thn (ha pins s σ H _ I h) fun u s1 ⟨x, H1, I1, r1, q1⟩ => ?_)
  exact thn (hr pos pins s1 σ H1 _ I1 q1) fun us s2 ⟨xs, H2, I2, r2, q2⟩ => ⟨x :: xs, H2, I2, .cons r1 r2, q2⟩

/-- a tuple, a list of written items -/
def tTup (t : TA) : TE := fun σ H Q => t σ H fun xs H1 => xs.length ≤ sizeLine ∧ ∀ p, H1 p = none → Q (.ref p) (upd H1 p (.tup xs))
def tLst (t : TA) : TE := fun σ H Q => t σ H fun xs H1 => xs.length ≤ sizeLine ∧ ∀ p, H1 p = none → Q (.ref p) (upd H1 p (.lst xs))
theorem pe_tup {x1} (h : PA X es t) : PE X (.Tuple es x1 pos) (tTup t) := by
  intro pins s σ H Q I hq
  refine wpAny_Tuple_spliced (thn (h pos pins s σ H _ I hq) fun us s1 ⟨xs, H1, I1, r, z, q⟩ => ⟨by rw [← r.length]; exact z, ?_⟩)
  have hf : H1 s1.heap.objs.size = none := I1.hok.fresh (Nat.le_refl _)
  refine ⟨.ref s1.heap.objs.size, upd H1 s1.heap.objs.size (.tup xs), I1.laid (t' := s1.toks) (fun b u e => Heap.get?_push_of_some _ e) (Nat.le_refl _) ?_, rfl, q _ hf⟩
  exact ⟨z, us, r, ⟨_, Heap.get?_push_size _ rfl, rfl, _, rfl⟩⟩
theorem pe_lst (h : PA X es t) : PE X (.List es pos) (tLst t) := by
  intro pins s σ H Q I hq
  refine wpAny_List_spliced (thn (h pos pins s σ H _ I hq) fun us s1 ⟨xs, H1, I1, r, z, q⟩ => ⟨by rw [← r.length]; exact z, ?_⟩)
  have hf : H1 s1.heap.objs.size = none := I1.hok.fresh (Nat.le_refl _)
  refine ⟨.ref s1.heap.objs.size, upd H1 s1.heap.objs.size (.lst xs), I1.laid (t' := s1.toks) (fun b u e => Heap.get?_push_of_some _ e) (Nat.le_refl _) ?_, rfl, q _ hf⟩
  exact ⟨z, us, 0, r, Heap.get?_push_size _ rfl⟩
end

/-! ### what a def promises -/
/-- a def's promise: the bound arguments in the parameters' order, the heap, the wanted end, the wanted exception -/
abbrev Sp := List V → Hp → VK → XK → Prop
/-- how an exception lies behind a call (file 08 gives it): the callers' frames, abstract heap and state ahead of the call, the wish, the exception, the state -/
abbrev CXT := List Env → Hp → Shared → XK → Value → Shared → Prop

/-- the state at a call -/
structure Env0 (P : Program) (w : World) (K : PySem.W.Frag) (mg : Str → Option Value) (base : Heap) (A : Around) (outer : List Env) (s : Shared) (H : Hp) : Prop where
  frames : A.frames = some outer
  mod : Mod K mg base
  bs : ∀ b o, base.get? b = some o → s.heap.get? b = some o ∧ H b = none
  bsz : base.objs.size ≤ s.heap.objs.size
  funs : s.heap.FunFrames base outer
  frf : ∀ b ∈ frs outer, H b = none
  hok : HOk P w H s.heap
  bare : AllBare s.gens
/-- a call's end -/
def CE (outer : List Env) (P : Program) (w : World) (H : Hp) (s : Shared) (Q : VK) (u : Value) (s' : Shared) : Prop :=
  ∃ v H', s'.os = s.os ∧ AllBare s'.gens ∧ Un (frs outer) [] H H' s.heap s'.heap ∧ HOk P w H' s'.heap ∧ RelV v u ∧ Q v H'
def CR (CX : CXT) (outer : List Env) (P : Program) (w : World) (H : Hp) (s : Shared) (Q : VK) (E : XK) (r : Result) (s' : Shared) : Prop :=
  match r with
  | .ok (.ret u) => CE outer P w H s Q u s'
  | .ok _ => False
  | .error e => CX outer H s E e s'
structure FnOk (P : Program) (w : World) (K : PySem.W.Frag) (mg : Str → Option Value) (base : Heap) (CX : CXT) (k : Nat) (f : Addr) (fd : FuncData) (ps : List Str) (sp : Sp) : Prop where
  len : ∀ vs H Q E, sp vs H Q E → vs.length = ps.length
  run : ∀ (A : Around) (outer : List Env) (s : Shared) (H : Hp) (args : Args) (us : List Value) (vs : List V) (Q : VK) (E : XK), Room k A → Env0 P w K mg base A outer s H → BindsTo s fd args (ps.zip us) → Vals vs us → sp vs H Q E →
    codeAny (model P w) A (.call (.ref f) args) (CR CX outer P w H s Q E) s
theorem FnOk.mono {P : Program} {w : World} {K : PySem.W.Frag} {mg : Str → Option Value} {base : Heap} {CX : CXT} {j k : Nat} {f : Addr} {fd : FuncData} {ps : List Str} {sp : Sp} (F : FnOk P w K mg base CX j f fd ps sp) (h : j ≤ k) :
    FnOk P w K mg base CX k f fd ps sp := ⟨F.len, fun A outer s H args us vs Q E hr => F.run A outer s H args us vs Q E (hr.mono h)⟩
/-- a weaker promise -/
theorem FnOk.imp {P : Program} {w : World} {K : PySem.W.Frag} {mg : Str → Option Value} {base : Heap} {CX : CXT} {k : Nat} {f : Addr} {fd : FuncData} {ps : List Str} {sp sp' : Sp} (F : FnOk P w K mg base CX k f fd ps sp)
    (h : ∀ vs H Q E, sp' vs H Q E → sp vs H Q E) : FnOk P w K mg base CX k f fd ps sp' :=
  ⟨fun vs H Q E q => F.len vs H Q E (h _ _ _ _ q), fun A outer s H args us vs Q E hr he hb hv hs => F.run A outer s H args us vs Q E hr he hb hv (h _ _ _ _ hs)⟩

theorem Env0.make {P : Program} {w : World} {K : PySem.W.Frag} {mg : Str → Option Value} {base : Heap} {A : Around} {outer : List Env} {s : Shared} {H : Hp} (e : Env0 P w K mg base A outer s H) (C : Addr) (us : List Value) (kw : List (Str × Value)) :
    Env0 P w K mg base (A.under (.builtin "type.__call__" ⟨.ref C :: us, kw⟩)) outer s H := ⟨by first | exact e.frames | (simpa [Around.under, Code.envs, Code.isFrame, pushEnvs] using e.frames), e.mod, e.bs, e.bsz, e.funs, e.frf, e.hok, e.bare⟩
theorem Env0.in1 {P : Program} {w : World} {K : PySem.W.Frag} {mg : Str → Option Value} {base : Heap} {A : Around} {outer : List Env} {s : Shared} {H : Hp} (e : Env0 P w K mg base A outer s H) :
    Env0 P w K mg base A.in1 outer s H := ⟨e.frames, e.mod, e.bs, e.bsz, e.funs, e.frf, e.hok, e.bare⟩

section
variable {X : Cx} {pins : List (Addr × Obj)} {σ : St} {H : Hp} {s s' : Shared}
/-- from a body: what a callee wants -/
theorem Inv.env0 (I : Inv X pins σ H s) : Env0 X.prog X.w X.K X.mg X.base X.A X.stack s H :=
  ⟨I.ok.frames, I.ok.mod, I.bs, Nat.le_trans I.ok.bsz I.sz, I.stack, I.stkFree, I.hok, I.bare⟩
/-- behind a call -/
theorem Inv.after {Q : VK} {u : Value} (I : Inv X pins σ H s) (h : CE X.stack X.prog X.w H s Q u s') : EP X pins σ Q u s' := by
  obtain ⟨v, H', os, bare, un, hok, r, q⟩ := h
  obtain ⟨hh, g, d, t, os'⟩ := s'
  obtain rfl : os' = s.os := os
  exact ⟨v, H', I.call (h' := hh) (g' := g) (d' := d) (t' := t) (ch := []) un hok bare (fun b z => absurd z (by simp)), r, q⟩
end

/-! ### calls -/
/-- f(..): the written arguments, then the defaults dvs; E: what is wanted of an exception -/
def tCall (sp : Sp) (dvs : List V) (E : XK) (t : TA) : TE := fun σ H Q => t σ H fun vs H1 => sp (vs ++ dvs) H1 Q E
/-- o.m(..) of an instance of the class at C -/
def tMeth (C : Addr) (m : Str) (sp : Sp) (dvs : List V) (E : XK) (ta : TE) (t : TA) : TE := fun σ H Q => ta σ H fun x H1 => ∃ a dx fs, x = .ref a ∧ H1 a = some (.ins C dx fs) ∧ fs.lookup m = none ∧
  t σ H1 fun vs H2 => sp (x :: (vs ++ dvs)) H2 Q E
/-- C(..): a new instance and its dict, then __init__ -/
def tMake (C : Addr) (sp : Sp) (dvs : List V) (E : XK) (t : TA) : TE := fun σ H Q => t σ H fun vs H1 => ∀ x dx, H1 x = none → H1 dx = none → dx ≠ x →
  sp (.ref x :: (vs ++ dvs)) (upd (upd H1 dx (.own x)) x (.ins C dx [])) (fun v H2 => v = .non ∧ Q (.ref x) H2) E

/-- how the parameters are bound: us the positional arguments, kw the keywords' values by name, ds the defaults that fill up -/
def Binds (K : PySem.W.Frag) (fd : FuncData) (ps : List Str) (ds : List Value) : Prop :=
  ∀ (s : Shared) (us : List Value), K.In s.heap → (us ++ ds).length = ps.length → BindsTo s fd ⟨us, []⟩ (ps.zip (us ++ ds))
/-- every parameter is given -/
theorem Binds.all {K : PySem.W.Frag} {fd : FuncData} {ps : List Str} (h : ∀ us : List Value, us.length = ps.length → bindArgs fd ⟨us, []⟩ = pure (ps.zip us)) : Binds K fd ps [] := fun s us _ hl => by
  rw [List.append_nil] at hl ⊢
  exact .of_eq (h us hl)

/-- an exception of a callee reaches what this body wants of exceptions -/
def Passes (CX : CXT) (X : Cx) (E : XK) : Prop := ∀ (pins : List (Addr × Obj)) (σ : St) (H : Hp) (s : Shared) (e : Value) (s' : Shared), Inv X pins σ H s → CX X.stack H s E e s' → X.xe e s'

section
variable {X : Cx} {CX : CXT} {k : Nat} {f C : Addr} {fd : FuncData} {ps : List Str} {sp : Sp} {dvs : List V} {ds : List Value} {E : XK} {x m : Str} {p pos apos : Pos} {e o : Expr} {es : List Expr} {ta : TE} {t : TA}

/-- the callee runs -/
theorem run_fn {pins : List (Addr × Obj)} {σ : St} {H : Hp} {s : Shared} {Q : VK} {us : List Value} {vs : List V} (F : FnOk X.prog X.w X.K X.mg X.base CX k f fd ps sp) (hr : Room k X.A) (hb : Binds X.K fd ps ds) (hd : Vals dvs ds) (hx : Passes CX X E)
    (I : Inv X pins σ H s) (r : Vals vs us) (h : sp (vs ++ dvs) H Q E) : wpAny (model X.prog X.w) X.A (call (.ref f) us) (EP X pins σ Q) X.xe s := by
  have r2 : Vals (vs ++ dvs) (us ++ ds) := r.append hd
  have hl : (us ++ ds).length = ps.length := by rw [← r2.length]; exact F.len _ _ _ _ h
  refine wpAny_call (codeAny_mono (F.run X.A X.stack s H ⟨us, []⟩ (us ++ ds) (vs ++ dvs) Q E hr I.env0 (hb s us I.kIn hl) r2 h) fun r s' hq => ?_)
  cases r with
  | error e => exact hx pins σ H s e s' I hq
  | ok fl =>
    cases fl with
    | ret u => exact I.after hq
    | next => exact False.elim hq
    | brk => exact False.elim hq
    | cont => exact False.elim hq

theorem pe_call (F : FnOk X.prog X.w X.K X.mg X.base CX k f fd ps sp) (hr : Room k X.A) (hg : Gl X x) (hm : X.mg x = some (.ref f)) (hk : PySem.W.keepIn X.K (.ref f) = true) (hb : Binds X.K fd ps ds) (hd : Vals dvs ds) (hx : Passes CX X E)
    (ha : PA X (e :: es) t) (hdb : (x == ("__debug__" : Str)) = false := by decide) (he : starEach (e :: es) X.env = (false, eval e X.env) :: starEach es X.env := by rfl) (hpl : (backTo pos (starEach es X.env)).any (·.1) = false := by rfl) :
    PE X (.Call (.Name x p) (e :: es) [] pos) (tCall sp dvs E t) := by
  intro pins s σ H Q I h
  refine wpAny_Call_Name_kw (ld_glob I hg hm ?_ hdb)
  refine PySem.W.callWith_K (h₀ := X.base) I.ok.mod.kin hk (thn (ha pos pins s σ H _ I h) fun us s1 ⟨vs, H1, I1, r, q⟩ => ⟨I1.kIn, ?_⟩) he hpl
  exact run_fn F hr hb hd hx I1 r q
theorem pe_call0 (F : FnOk X.prog X.w X.K X.mg X.base CX k f fd ps sp) (hr : Room k X.A) (hg : Gl X x) (hm : X.mg x = some (.ref f)) (hk : PySem.W.keepIn X.K (.ref f) = true) (hb : Binds X.K fd ps ds) (hd : Vals dvs ds) (hx : Passes CX X E)
    (hdb : (x == ("__debug__" : Str)) = false := by decide) : PE X (.Call (.Name x p) [] [] pos) (tCall sp dvs E tNil) := by
  intro pins s σ H Q I h
  refine wpAny_Call_Name_kw (ld_glob I hg hm ?_ hdb)
  exact PySem.W.callWith_K0 I.kIn hk (run_fn (us := []) F hr hb hd hx I .nil h)

/-- o.m(e, ..) -/
theorem pe_meth {pl : Sem Bool} (he : PE X o ta) (c : Cls X.K C) (hm : Meth X.K C m f) (F : FnOk X.prog X.w X.K X.mg X.base CX k f fd ps sp) (hr : Room k X.A) (hb : Binds X.K fd ps ds) (hd : Vals dvs ds) (hx : Passes CX X E) (ha : PA X (e :: es) t)
    (hst : starEach (e :: es) X.env = (false, eval e X.env) :: starEach es X.env := by rfl) (hpl : (backTo pos (starEach es X.env)).any (·.1) = false := by rfl)
    (ht : eval (.Call (.Attribute o m apos) (e :: es) [] pos) X.env = (do
      let ov ← eval o X.env
      standAt apos.atName
      let (f, first) ← holding [ov] (getMethod ov m pl)
      callWith pos f first (backTo pos (starEach (e :: es) X.env)) (backToKw pos (keywordEach [] X.env))) := by rfl) :
    PE X (.Call (.Attribute o m apos) (e :: es) [] pos) (tMeth C m sp dvs E ta t) := by
  intro pins s σ H Q I h
  refine PySem.W.methodCall_KW (pl := pl) (thn (he pins s σ H _ I h) fun u s1 ⟨x, H1, I1, rx, a, dx, fs, ex, ea, l, q⟩ => ?_) ht
  subst ex
  obtain rfl : u = Value.ref a := rx
  refine getmeth_ok I1 ea c hm l ?_
  refine PySem.W.callWith_K (first := [.ref a]) (h₀ := X.base) I.ok.mod.kin hm.kp (thn (ha pos pins s1 σ H1 _ I1 q) fun us s2 ⟨vs, H2, I2, r, q2⟩ => ⟨I2.kIn, ?_⟩) hst hpl
  exact run_fn (us := .ref a :: us) (vs := .ref a :: vs) F hr hb hd hx I2 (.cons rfl r) q2
/-- o.m() -/
theorem pe_meth0 {pl : Sem Bool} (he : PE X o ta) (c : Cls X.K C) (hm : Meth X.K C m f) (F : FnOk X.prog X.w X.K X.mg X.base CX k f fd ps sp) (hr : Room k X.A) (hb : Binds X.K fd ps ds) (hd : Vals dvs ds) (hx : Passes CX X E)
    (ht : eval (.Call (.Attribute o m apos) [] [] pos) X.env = (do
      let ov ← eval o X.env
      standAt apos.atName
      let (f, first) ← holding [ov] (getMethod ov m pl)
      callWith pos f first (backTo pos (starEach [] X.env)) (backToKw pos (keywordEach [] X.env))) := by rfl) :
    PE X (.Call (.Attribute o m apos) [] [] pos) (tMeth C m sp dvs E ta tNil) := by
  intro pins s σ H Q I h
  refine PySem.W.methodCall_KW (pl := pl) (thn (he pins s σ H _ I h) fun u s1 ⟨x, H1, I1, rx, a, dx, fs, ex, ea, l, q⟩ => ?_) ht
  subst ex
  obtain rfl : u = Value.ref a := rx
  refine getmeth_ok I1 ea c hm l ?_
  exact PySem.W.callWith_K0 (first := [.ref a]) I1.kIn hm.kp (run_fn (us := [.ref a]) (vs := [.ref a]) F hr hb hd hx I1 (.cons rfl .nil) q)

/-- what a class must have to be made -/
structure Mk (K : PySem.W.Frag) (C f : Addr) : Prop where
  makes : PySem.W.makesIn K C = true
  init : PySem.W.findIn K (.ref C) "__init__" = some (some (.ref f))
  fn : PySem.W.isFn K (.ref f) = true
  kp : PySem.W.keepIn K (.ref C) = true

theorem run_make {pins : List (Addr × Obj)} {σ : St} {H : Hp} {s : Shared} {Q : VK} {us : List Value} {vs : List V} (M : Mk X.K C f) (F : FnOk X.prog X.w X.K X.mg X.base CX k f fd ps sp) (hr : Room (k + 1) X.A) (hb : Binds X.K fd ps ds) (hd : Vals dvs ds)
    (hx : Passes CX X E) (I : Inv X pins σ H s) (r : Vals vs us)
    (h : ∀ x dx, H x = none → H dx = none → dx ≠ x → sp (.ref x :: (vs ++ dvs)) (upd (upd H dx (.own x)) x (.ins C dx [])) (fun v H2 => v = .non ∧ Q (.ref x) H2) E) :
    wpAny (model X.prog X.w) X.A (call (.ref C) us) (EP X pins σ Q) X.xe s := by
  have hq := h (s.heap.objs.size + 1) s.heap.objs.size (I.hok.fresh (Nat.le_succ _)) (I.hok.fresh (Nat.le_refl _)) (Nat.ne_of_lt (Nat.lt_succ_self _))
  have I2 := Inv.made (C := C) I
  have r2 : Vals (V.ref (s.heap.objs.size + 1) :: (vs ++ dvs)) (Value.ref (s.heap.objs.size + 1) :: (us ++ ds)) := .cons rfl (r.append hd)
  have hl : (Value.ref (s.heap.objs.size + 1) :: us ++ ds).length = ps.length := by
    have e := r2.length
    rw [F.len _ _ _ _ hq] at e
    exact e.symm
  refine wpAny_call (make_map (f := f) I.kIn M.makes M.init (beq_iff_eq.mp M.fn) (codeAny_mono (F.run _ X.stack _ _ ⟨Value.ref (s.heap.objs.size + 1) :: us, []⟩ (Value.ref (s.heap.objs.size + 1) :: (us ++ ds)) _ _ E (hr.make C us [])
    (I2.env0.make C us []) (hb _ (Value.ref (s.heap.objs.size + 1) :: us) I2.kIn hl) r2 hq) fun r s' hq' => ?_))
  cases r with
  | error e => exact hx pins σ _ _ e s' I2 hq'
  | ok fl =>
    cases fl with
    | ret u =>
      obtain ⟨v, H', I3, rv, ev, q3⟩ := I2.after hq'
      subst ev
      exact ⟨rv, ⟨V.ref (s.heap.objs.size + 1), H', I3, rfl, q3⟩⟩
    | next => exact False.elim hq'
    | brk => exact False.elim hq'
    | cont => exact False.elim hq'
theorem pe_make (M : Mk X.K C f) (F : FnOk X.prog X.w X.K X.mg X.base CX k f fd ps sp) (hr : Room (k + 1) X.A) (hg : Gl X x) (hm : X.mg x = some (.ref C)) (hb : Binds X.K fd ps ds) (hd : Vals dvs ds) (hx : Passes CX X E)
    (ha : PA X (e :: es) t) (hdb : (x == ("__debug__" : Str)) = false := by decide) (he : starEach (e :: es) X.env = (false, eval e X.env) :: starEach es X.env := by rfl) (hpl : (backTo pos (starEach es X.env)).any (·.1) = false := by rfl) :
    PE X (.Call (.Name x p) (e :: es) [] pos) (tMake C sp dvs E t) := by
  intro pins s σ H Q I h
  refine wpAny_Call_Name_kw (ld_glob I hg hm ?_ hdb)
  refine PySem.W.callWith_K (h₀ := X.base) I.ok.mod.kin M.kp (thn (ha pos pins s σ H _ I h) fun us s1 ⟨vs, H1, I1, r, q⟩ => ⟨I1.kIn, ?_⟩) he hpl
  exact run_make M F hr hb hd hx I1 r q
theorem pe_make0 (M : Mk X.K C f) (F : FnOk X.prog X.w X.K X.mg X.base CX k f fd ps sp) (hr : Room (k + 1) X.A) (hg : Gl X x) (hm : X.mg x = some (.ref C)) (hb : Binds X.K fd ps ds) (hd : Vals dvs ds) (hx : Passes CX X E)
    (hdb : (x == ("__debug__" : Str)) = false := by decide) : PE X (.Call (.Name x p) [] [] pos) (tMake C sp dvs E tNil) := by
  intro pins s σ H Q I h
  refine wpAny_Call_Name_kw (ld_glob I hg hm ?_ hdb)
  exact PySem.W.callWith_K0 I.kIn M.kp (run_make (us := []) M F hr hb hd hx I .nil h)
end

/-! ### keywords -/
/-- the values of the keywords, from the left -/
def PK (X : Cx) (kws : List Keyword) (t : TA) : Prop :=
  ∀ (pos : Pos) (pins : List (Addr × Obj)) (s : Shared) (σ : St) (H : Hp) (Q : List V → Hp → Prop), Inv X pins σ H s → t σ H Q → wpAny (model X.prog X.w) X.A (evalAll ((backToKw pos (keywordEach kws X.env)).map (·.2))) (AP X pins σ Q) X.xe s
section
variable {X : Cx} {CX : CXT} {k : Nat} {f C : Addr} {fd : FuncData} {ps ks : List Str} {sp : Sp} {E : XK} {x m : Str} {p pos apos kpos : Pos} {e o : Expr} {es : List Expr} {kws : List Keyword} {te ta : TE} {t tk : TA} {nm : Option Str}
theorem pk_nil : PK X [] tNil := fun _ _ _ _ H Q I h => wpAny_evalAll_nil ⟨[], H, I, .nil, h⟩
theorem pk_cons (ha : PE X e te) (hr : PK X kws t) : PK X (⟨nm, e, kpos⟩ :: kws) (tCons te t) := by
  intro pos pins s σ H Q I h
  show wpAny _ _ (evalAll ((do let v ← eval e X.env; standAt pos; pure v) :: (backToKw pos (keywordEach kws X.env)).map (·.2))) _ _ s
  refine wpAny_evalAll_cons (wpAny_bind (thn (ha pins s σ H _ I h) fun u s1 ⟨x, H1, I1, r1, q1⟩ => wpAny_bind (wpAny_standAt (wpAny_pure ?_))))
  exact thn (hr pos pins s1 σ H1 _ I1 q1) fun us s2 ⟨xs, H2, I2, r2, q2⟩ => ⟨x :: xs, H2, I2, .cons r1 r2, q2⟩

/-- how a call with keywords binds: g puts the positional values us and the keywords' values ws (names ks) in the parameters' order, defaults among them -/
structure KBinds (K : PySem.W.Frag) (fd : FuncData) (ps ks : List Str) (g : List Value → List Value → List Value) (gV : List V → List V → List V) : Prop where
  to : ∀ (s : Shared) (us ws : List Value), K.In s.heap → (g us ws).length = ps.length → BindsTo s fd ⟨us, ks.zip ws⟩ (ps.zip (g us ws))
  rel : ∀ {vs : List V} {us : List Value} {zs : List V} {ws : List Value}, Vals vs us → Vals zs ws → Vals (gV vs zs) (g us ws)
def tCallK (sp : Sp) (gV : List V → List V → List V) (E : XK) (t tk : TA) : TE := fun σ H Q => t σ H fun vs H1 => tk σ H1 fun zs H2 => sp (gV vs zs) H2 Q E
variable {g : List Value → List Value → List Value} {gV : List V → List V → List V}
theorem run_fnk {pins : List (Addr × Obj)} {σ : St} {H : Hp} {s : Shared} {Q : VK} {us ws : List Value} {vs zs : List V} (F : FnOk X.prog X.w X.K X.mg X.base CX k f fd ps sp) (hr : Room k X.A) (hb : KBinds X.K fd ps ks g gV) (hx : Passes CX X E)
    (I : Inv X pins σ H s) (r : Vals vs us) (rz : Vals zs ws) (h : sp (gV vs zs) H Q E) : wpAny (model X.prog X.w) X.A (call (.ref f) us (ks.zip ws)) (EP X pins σ Q) X.xe s := by
  have r2 := hb.rel r rz
  have hl : (g us ws).length = ps.length := by rw [← r2.length]; exact F.len _ _ _ _ h
  refine wpAny_call (codeAny_mono (F.run X.A X.stack s H ⟨us, ks.zip ws⟩ (g us ws) (gV vs zs) Q E hr I.env0 (hb.to s us ws I.kIn hl) r2 h) fun r s' hq => ?_)
  cases r with
  | error e => exact hx pins σ H s e s' I hq
  | ok fl =>
    cases fl with
    | ret u => exact I.after hq
    | next => exact False.elim hq
    | brk => exact False.elim hq
    | cont => exact False.elim hq
/-- f(e, .., k = v, ..) -/
theorem pe_callK (F : FnOk X.prog X.w X.K X.mg X.base CX k f fd ps sp) (hr : Room k X.A) (hg : Gl X x) (hm : X.mg x = some (.ref f)) (hk : PySem.W.keepIn X.K (.ref f) = true) (hb : KBinds X.K fd ps ks g gV) (hx : Passes CX X E)
    (ha : PA X (e :: es) t) (hkw : PK X kws tk) (hall : (backToKw pos (keywordEach kws X.env)).all (·.1.isSome) = true := by rfl) (hks : (backToKw pos (keywordEach kws X.env)).filterMap (·.1) = ks := by rfl)
    (hdb : (x == ("__debug__" : Str)) = false := by decide) (he : starEach (e :: es) X.env = (false, eval e X.env) :: starEach es X.env := by rfl)
    (hpl : ((backTo pos (starEach (e :: es) X.env)).any (·.1) || (backToKw pos (keywordEach kws X.env)).any (·.1.isNone)) = false := by rfl) :
    PE X (.Call (.Name x p) (e :: es) kws pos) (tCallK sp gV E t tk) := by
  intro pins s σ H Q I h
  refine wpAny_Call_Name_kw (ld_glob I hg hm ?_ hdb)
  refine PySem.W.callWith_KW (h₀ := X.base) I.ok.mod.kin hk hall (thn (ha pos pins s σ H _ I h) fun us s1 ⟨vs, H1, I1, r, q⟩ => ?_) hpl he
  refine thn (hkw pos pins s1 σ H1 _ I1 q) fun ws s2 ⟨zs, H2, I2, rz, q2⟩ => ⟨I2.kIn, ?_⟩
  rw [hks]
  exact run_fnk F hr hb hx I2 r rz q2
end

/-! ### a def's body keeps its promise -/
/-- names: the parameters first -/
structure FnScope (N P : List Str) (sc : Scope) : Prop where
  kind : sc.kind = .function
  co : sc.isCoroutine = false
  gen : sc.isGenerator = false
  nd : N.Nodup
  pre : N.take P.length = P
  par : ∀ x ∈ P, sc.names.lookup x = some .local ∨ sc.names.lookup x = some .cell
  nofree : ∀ y ∈ sc.names, y.2 ≠ .free

theorem bindL_out {kindOf : Str → Option NameKind} {x : Str} : ∀ {binds : List (Str × Value)} {m : Str → Option Value}, (∀ v, (x, v) ∉ binds) → bindL kindOf binds m x = m x
  | [], _, _ => rfl
  | (n, v) :: r, m, h => by
    unfold bindL
    rw [bindL_out fun w hw => h w (List.mem_cons_of_mem _ hw)]
    split
    · have : x ≠ n := by rintro rfl; exact h v List.mem_cons_self
      simp [this]
    · rfl
theorem bindC_out {kindOf : Str → Option NameKind} {x : Str} : ∀ {binds : List (Str × Value)} {m : Str → Option Value}, (∀ v, (x, v) ∉ binds) → bindC kindOf binds m x = m x
  | [], _, _ => rfl
  | (n, v) :: r, m, h => by
    unfold bindC
    rw [bindC_out fun w hw => h w (List.mem_cons_of_mem _ hw)]
    split
    · rfl
    · have : x ≠ n := by rintro rfl; exact h v List.mem_cons_self
      simp [this]
theorem bindL_get {kindOf : Str → Option NameKind} {x : Str} {v : Value} : ∀ {P : List Str} {vs : List Value} {i : Nat} {m : Str → Option Value}, P.Nodup → P[i]? = some x → vs[i]? = some v → kindOf x = some .local →
    bindL kindOf (P.zip vs) m x = some v
  | [], _, _, _, _, h, _, _ => by simp at h
  | _ :: _, [], _, _, _, _, h, _ => by simp at h
  | p :: P, w :: vs, 0, m, nd, h1, h2, hk => by
    simp at h1 h2; subst h1; subst h2
    show bindL kindOf ((p, w) :: P.zip vs) m p = _
    unfold bindL
    rw [bindL_out fun v hv => (List.nodup_cons.mp nd).1 (List.of_mem_zip hv).1, if_pos hk]
    simp
  | p :: P, w :: vs, i + 1, m, nd, h1, h2, hk => by
    show bindL kindOf ((p, w) :: P.zip vs) m x = _
    unfold bindL
    exact bindL_get (i := i) (List.nodup_cons.mp nd).2 (by simpa using h1) (by simpa using h2) hk
theorem bindC_get {kindOf : Str → Option NameKind} {x : Str} {v : Value} : ∀ {P : List Str} {vs : List Value} {i : Nat} {m : Str → Option Value}, P.Nodup → P[i]? = some x → vs[i]? = some v → kindOf x ≠ some .local →
    bindC kindOf (P.zip vs) m x = some v
  | [], _, _, _, _, h, _, _ => by simp at h
  | _ :: _, [], _, _, _, _, h, _ => by simp at h
  | p :: P, w :: vs, 0, m, nd, h1, h2, hk => by
    simp at h1 h2; subst h1; subst h2
    show bindC kindOf ((p, w) :: P.zip vs) m p = _
    unfold bindC
    rw [bindC_out fun v hv => (List.nodup_cons.mp nd).1 (List.of_mem_zip hv).1, if_neg hk]
    simp
  | p :: P, w :: vs, i + 1, m, nd, h1, h2, hk => by
    show bindC kindOf ((p, w) :: P.zip vs) m x = _
    unfold bindC
    exact bindC_get (i := i) (List.nodup_cons.mp nd).2 (by simpa using h1) (by simpa using h2) hk

/-- the names' values at the entry -/
def start (N : List Str) (vs : List V) : St := vs.map some ++ List.replicate (N.length - vs.length) none

/-- the context of a def's body, at its entry; an exception leaves the frame, then lies as CX says -/
def cxOf (CX : CXT) (P : Program) (w : World) (K : PySem.W.Frag) (mg : Str → Option Value) (base : Heap) (N : List Str) (qual : Str) (scope : Scope) (f : Addr) (cd : Value) (A : Around) (outer : List Env) (s : Shared) (H : Hp) (E : XK) : Cx where
  prog := P
  w := w
  K := K
  mg := mg
  base := base
  A := A.deeper (envOfC qual scope s.heap.objs.size f cd)
  N := N
  s₀ := s
  H₀ := H
  env := envOfC qual scope s.heap.objs.size f cd
  outer := outer
  stack := envOfC qual scope s.heap.objs.size f cd :: outer
  ex := []
  calm := true
  fn := fun _ => true
  pn := []
  xe := fun e s' => wpAny (model P w) (A.deeper (envOfC qual scope s.heap.objs.size f cd)) (leaving (envOfC qual scope s.heap.objs.size f cd) e) (fun _ s'' => CX outer H s E e s'') (fun e' s'' => CX outer H s E e' s'') s'

theorem cell_has {sc : Scope} {n : Nat} {x : Str} (h : sc.names.lookup x = some .cell) : ∃ c, (cellsFrom n sc.names []).lookup x = some c := by
  have q := PySem.W.cellsFrom_some sc.names n [] (.inl h)
  exact Option.isSome_iff_exists.mp q

theorem inv_start {CX : CXT} {P : Program} {w : World} {K : PySem.W.Frag} {mg : Str → Option Value} {base : Heap} {N ps : List Str} {qual : Str} {scope : Scope} {f : Addr} {cd : Value} {A : Around} {outer : List Env} {s s1 : Shared} {H : Hp} {E : XK} {us : List Value} {vs : List V}
    (S : FnScope N ps scope) (hd : A.handled = none) (e0 : Env0 P w K mg base A outer s H) (hl : vs.length = ps.length) (r : Vals vs us)
    (x : InCallC s s.heap.objs.size (bindL (envOfC qual scope s.heap.objs.size f cd).kindOf (ps.zip us) fun _ => none) (cellsFrom (s.heap.objs.size + 1) scope.names []) (bindC (envOfC qual scope s.heap.objs.size f cd).kindOf (ps.zip us) fun _ => none) s1) :
    Inv (cxOf CX P w K mg base N qual scope f cd A outer s H E) [] (start N vs) H s1 := by
  have hpl : ps.length ≤ N.length := by have := congrArg List.length S.pre; rw [List.length_take] at this; omega
  obtain ⟨h1, tk, rfl, hk⟩ := x.done
  have noA : ∀ b : Addr, b ∉ (cxOf CX P w K mg base N qual scope f cd A outer s H E).ex := fun b z => absurd (show b ∈ ([] : List Addr) from z) (by simp)
  refine ⟨⟨e0.mod, S.kind, rfl, rfl, Nat.le_refl _, fun y z c h1 h2 => ?_, fun y hy => ?_, fun y c _ h => ?_, fun _ => hd, Around.frames_deeper e0.frames, .inr ⟨rfl, rfl⟩, fun b z => absurd z (noA b), e0.bs, e0.bsz, fun b _ _ => noA b, fun b z => absurd z (noA b), e0.funs, e0.frf⟩,
    rfl, e0.bare, Un.kept hk, ⟨_, x.toInCall.ns, fun i y v h1 h2 h3 => ?_⟩, fun y c h => ⟨_, x.cell y c h⟩, e0.hok.fresh (Nat.le_refl _), fun y c h => ?_, fun p hp => absurd (show p ∈ ([] : List (Addr × Obj)) from hp) (by simp), e0.hok.kept hk, ?_⟩
  · exact name_of_addr x.apart (PySem.mem_of_lookup h1) (PySem.mem_of_lookup h2)
  · have hy : scope.names.lookup y = some .cell ∨ scope.names.lookup y = some .free := hy
    rcases hy with hy | hy
    · exact cell_has hy
    · exact absurd rfl (S.nofree _ (PySem.mem_of_lookup hy))
  · exact Nat.le_of_lt (x.above y c (PySem.mem_of_lookup h))
  · have hi : i < vs.length := by
      unfold start at h2
      by_cases hi : i < vs.length
      · exact hi
      · rw [List.getElem?_append_right (by simpa using hi)] at h2
        rw [List.getElem?_replicate] at h2
        split at h2 <;> cases h2
    have ha : vs[i]? = some v := by
      unfold start at h2
      rw [List.getElem?_append_left (by simpa using hi), List.getElem?_map] at h2
      cases e : vs[i]? with
      | none => rw [e] at h2; cases h2
      | some a => rw [e] at h2; cases h2; rfl
    obtain ⟨u, hu, rv⟩ := r.get ha
    have hp : ps[i]? = some y := by
      rw [← S.pre, List.getElem?_take_of_lt (by omega)]; exact h1
    have ndP : ps.Nodup := by rw [← S.pre]; exact S.nd.sublist (List.take_sublist _ _)
    refine ⟨u, rv, ?_⟩
    rcases S.par y (List.mem_of_getElem? hp) with k | k
    · exact .inl ⟨k, bindL_get ndP hp hu k⟩
    · obtain ⟨c, e⟩ := cell_has (n := s.heap.objs.size + 1) k
      refine .inr ⟨.inl k, c, e, ?_⟩
      have q := x.cell y c e
      rw [bindC_get ndP hp hu (by show scope.names.lookup y ≠ _; rw [k]; decide)] at q
      exact q
  · exact e0.hok.fresh (Nat.le_of_lt (x.above y c (PySem.mem_of_lookup h)))
  · unfold start
    show _ = N.length
    rw [List.length_append, List.length_map, List.length_replicate]
    omega

/-- THE RULE: a def (or a method) of the text, by its body. The body's reading t is chosen for each entry; it is run at the parameters' values -/
theorem fn_of {CX : CXT} {P : Program} {w : World} {K : PySem.W.Frag} {mg : Str → Option Value} {base : Heap} {k : Nat} {f : Addr} {name qual : Str} {params : Arguments} {body : List Stmt} {scope : Scope} {dV kV doc pm cdv ct oc : Value} {an od : Option Addr}
    {osl : Array (Option Value)} {N ps : List Str} {sp : Sp} (lk : K.lookup f = some ⟨oc, od, .func (PySem.W.fnOf name qual params body scope dV kV doc pm an cdv ct), osl⟩) (hcd : PySem.W.codeIn K cdv qual = true) (S : FnScope N ps scope)
    (len : ∀ vs H Q E, sp vs H Q E → vs.length = ps.length)
    (hbody : ∀ (A : Around) (outer : List Env) (s : Shared) (H : Hp) (vs : List V) (Q : VK) (E : XK), Room k (A.deeper (envOfC qual scope s.heap.objs.size f cdv)) → sp vs H Q E →
      ∃ t, PSs (cxOf CX P w K mg base N qual scope f cdv A outer s H E) body t ∧ t { nx := fun _ H' => Q .non H', rt := Q } (start N vs) H) :
    FnOk P w K mg base CX (k + 1) f (PySem.W.fnOf name qual params body scope dV kV doc pm an cdv ct) ps sp := by
  refine ⟨len, fun A outer s H args us vs Q E hr e0 hb r hsp => ?_⟩
  have hl := len _ _ _ _ hsp
  have KX : K.In s.heap := e0.mod.kin.keeps fun b o e => (e0.bs b o e).1
  have lim : s.heap.NoLimit := e0.mod.nolimit.keeps fun b o e => (e0.bs b o e).1
  have hkind : ∀ y ∈ ps.zip us, scope.names.lookup y.1 = some .local ∨ (scope.names.lookup y.1 = some .cell ∧ ((cellsFrom (s.heap.objs.size + 1) scope.names []).lookup y.1).isSome = true) := fun ⟨n, v⟩ hy => by
    rcases S.par n (List.of_mem_zip hy).1 with q | q
    · exact .inl q
    · exact .inr ⟨q, PySem.W.cellsFrom_some _ _ _ (.inl q)⟩
  refine codeAny_call_function hr.depth (KX _ _ lk) rfl S.co S.gen rfl (PySem.W.codeRec_of KX hcd) (hb _ _ _ _ ?_)
  refine wpAny_newFunctionEnv_cells S.kind hkind fun env he s1 x => ?_
  subst he
  refine ⟨lim.keeps x.toInCall.keep, codeAny_func ?_⟩
  obtain ⟨t, ht, hq⟩ := hbody A outer s H vs Q E (hr.deeper _) hsp
  have I : Inv (cxOf CX P w K mg base N qual scope f cdv A outer s H E) [] (start N vs) H s1 := inv_start S hr.hd e0 hl r x
  refine wpAny_mono (ht [] s1 (start N vs) H _ I hq) (fun fl s' hs => ?_) fun e s' hs => hs
  have fin : ∀ {σ' : St} {H' : Hp} {v : V} {u : Value}, Inv (cxOf CX P w K mg base N qual scope f cdv A outer s H E) [] σ' H' s' → RelV v u → Q v H' → CE outer P w H s Q u s' :=
    fun {σ' H' v u} J rv q => ⟨v, H', J.os, J.bare, J.base, J.hok, rv, q⟩
  cases fl with
  | ret u =>
    obtain ⟨v, σ', H', J, rv, q⟩ := hs
    exact fin J rv q
  | next =>
    obtain ⟨σ', H', J, q⟩ := hs
    exact fin (v := V.non) (u := Value.none) J rfl q
  | brk =>
    obtain ⟨_, _, _, q⟩ := hs
    exact False.elim q
  | cont =>
    obtain ⟨_, _, _, q⟩ := hs
    exact False.elim q
end L2

namespace L2
open PySem PySem.Spec PyProof.Rows
section
variable {X : Cx} {x : Str} {p pos : Pos} {e : Expr} {es : List Expr} {t : TA} {id T : String} {r : List V → Hp → VK → Prop}

def tCB (r : List V → Hp → VK → Prop) (t : TA) : TE := fun σ H Q => t σ H fun vs H1 => r vs H1 Q
/-- f(e, ..), f a built-in function -/
theorem pe_callB (hc : CallR X (.builtin id) r) (hg : Gl X x) (hm : X.mg x = none) (hv : bootBuiltins x = some (.builtin id)) (ha : PA X (e :: es) t) (hn : x ≠ "__name__" := by decide) (hdb : (x == ("__debug__" : Str)) = false := by decide)
    (he : starEach (e :: es) X.env = (false, eval e X.env) :: starEach es X.env := by rfl) (hpl : (backTo pos (starEach es X.env)).any (·.1) = false := by rfl) : PE X (.Call (.Name x p) (e :: es) [] pos) (tCB r t) := by
  intro pins s σ H Q I h
  refine wpAny_Call_Name_kw (ld_blt I hg hm hv ?_ hn hdb)
  exact PyProof.Rows.callWith_builtin1 (thn (ha pos pins s σ H _ I h) fun us s1 ⟨vs, H1, I1, r1, q1⟩ => hc pins s1 σ H1 vs us Q I1 r1 q1) he hpl
/-- T(e, ..), T a built-in type -/
theorem pe_callTy (hc : CallR X (.type T) r) (hg : Gl X x) (hm : X.mg x = none) (hv : bootBuiltins x = some (.type T)) (ha : PA X (e :: es) t) (hn : x ≠ "__name__" := by decide) (hdb : (x == ("__debug__" : Str)) = false := by decide)
    (he : starEach (e :: es) X.env = (false, eval e X.env) :: starEach es X.env := by rfl) (hpl : (backTo pos (starEach es X.env)).any (·.1) = false := by rfl) : PE X (.Call (.Name x p) (e :: es) [] pos) (tCB r t) := by
  intro pins s σ H Q I h
  refine wpAny_Call_Name_kw (ld_blt I hg hm hv ?_ hn hdb)
  exact PyProof.Rows.callWith_type1 (thn (ha pos pins s σ H _ I h) fun us s1 ⟨vs, H1, I1, r1, q1⟩ => hc pins s1 σ H1 vs us Q I1 r1 q1) he hpl
/-- T() -/
theorem pe_callTy0 (hc : CallR X (.type T) r) (hg : Gl X x) (hm : X.mg x = none) (hv : bootBuiltins x = some (.type T)) (hn : x ≠ "__name__" := by decide) (hdb : (x == ("__debug__" : Str)) = false := by decide) :
    PE X (.Call (.Name x p) [] [] pos) (tCB r tNil) := by
  intro pins s σ H Q I h
  refine wpAny_Call_Name_kw (ld_blt I hg hm hv ?_ hn hdb)
  exact PyProof.Rows.callWith_type0 (hc pins s σ H [] [] Q I .nil h)
end
end L2

namespace HT
open PySem PyProof.Rows

/-- t < u of tuples of ints -/
def lexLt : List Int → List Int → Bool
  | [], [] => false
  | [], _ :: _ => true
  | _ :: _, [] => false
  | x :: xs, y :: ys => if x = y then lexLt xs ys else decide (x < y)
theorem lexLt_cons (x y : Int) (xs ys : List Int) : lexLt (x :: xs) (y :: ys) = if x = y then lexLt xs ys else decide (x < y) := rfl
theorem lexLt_nil_nil : lexLt [] [] = false := rfl
theorem lexLt_nil_cons (y : Int) (ys : List Int) : lexLt [] (y :: ys) = true := rfl
theorem lexLt_cons_nil (x : Int) (xs : List Int) : lexLt (x :: xs) [] = false := rfl

theorem eqAt_int (A : Around) (s : Shared) (a : Int) (t : Tok) (c : Int) (u : Tok) : ∃ e, SeqAt.EqAt A s (.int a t) (.int c u) e ∧ (e = true ↔ a = c) :=
  ⟨(a == c), SeqAt.EqAt.int_int a t c u, by simp⟩
theorem rcLt_int (A : Around) (s : Shared) (a : Int) (t : Tok) (c : Int) (u : Tok) (prog : Program) (w : World) (E : Value → Shared → Prop) (Q : Value → Shared → Prop) (h : Q (.bool (decide (a < c))) s) :
    wpAny (model prog w) A (richCompare .Lt (.int a t) (.int c u)) Q E s :=
  (PyProof.Rows.lt_int h : wpAny (model prog w) A (compareOp .Lt (.int a t) (.int c u)) Q E s)

section
open PySem.SeqAt
open PySem.AutoSeq1 (wpAny_loadPart')
open PySem.MeetsSeq PySem.MeetsSeq2 PySem.MeetsSeq3

theorem tuple_lt_ints (l b : Addr) (items items2 : Array Value) (n n2 : Nat) (dd dd2 : Option Addr) (sl sl2 : Array (Option Value)) (ns ms : List Int) (hi : IntsAre items.toList ns) (hj : IntsAre items2.toList ms) :
    Meets (Builtin.«tuple.__lt__» ⟨[.ref l, .ref b], []⟩)
      (fun _ R s => s.heap.get? l = some { cls := .type "tuple", dict := dd, data := .seq items n, slots := sl } ∧ s.heap.get? b = some { cls := .type "tuple", dict := dd2, data := .seq items2 n2, slots := sl2 } ∧
        R (.ok (.ret (.bool (lexLt ns ms)))) s) :=
  .of_wp fun prog w A R s h => by
    obtain ⟨hp, g, d, tk, os⟩ := s; obtain ⟨hl, hb, h⟩ := h
    have f2 := AutoSeq1.sub_tuple_tuple
    have z1 : items.size = ns.length := by rw [← hi.length]; simp
    have z2 : items2.size = ms.length := by rw [← hj.length]; simp
    wp_walk using wpAny_loadPart' hl, wpAny_loadPart' hb, wpAny_forIn_list _ (fun rest b s' => b.1 = none ∧ s' = ⟨hp, g, d, tk, os⟩ ∧ ∃ (vs ws : List Value) (ns' ms' : List Int), rest = vs.zip ws ∧
      IntsAre vs ns' ∧ IntsAre ws ms' ∧ ns'.length + items2.size = ms'.length + items.size ∧ R (.ok (.ret (.bool (lexLt ns' ms')))) ⟨hp, g, d, tk, os⟩) _
    case turn =>
      rintro ⟨y, x⟩ rest b s' ⟨hb', rfl, vs, ws, ns', ms', hz, hvi, hwi, hlen, hR⟩
      cases hvi with
      | nil => rw [List.zip_nil_left] at hz; cases hz
      | cons a t hvi' =>
        cases hwi with
        | nil => rw [List.zip_nil_right] at hz; cases hz
        | cons c u hwi' =>
          rw [List.zip_cons_cons] at hz
          injection hz with hyx hrest
          injection hyx with hy hx
          subst hy hx
          rw [lexLt_cons] at hR
          simp only [List.length_cons] at hlen
          obtain ⟨e, he, hiff⟩ := eqAt_int A.in1 ⟨hp, g, d, tk, os⟩ a t c u
          refine wpAny_bind (he prog w _ _ ?_)
          cases e with
          | true =>
            rw [if_pos (hiff.mp rfl)] at hR
            wp_walk
            exact ⟨rfl, rfl, _, _, _, _, hrest, hvi', hwi', by omega, hR⟩
          | false =>
            rw [if_neg (fun q => absurd (hiff.mpr q) Bool.false_ne_true)] at hR
            have hri := rcLt_int A.in1 ⟨hp, g, d, tk, os⟩ a t c u prog w
            wp_walk using hri
            exact ⟨_, rfl, by simpa using hR⟩
    case fin =>
      rintro ⟨b1, b2⟩ s' ⟨hb', rfl, vs, ws, ns', ms', hz, hvi, hwi, hlen, hR⟩
      simp only at hb'
      subst hb'
      have hv : lexLt ns' ms' = decide (items.size < items2.size) := by
        cases hvi with
        | nil =>
          cases hwi with
          | nil =>
            simp only [List.length_nil] at hlen
            rw [lexLt_nil_nil]
            exact (decide_eq_false (by omega)).symm
          | cons c u hw =>
            simp only [List.length_nil, List.length_cons] at hlen
            rw [lexLt_nil_cons]
            exact (decide_eq_true (by omega)).symm
        | cons a t hv =>
          cases hwi with
          | nil =>
            simp only [List.length_nil, List.length_cons] at hlen
            rw [lexLt_cons_nil]
            exact (decide_eq_false (by omega)).symm
          | cons c u hw =>
            rw [List.zip_cons_cons] at hz
            cases hz
      rw [hv] at hR
      wp_walk
      exact ⟨_, rfl, by simpa [Builtin.Tuple.tupleCompareSizes] using hR⟩
    case h =>
      exact ⟨rfl, rfl, items.toList, items2.toList, ns, ms, rfl, hi, hj, by omega, h⟩
end

section
variable {prog : Program} {w : World} {A : Around} {E : Value → Shared → Prop} {s : Shared}

theorem lt_tupInts {l b : Addr} {items items2 : Array Value} {ns ms : List Int} {Q : Value → Shared → Prop} (hl : IsTup s.heap l items) (hb : IsTup s.heap b items2) (hi : IntsAre items.toList ns) (hj : IntsAre items2.toList ms)
    (hu : A.units < cLine) (h : Q (.bool (lexLt ns ms)) s) : wpAny (model prog w) A (compareOp .Lt (.ref l) (.ref b)) Q E s := by
  obtain ⟨⟨cls, dd, data, sl⟩, ho, hc, n, hd⟩ := id hl
  obtain ⟨⟨cls2, dd2, data2, sl2⟩, ho2, hc2, n2, hd2⟩ := id hb
  simp only at hc hd hc2 hd2
  subst hc hd hc2 hd2
  exact richCompare_meets_room (op := .Lt) ⟨_, ho, rfl⟩ ⟨_, ho2, rfl⟩ PySem.F.slot_tuple_lt PySem.F.entry_tuple_lt (PySem.F.args_tuple_lt_2 _ _) (tuple_lt_ints l b items items2 n n2 dd dd2 sl sl2 ns ms hi hj)
    ⟨ho, ho2, show Value.bool (lexLt ns ms) ≠ Value.notImplemented ∧ Q (.bool (lexLt ns ms)) s from ⟨(fun x => nomatch x), h⟩⟩ hu

/-- t + u, t not empty -/
theorem cat_tup {t b : Addr} {vs ws : List Value} {Q : Value → Shared → Prop} (ht : IsTup s.heap t vs.toArray) (hb : IsTup s.heap b ws.toArray) (hv : vs ≠ [])
    (h1 : ws = [] → Q (.ref t) s) (h2 : ws ≠ [] → Q (.ref s.heap.objs.size) { s with heap := s.heap.push { cls := .type "tuple", data := .seq (vs ++ ws).toArray } })
    (hsz : vs.length + ws.length ≤ sizeLine) : wpAny (model prog w) A (binaryOp .Add (.ref t) (.ref b)) Q E s := by
  obtain ⟨⟨cls, dd, data, sl⟩, ho, hc, n, hd⟩ := id ht
  obtain ⟨⟨cls2, dd2, data2, sl2⟩, ho2, hc2, n2, hd2⟩ := id hb
  simp only at hc hd hc2 hd2
  subst hc hd hc2 hd2
  have e : vs.toArray ++ ws.toArray = (vs ++ ws).toArray := by simp
  by_cases hw : ws = []
  · exact concat_meets ⟨_, ho, rfl⟩ ⟨_, ho2, rfl⟩ noFill_tuple_add seq_tuple_add PySem.F.slot_tuple_add PySem.F.entry_tuple_add (PySem.F.args_tuple_add_2 _ _)
      (tuple_addW1 t b vs.toArray ws.toArray n n2 dd dd2 sl sl2 (by simpa using hv) (by simp [hw])) ⟨ho, ho2, h1 hw⟩
  · refine concat_meets ⟨_, ho, rfl⟩ ⟨_, ho2, rfl⟩ noFill_tuple_add seq_tuple_add PySem.F.slot_tuple_add PySem.F.entry_tuple_add (PySem.F.args_tuple_add_2 _ _)
      (tuple_addW2 t b vs.toArray ws.toArray n n2 dd dd2 sl sl2 (by simpa using hv) (by simpa using hw) (by rw [List.size_toArray, List.size_toArray]; exact hsz)) ⟨ho, ho2, ?_⟩
    rw [e]
    exact h2 hw

/-! ### t[a:b], not the whole -/
/-- a slice's bound as a place among n (d where it is left out) -/
def sIx (n d : Nat) : Option Int → Nat
  | none => d
  | some v => if v < 0 then (v + (n : Int)).toNat else min v.toNat n
theorem sIx_none (n d : Nat) : sIx n d none = d := rfl
theorem sIx_nat (n d k : Nat) : sIx n d (some (k : Int)) = min k n := by
  show (if (k : Int) < 0 then ((k : Int) + (n : Int)).toNat else min (k : Int).toNat n) = min k n
  rw [if_neg (by omega), Int.toNat_natCast]
theorem sIx_le (n d : Nat) (hd : d ≤ n) (o : Option Int) : sIx n d o ≤ n := by
  cases o with
  | none => exact hd
  | some v =>
    show (if v < 0 then (v + (n : Int)).toNat else min v.toNat n) ≤ n
    by_cases hv : v < 0
    · rw [if_pos hv]; omega
    · rw [if_neg hv]; exact Nat.min_le_right _ _
theorem clip_eq (v : Int) (n d : Nat) : (if v < 0 then max (v + (n : Int)) 0 else min v (n : Int)) = ((sIx n d (some v) : Nat) : Int) := by
  show (if v < 0 then max (v + (n : Int)) 0 else min v (n : Int)) = (((if v < 0 then (v + (n : Int)).toNat else min v.toNat n) : Nat) : Int)
  by_cases hv : v < 0
  · simp only [if_pos hv]; omega
  · simp only [if_neg hv]; omega
theorem adjust_gen (lo hi : Option Int) (n : Nat) : Builtin.Slice.sliceAdjust lo hi 1 (n : Int) = (((sIx n 0 lo : Nat) : Int), ((sIx n n hi : Nat) : Int)) := by
  have h1 : ¬ ((1 : Int) < 0) := by omega
  unfold Builtin.Slice.sliceAdjust
  simp only [h1, if_false]
  refine Prod.ext ?_ ?_
  · cases lo with
    | none => rfl
    | some v => exact clip_eq v n 0
  · cases hi with
    | none => rfl
    | some v => exact clip_eq v n n
theorem places_gen (i j : Nat) : Builtin.Slice.slicePlaces (i : Int) (j : Int) 1 = j - i := by
  unfold Builtin.Slice.slicePlaces
  have h1 : (1 : Int) > 0 := by omega
  simp only [h1, if_true, Int.ediv_one]
  split <;> omega
theorem slicePart_ {v : Value} {o : Option Int} {Q : Option Int → Shared → Prop} (p : IsPart v o) (h : Q o s) : wpAny (model prog w) A (Builtin.Slice.slicePartIndex v) Q E s := by
  cases p with
  | none => exact slicePart_none h
  | int i t => exact slicePart_int h
theorem sliceApplied_gen {sl : Addr} {vl vu : Value} {lo hi : Option Int} {n : Nat} {Q : Int × Int × Nat → Shared → Prop} (hs : s.heap.IsSliceOf sl vl vu .none) (pl : IsPart vl lo) (pu : IsPart vu hi)
    (h : Q (((sIx n 0 lo : Nat) : Int), 1, sIx n n hi - sIx n 0 lo) s) : wpAny (model prog w) A (Builtin.Slice.sliceApplied (.ref sl) (pure (n : Int))) Q E s := by
  obtain ⟨os, hos, hcs, hds⟩ := id hs
  unfold Builtin.Slice.sliceApplied Builtin.Slice.sliceFields
  refine wpAny_bind (wpAny_bind (wpAny_field hos hds (x := vl) rfl (wpAny_bind (wpAny_field hos hds (x := vu) rfl (wpAny_bind (wpAny_field hos hds (x := .none) rfl (wpAny_pure ?_)))))))
  refine wpAny_bind (slicePart_none ?_)
  show wpAny _ _ (if ((1 : Int) == 0) = true then _ else _) _ _ s
  rw [if_neg (by decide)]
  refine wpAny_bind (slicePart_ pl (wpAny_bind (slicePart_ pu (wpAny_bind (wpAny_pure ?_)))))
  show wpAny _ _ (match Builtin.Slice.sliceAdjust lo hi 1 (n : Int) with | (lo, hi) => pure (lo, (1 : Int), Builtin.Slice.slicePlaces lo hi 1)) _ _ s
  rw [adjust_gen lo hi n]
  show wpAny _ _ (pure (((sIx n 0 lo : Nat) : Int), (1 : Int), Builtin.Slice.slicePlaces ((sIx n 0 lo : Nat) : Int) ((sIx n n hi : Nat) : Int) 1)) _ _ s
  rw [places_gen]
  exact wpAny_pure h
theorem pick_gen (xs : Array Value) (i k : Nat) : ((List.range k).filterMap fun (m : Nat) => xs[((i : Int) + (m : Int) * 1).toNat]?).toArray = ((xs.toList.drop i).take k).toArray := by
  have e : (fun (m : Nat) => xs[((i : Int) + (m : Int) * 1).toNat]?) = fun m => xs[i + m]? := by
    funext m
    have : ((i : Int) + (m : Int) * 1).toNat = i + m := by omega
    rw [this]
  rw [e]
  have := pick_run xs i k
  rw [List.filterMap_map] at this
  have e2 : ((fun x => xs[x]?) ∘ fun x => i + x) = fun m => xs[i + m]? := rfl
  rw [e2] at this
  rw [this]

theorem getItem_tuple_cut {t sl : Addr} {items : Array Value} {vl vu : Value} {lo hi : Option Int} {Q : Value → Shared → Prop} (ht : IsTup s.heap t items) (hs : s.heap.IsSliceOf sl vl vu .none) (pl : IsPart vl lo) (pu : IsPart vu hi)
    (hw : ¬ (sIx items.size 0 lo = 0 ∧ sIx items.size items.size hi = items.size))
    (h : Q (.ref s.heap.objs.size) { s with heap := s.heap.push { cls := .type "tuple", data := .seq ((items.toList.drop (sIx items.size 0 lo)).take (sIx items.size items.size hi - sIx items.size 0 lo)).toArray } })
    (hsz : items.size ≤ sizeLine) : wpAny (model prog w) A (getItem (.ref t) (.ref sl)) Q E s := by
  have htake : sizeOk (.seq ((items.toList.drop (sIx items.size 0 lo)).take (sIx items.size items.size hi - sIx items.size 0 lo)).toArray) := by
    show ((items.toList.drop (sIx items.size 0 lo)).take (sIx items.size items.size hi - sIx items.size 0 lo)).toArray.size ≤ sizeLine
    rw [List.size_toArray, List.length_take, List.length_drop, Array.length_toList]
    omega
  have hj : sIx items.size items.size hi ≤ items.size := sIx_le _ _ (Nat.le_refl _) hi
  obtain ⟨os, hos, hcs, hds⟩ := id hs
  have hTs : s.TypeIs (.ref sl) "slice" := ⟨os, hos, hcs⟩
  unfold getItem
  try with_reducible refine wpAny_holding ?_
  first | refine wpAny_bind (wpAny_pure ?_) | skip
  refine wpAny_bind (wpAny_sequenceKey ht.typeIs (by decide) ?_)
  refine wpAny_bind (wpAny_callSpecial?_slot (name := Str.ofString "__getitem__") ht.typeIs PyProof.Rows.slot_tuple_getitem
    (wpAny_call_entry PyProof.Rows.slot_tuple_getitem ht.typeIs entry_tuple_getitem ?_ (args_tuple_getitem _ _)))
  show wpAny _ _ (Builtin.Tuple.tupleItemsOf (.ref t) >>= _) _ _ s
  refine wpAny_bind (tupleItemsOf_ ht ?_)
  refine wpAny_bind (wpAny_typeOf hTs ?_)
  rw [if_pos (by decide)]
  refine wpAny_bind (sliceApplied_gen hs pl pu ?_)
  have hno : ¬ ((((sIx items.size 0 lo : Nat) : Int) == 0 && (1 : Int) == 1 && (sIx items.size items.size hi - sIx items.size 0 lo) == items.size) = true) := by
    intro q
    rw [Bool.and_eq_true, Bool.and_eq_true] at q
    have q1 : ((sIx items.size 0 lo : Nat) : Int) = 0 := eq_of_beq q.1.1
    have q2 : sIx items.size items.size hi - sIx items.size 0 lo = items.size := eq_of_beq q.2
    exact hw ⟨by omega, by omega⟩
  show wpAny _ _ (if (((sIx items.size 0 lo : Nat) : Int) == 0 && (1 : Int) == 1 && (sIx items.size items.size hi - sIx items.size 0 lo) == items.size) = true then _ else _) _ _ s
  rw [if_neg hno, pick_gen]
  first
    | exact wpAny_bind (m := Builtin.Tuple.tupleExact _) (wpAny_newObj_type (wpAny_pure ⟨_, rfl, wpAny_pure h⟩) htake)
    | exact wpAny_bind (m := Builtin.Tuple.tupleExact _) (wpAny_newObj_type (wpAny_bind (wpAny_pure (wpAny_pure ⟨_, rfl, wpAny_pure h⟩))) htake)
    | exact wpAny_bind (wpAny_bind (m := Builtin.Tuple.tupleExact _) (wpAny_newObj_type (wpAny_pure (wpAny_pure ⟨_, rfl, wpAny_pure h⟩)) htake))
    | exact wpAny_bind (wpAny_bind (m := Builtin.Tuple.tupleExact _) (wpAny_newObj_type (wpAny_pure ⟨_, rfl, wpAny_pure h⟩) htake))
end
end HT

namespace L2
open PySem PySem.Spec PyProof.Rows

/-! ### the parts of a slice -/
abbrev TO := St → Hp → (Option Int → Hp → Prop) → Prop
/-- a slice's part (left out, or an int) -/
def PO (X : Cx) (e : Option Expr) (t : TO) : Prop :=
  ∀ (pins : List (Addr × Obj)) (s : Shared) (σ : St) (H : Hp) (Q : Option Int → Hp → Prop), Inv X pins σ H s → t σ H Q →
    wpAny (model X.prog X.w) X.A (evalPart e X.env) (fun u s' => ∃ o H', Inv X pins σ H' s' ∧ IsPart u o ∧ Q o H') X.xe s
def tNoPart : TO := fun _ H Q => Q none H
def tPart (t : TE) : TO := fun σ H Q => t σ H fun x H1 => ∃ i, x = .int i ∧ Q (some i) H1

theorem intsAre_of {ns : List Int} : ∀ {us : List Value}, Vals (ns.map V.int) us → IntsAre us ns := by
  induction ns with
  | nil => intro us r; rw [List.map_nil] at r; cases r; exact .nil
  | cons n ns ih =>
    intro us r
    rw [List.map_cons] at r
    cases r with
    | cons r1 r2 =>
      obtain ⟨t, e⟩ := r1
      subst e
      exact .cons n t (ih r2)

section
variable {X : Cx} {e : Expr} {te : TE} {lo hi : Option Expr} {tl th : TO} {pos p2 : Pos}

theorem po_none : PO X none tNoPart := by
  intro pins s σ H Q I h
  rw [evalPart_none]
  exact wpAny_pure ⟨none, H, I, .none, h⟩
theorem po_some (h : PE X e te) : PO X (some e) (tPart te) := by
  intro pins s σ H Q I hw
  rw [evalPart_some]
  refine thn (h pins s σ H _ I hw) fun u s1 ⟨x, H1, I1, r1, q1⟩ => ?_
  obtain ⟨i, rfl, q⟩ := q1
  obtain ⟨t, rfl⟩ := r1
  exact ⟨some i, H1, I1, .int i t, q⟩

/-- what a slice of a value is, by values: the slice object stands at sl -/
def SlR (X : Cx) (r : V → Option Int → Option Int → Hp → VK → Prop) : Prop :=
  ∀ (pins : List (Addr × Obj)) (s : Shared) (σ : St) (H : Hp) (x : V) (v vl vu : Value) (lo hi : Option Int) (sl : Addr) (Q : VK), Inv X pins σ H s → RelV x v → s.heap.IsSliceOf sl vl vu .none → IsPart vl lo → IsPart vu hi → r x lo hi H Q →
    ∃ T id, typeLookup (.type T) "__getitem__" = pure (some (.builtin id)) ∧ s.TypeIs v T ∧ wpAny (model X.prog X.w) X.A (getItem v (.ref sl)) (EP X pins σ Q) X.xe s
theorem SlR.or {r r' : V → Option Int → Option Int → Hp → VK → Prop} (h : SlR X r) (h' : SlR X r') : SlR X (fun x lo hi H Q => r x lo hi H Q ∨ r' x lo hi H Q) := by
  intro pins s σ H x v vl vu lo hi sl Q I rx hs pl pu q
  rcases q with q | q
  · exact h pins s σ H x v vl vu lo hi sl Q I rx hs pl pu q
  · exact h' pins s σ H x v vl vu lo hi sl Q I rx hs pl pu q
def tSl (r : V → Option Int → Option Int → Hp → VK → Prop) (te : TE) (tl th : TO) : TE := fun σ H Q => te σ H fun x H1 => tl σ H1 fun l H2 => th σ H2 fun u H3 => r x l u H3 Q
/-- a[lo:hi], any a -/
theorem pe_slice {r : V → Option Int → Option Int → Hp → VK → Prop} (hr : SlR X r) (he : PE X e te) (hl : PO X lo tl) (hu : PO X hi th) : PE X (.Subscript e (.Slice lo hi none p2) pos) (tSl r te tl th) := by
  intro pins s σ H Q I h
  refine Subscript_ (thn (he pins s σ H _ I h) fun v s1 ⟨x, H1, I1, r1, q1⟩ => ?_)
  refine wpAny_Slice (thn (hl pins s1 σ H1 _ I1 q1) fun vl s2 ⟨l, H2, I2, pl, q2⟩ => thn (hu pins s2 σ H2 _ I2 q2) fun vu s3 ⟨u, H3, I3, pu, q3⟩ => ?_)
  rw [evalPart_none]
  refine wpAny_pure ?_
  have I4 : Inv X pins σ H3 { s3 with heap := s3.heap.push { cls := .type "slice", data := .fields #[vl, vu, .none] } } := I3.kept (t' := s3.toks) fun b ob q => Heap.get?_push_of_some _ q
  obtain ⟨T, id, hT, ht, hg⟩ := hr pins { s3 with heap := s3.heap.push { cls := .type "slice", data := .fields #[vl, vu, .none] } } σ H3 x v vl vu l u s3.heap.objs.size Q I4 r1 (Heap.IsSliceOf.new ..) pl pu q3
  show wpAny (model X.prog X.w) X.A (subscriptTail e (.Slice lo hi none p2) v (.ref s3.heap.objs.size)) (EP X pins σ Q) X.xe { s3 with heap := s3.heap.push { cls := .type "slice", data := .fields #[vl, vu, .none] } }
  exact tail_any (ops := [.ref s3.heap.objs.size, v]) ht hT hg (by with_unfolding_all rfl)

/-- the items of xs[lo:hi] -/
def cutV (xs : List V) (lo hi : Option Int) : List V := (xs.drop (HT.sIx xs.length 0 lo)).take (HT.sIx xs.length xs.length hi - HT.sIx xs.length 0 lo)
theorem cutV_length (xs : List V) (lo hi : Option Int) : (cutV xs lo hi).length ≤ xs.length := by
  unfold cutV
  rw [List.length_take, List.length_drop]
  omega
/-- t[lo:hi], not the whole of it (the whole would be t itself) -/
def rSlT (K : PySem.W.Frag) : V → Option Int → Option Int → Hp → VK → Prop := fun x lo hi H Q => ∃ a xs, x = .ref a ∧ SqT K H a xs ∧
  ¬ (HT.sIx xs.length 0 lo = 0 ∧ HT.sIx xs.length xs.length hi = xs.length) ∧ ∀ p, H p = none → Q (.ref p) (upd H p (.tup (cutV xs lo hi)))
theorem sl_tup : SlR X (rSlT X.K) := by
  intro pins s σ H x v vl vu lo hi sl Q I rx hs pl pu h
  obtain ⟨a, xs, rfl, hx, hw, q⟩ := h
  cases rx
  obtain ⟨its, r, ht, hz⟩ := I.tuple hx
  have hlen : its.toArray.size = xs.length := by rw [List.size_toArray]; exact r.length.symm
  refine ⟨"tuple", _, PyProof.Rows.slot_tuple_getitem.lookup, ht.typeIs, ?_⟩
  refine HT.getItem_tuple_cut ht hs pl pu (by rw [hlen]; exact hw) ?_ (by rw [hlen]; exact hz)
  rw [hlen]
  refine ⟨.ref s.heap.objs.size, _, I.laid (t' := s.toks) (o := .tup (cutV xs lo hi)) (fun b ob q => Heap.get?_push_of_some _ q) (Nat.le_refl _) ?_, rfl, q _ (I.hok.fresh (Nat.le_refl _))⟩
  exact ⟨Nat.le_trans (cutV_length xs lo hi) hz, _, (r.drop (HT.sIx xs.length 0 lo)).take (HT.sIx xs.length xs.length hi - HT.sIx xs.length 0 lo), IsTup.new _ _⟩

/-! ### t < u, t + u -/
def rLtT (K : PySem.W.Frag) : R2 := fun x y H Q => ∃ a b ns ms, x = .ref a ∧ y = .ref b ∧ SqT K H a (ns.map V.int) ∧ SqT K H b (ms.map V.int) ∧ Q (.bl (HT.lexLt ns ms)) H
theorem op_ltT (hu : X.A.units < cLine) : OpR X (compareOp .Lt) (rLtT X.K) := by
  intro pins s σ H x y v u Q I rx ry h
  obtain ⟨a, b, ns, ms, rfl, rfl, ha, hb, q⟩ := h
  cases rx
  cases ry
  obtain ⟨its, r1, p1, _⟩ := I.tuple ha
  obtain ⟨its2, r2, p2, _⟩ := I.tuple hb
  have i1 : IntsAre its.toArray.toList ns := intsAre_of r1
  have i2 : IntsAre its2.toArray.toList ms := intsAre_of r2
  exact HT.lt_tupInts p1 p2 i1 i2 hu ⟨.bl (HT.lexLt ns ms), H, I, rfl, q⟩
/-- t + u, t not empty: u empty gives t itself -/
def rCatT (K : PySem.W.Frag) : R2 := fun x y H Q => ∃ a b xs ys, x = .ref a ∧ y = .ref b ∧ SqT K H a xs ∧ SqT K H b ys ∧ xs ≠ [] ∧ xs.length + ys.length ≤ sizeLine ∧
  (ys = [] → Q (.ref a) H) ∧ (ys ≠ [] → ∀ p, H p = none → Q (.ref p) (upd H p (.tup (xs ++ ys))))
theorem Vals.nil_iff {xs : List V} {us : List Value} (r : Vals xs us) : us = [] ↔ xs = [] := by
  cases r with
  | nil => simp
  | cons _ _ => simp
theorem op_catT : OpR X (binaryOp .Add) (rCatT X.K) := by
  intro pins s σ H x y v u Q I rx ry h
  obtain ⟨a, b, xs, ys, rfl, rfl, ha, hb, hx, hz, q1, q2⟩ := h
  cases rx
  cases ry
  obtain ⟨its, r1, p1, _⟩ := I.tuple ha
  obtain ⟨its2, r2, p2, _⟩ := I.tuple hb
  refine HT.cat_tup p1 p2 (fun z => hx (r1.nil_iff.mp z)) (fun z => ⟨.ref a, H, I, rfl, q1 (r2.nil_iff.mp z)⟩) (fun z => ?_) (by rw [← r1.length, ← r2.length]; exact hz)
  refine ⟨.ref s.heap.objs.size, _, I.laid (t' := s.toks) (o := .tup (xs ++ ys)) (fun b ob q => Heap.get?_push_of_some _ q) (Nat.le_refl _) ?_, rfl, q2 (fun w => z (r2.nil_iff.mpr w)) _ (I.hok.fresh (Nat.le_refl _))⟩
  exact ⟨by rw [List.length_append]; exact hz, _, r1.append r2, IsTup.new _ _⟩
/-- tuple(t) -/
theorem call_tupleT : CallR X (.type "tuple") (fun xs H Q => ∃ a ys, xs = [.ref a] ∧ SqT X.K H a ys ∧ Q (.ref a) H) := by
  intro pins s σ H xs us Q I r h
  obtain ⟨a, ys, rfl, ha, q⟩ := h
  obtain ⟨u, rfl, ru⟩ := vals1 r
  cases ru
  obtain ⟨its, _, p1, _⟩ := I.tuple ha
  exact call_tuple_same (items := its.toArray) p1 ⟨.ref a, H, I, rfl, q⟩
end
end L2

namespace L2
open PySem PySem.Spec PyProof.Rows

/-! ### places -/
/-- the place that an index of any sign means -/
def ixN (n : Nat) (i : Int) : Option Nat := if 0 ≤ i then (if i < n then some i.toNat else none) else if -(n : Int) ≤ i then some (i + n).toNat else none
def atI {α : Type} (xs : List α) (i : Int) : Option α := (ixN xs.length i).bind fun j => xs[j]?
theorem ixN_seq {n : Nat} {i : Int} {j : Nat} (h : ixN n i = some j) : seqIndex? i n = some j ∧ j < n ∧ -(n : Int) ≤ i ∧ i < n := by
  unfold ixN at h
  by_cases h0 : 0 ≤ i
  · rw [if_pos h0] at h
    by_cases h1 : i < n
    · rw [if_pos h1] at h
      have e : i.toNat = j := Option.some.inj h
      exact ⟨by rw [seqIndex_of h0 h1, e], by omega, by omega, h1⟩
    · rw [if_neg h1] at h; cases h
  · rw [if_neg h0] at h
    by_cases h1 : -(n : Int) ≤ i
    · rw [if_pos h1] at h
      have e : (i + n).toNat = j := Option.some.inj h
      exact ⟨by rw [seqIndex_neg (by omega) h1, e], by omega, h1, by omega⟩
    · rw [if_neg h1] at h; cases h
theorem atI_get {α : Type} {xs : List α} {i : Int} {v : α} (h : atI xs i = some v) : ∃ j, seqIndex? i xs.length = some j ∧ xs[j]? = some v ∧ j < xs.length ∧ -(xs.length : Int) ≤ i ∧ i < xs.length := by
  unfold atI at h
  cases e : ixN xs.length i with
  | none => rw [e] at h; cases h
  | some j =>
    rw [e] at h
    obtain ⟨h1, h2, h3, h4⟩ := ixN_seq e
    exact ⟨j, h1, h, h2, h3, h4⟩
theorem atI_nat {α : Type} {xs : List α} {j : Nat} {v : α} (h : xs[j]? = some v) : atI xs (j : Int) = some v := by
  have hj : j < xs.length := (List.getElem?_eq_some_iff.mp h).1
  have e : ixN xs.length (j : Int) = some j := by
    unfold ixN
    rw [if_pos (by omega), if_pos (by omega)]; simp
  unfold atI; rw [e]; exact h
theorem atI_last {α : Type} (xs : List α) (v : α) : atI (xs ++ [v]) (-1) = some v := by
  have hl : (xs ++ [v]).length = xs.length + 1 := by simp
  have e : ixN (xs ++ [v]).length (-1) = some xs.length := by
    unfold ixN
    rw [hl, if_neg (by decide), if_pos (by omega)]
    congr 1
    omega
  unfold atI
  rw [e]
  show (xs ++ [v])[xs.length]? = some v
  simp

/-! ### what may be subscripted -/
/-- what stands as an index of a plain subscript -/
def PlainIx (b : Expr) : Prop := ∀ o i, subscripted b false o i = operate [o, i] (getItem o i)
/-- a subscript by values -/
def IxR (X : Cx) (r : R2) : Prop :=
  ∀ (value slice : Expr) (pins : List (Addr × Obj)) (s : Shared) (σ : St) (H : Hp) (x y : V) (v u : Value) (Q : VK), Inv X pins σ H s → RelV x v → RelV y u → r x y H Q →
    subscripted slice false v u = operate [v, u] (getItem v u) → wpAny (model X.prog X.w) X.A (subscriptTail value slice v u) (EP X pins σ Q) X.xe s
/-- a call of a builtin's method by values: the receiver, the arguments -/
def MtR (X : Cx) (id : String) (r : V → List V → Hp → VK → Prop) : Prop :=
  ∀ (pins : List (Addr × Obj)) (s : Shared) (σ : St) (H : Hp) (x : V) (xs : List V) (v : Value) (us : List Value) (Q : VK), Inv X pins σ H s → RelV x v → Vals xs us → r x xs H Q →
    wpAny (model X.prog X.w) X.A (call (.builtin id) (v :: us)) (EP X pins σ Q) X.xe s
section
variable {X : Cx} {a b : Expr} {ta tb : TE} {pos : Pos}
theorem IxR.or {r r' : R2} (h : IxR X r) (h' : IxR X r') : IxR X (fun x y H Q => r x y H Q ∨ r' x y H Q) := by
  intro value slice pins s σ H x y v u Q I rx ry q hs
  rcases q with q | q
  · exact h value slice pins s σ H x y v u Q I rx ry q hs
  · exact h' value slice pins s σ H x y v u Q I rx ry q hs
theorem MtR.or {id : String} {r r' : V → List V → Hp → VK → Prop} (h : MtR X id r) (h' : MtR X id r') : MtR X id (fun x xs H Q => r x xs H Q ∨ r' x xs H Q) := by
  intro pins s σ H x xs v us Q I rx rs q
  rcases q with q | q
  · exact h pins s σ H x xs v us Q I rx rs q
  · exact h' pins s σ H x xs v us Q I rx rs q
/-- a[b] -/
theorem pe_ix {r : R2} (hr : IxR X r) (ha : PE X a ta) (hb : PE X b tb) (hs : PlainIx b) : PE X (.Subscript a b pos) (tOp r ta tb) := by
  intro pins s σ H Q I h
  exact Subscript_ (binT ha hb I h fun v u s2 x y H2 I2 rx ry q => hr a b pins s2 σ H2 x y v u Q I2 rx ry q (hs _ _))

def rIxL (K : PySem.W.Frag) : R2 := fun x y H Q => ∃ p xs i v, x = .ref p ∧ y = .int i ∧ SqL K H p xs ∧ atI xs i = some v ∧ Q v H
def rIxT (K : PySem.W.Frag) : R2 := fun x y H Q => ∃ p xs i v, x = .ref p ∧ y = .int i ∧ SqT K H p xs ∧ atI xs i = some v ∧ Q v H
def rIxS : R2 := fun x y H Q => ∃ z i c, x = .str z ∧ y = .int i ∧ z.length ≤ sizeLine ∧ atI z.cps.toList i = some c ∧ Q (.str ⟨#[c]⟩) H
theorem ix_list : IxR X (rIxL X.K) := by
  intro value slice pins s σ H x y v u Q I rx ry h hs
  obtain ⟨p, xs, i, z, rfl, rfl, hq, he, q⟩ := h
  cases rx
  obtain ⟨t, rfl⟩ := ry
  obtain ⟨its, r, pl, hz⟩ := I.list hq
  obtain ⟨j, h1, h2, h3, h4, h5⟩ := atI_get he
  obtain ⟨w, ew, rw'⟩ := r.get h2
  have hl := r.length
  have hn := line63
  have fin : EP X pins σ Q w s := ⟨z, H, I, rw', q⟩
  by_cases h0 : 0 ≤ i
  · have hj : i.toNat = j := by
      rw [seqIndex_of h0 h5] at h1
      exact Option.some.inj h1
    exact item_listR pl.isList h0 (by omega) (by rw [hj]; simpa using ew) fin hs
  · have hj : (i + (its.toArray.size : Int)).toNat = j := by
      rw [seqIndex_neg (by omega) h4] at h1
      rw [List.size_toArray, ← hl]
      exact Option.some.inj h1
    exact subscriptTail_builtinR (x := w) pl.isList.typeIs slot_list_getitem.lookup
      (wpAny_getItem_list_neg (Q := fun r s' => r = w ∧ EP X pins σ Q r s') pl.isList (by omega) (by rw [List.size_toArray] <;> omega) (by omega) (by rw [hj]; simpa using ew) ⟨rfl, fin⟩) hs
theorem ix_tup : IxR X (rIxT X.K) := by
  intro value slice pins s σ H x y v u Q I rx ry h hs
  obtain ⟨p, xs, i, z, rfl, rfl, hq, he, q⟩ := h
  cases rx
  obtain ⟨t, rfl⟩ := ry
  obtain ⟨its, r, pl, hz⟩ := I.tuple hq
  obtain ⟨j, h1, h2, h3, h4, h5⟩ := atI_get he
  obtain ⟨w, ew, rw'⟩ := r.get h2
  have hl := r.length
  have hn := line63
  have fin : EP X pins σ Q w s := ⟨z, H, I, rw', q⟩
  exact subscriptTail_builtinR (x := w) pl.typeIs slot_tuple_getitem.lookup
    (getItem_tuple (j := j) (Q := fun r s' => r = w ∧ EP X pins σ Q r s') pl (by omega) (by omega) (by rw [List.size_toArray, ← hl]; exact h1) (by simpa using ew) ⟨rfl, fin⟩) hs
theorem ix_str : IxR X rIxS := by
  intro value slice pins s σ H x y v u Q I rx ry h hs
  obtain ⟨z, i, c, rfl, rfl, hz, he, q⟩ := h
  obtain ⟨t, rfl⟩ := rx
  obtain ⟨t', rfl⟩ := ry
  obtain ⟨j, h1, h2, h3, h4, h5⟩ := atI_get he
  have hl : z.cps.toList.length = z.length := by simp [Str.length]
  rw [hl] at h1 h4 h5
  have hn := line63
  exact tail_any (typeIs_str s z t) slot_str_getitem.lookup (getItem_str (c := c) (by
    have e1 : decide (i < -(2 ^ 63 : Int)) = false := decide_eq_false (by omega)
    have e2 : decide (i ≥ 2 ^ 63) = false := decide_eq_false (by omega)
    rw [e1, e2, Bool.or_false]) (by rw [h1]; simpa using h2) ⟨.str ⟨#[c]⟩, H, I.tok _, ⟨_, rfl⟩, q⟩) hs
/-- list, tuple or str -/
def rIx (K : PySem.W.Frag) : R2 := fun x y H Q => rIxL K x y H Q ∨ rIxT K x y H Q ∨ rIxS x y H Q
theorem ix_seq : IxR X (rIx X.K) := ix_list.or (ix_tup.or ix_str)

/-! ### xs[i] = v, any sign -/
/-- the list's object behind a store -/
theorem mapSeq_set (its : List Value) (n j : Nat) (u : Value) : Obj.mapSeq (·.setIfInBounds j u) { cls := .type "list", data := .seq its.toArray n } = { cls := .type "list", data := .seq (its.set j u).toArray n } := by
  simp [Obj.mapSeq]
theorem Inv.lst {pins : List (Addr × Obj)} {σ : St} {H : Hp} {s : Shared} {p : Addr} {xs : List V} (I : Inv X pins σ H s) (h : H p = some (.lst xs)) :
    ∃ (its : List Value) (n : Nat), Vals xs its ∧ s.heap.get? p = some { cls := .type "list", data := .seq its.toArray n } ∧ xs.length ≤ sizeLine := by
  obtain ⟨z, its, n, r, e⟩ := I.hok p _ h
  exact ⟨its, n, r, e, z⟩
/-- the list at p is written by an update of its object -/
theorem Inv.lstUpd {pins : List (Addr × Obj)} {σ : St} {H : Hp} {s : Shared} {p : Addr} {xs ys : List V} {its its' : List Value} {n n' : Nat} {f : Obj → Obj} (I : Inv X pins σ H s) (h : H p = some (.lst xs))
    (ho : s.heap.get? p = some { cls := .type "list", data := .seq its.toArray n }) (hf : f { cls := .type "list", data := .seq its.toArray n } = { cls := .type "list", data := .seq its'.toArray n' }) (r : Vals ys its') (hz : ys.length ≤ sizeLine) (t : Nat) :
    Inv X pins σ (upd H p (.lst ys)) { s with heap := s.heap.update p f, toks := t } := by
  have e : (s.heap.update p f).get? p = some { cls := .type "list", data := .seq its'.toArray n' } := by
    rw [Heap.get?_update_self f ho (by rw [hf] <;> rfl), hf]
  refine I.write (x := p) (e := p) (by rw [h]; trivial) (.inl rfl) (fun b u hb q => (Heap.get?_update_other _ _ (Ne.symm hb)).trans q) ⟨_, e⟩ ?_
  exact ⟨hz, its', n', r, e⟩
def rSetL : V → V → V → Hp → (Hp → Prop) → Prop := fun o i v H Q => ∃ p xs k j, o = .ref p ∧ i = .int k ∧ H p = some (.lst xs) ∧ ixN xs.length k = some j ∧ Q (upd H p (.lst (xs.set j v)))
theorem set_list : PSet X rSetL := by
  intro pins s σ H o i v ov iv u Q I ro ri rv h
  obtain ⟨p, xs, k, j, rfl, rfl, hp, hj, q⟩ := h
  cases ro
  obtain ⟨t, rfl⟩ := ri
  obtain ⟨its, n, r, ho, hz⟩ := I.lst hp
  obtain ⟨h1, h2, h3, h4⟩ := ixN_seq hj
  have hl := r.length
  have hn := line63
  have I' : Inv X pins σ (upd H p (.lst (xs.set j v))) { s with heap := s.heap.update p (Obj.mapSeq (·.setIfInBounds j u)) } :=
    I.lstUpd hp ho (mapSeq_set its n j u) (r.set rv j) (by rw [List.length_set]; exact hz) s.toks
  by_cases h0 : 0 ≤ k
  · have hk : k.toNat = j := by
      rw [seqIndex_of h0 h4] at h1
      exact Option.some.inj h1
    exact PySem.W.ki_setAt ho h0 (by omega) (by rw [List.size_toArray, ← hl]; exact h4) (by rw [hk]; exact ⟨_, I', q⟩)
  · have hk : (k + (its.toArray.size : Int)).toNat = j := by
      rw [seqIndex_neg (by omega) h3] at h1
      rw [List.size_toArray, ← hl]
      exact Option.some.inj h1
    exact PySem.W.ki_setBack ho (by omega) (by rw [List.size_toArray, ← hl]; exact h3) (by omega) (by rw [hk]; exact ⟨_, I', q⟩)

/-! ### slices -/
theorem slice_bounds (lo hi : Option Int) (n : Nat) : (sliceBounds lo hi none n).1 = ((HT.sIx n 0 lo : Nat) : Int) ∧ (sliceBounds lo hi none n).2.1 = ((HT.sIx n n hi : Nat) : Int) ∧ (sliceBounds lo hi none n).2.2 = 1 := by
  refine ⟨?_, ?_, rfl⟩
  · cases lo with
    | none => simp [sliceBounds, HT.sIx]
    | some i =>
      simp only [sliceBounds, HT.sIx, Option.getD_none, show (1 : Int) > 0 by decide, if_true]
      by_cases h : i < 0
      · simp only [h, if_true] <;> omega
      · simp only [h, if_false] <;> omega
  · cases hi with
    | none => simp [sliceBounds, HT.sIx]
    | some i =>
      simp only [sliceBounds, HT.sIx, Option.getD_none, show (1 : Int) > 0 by decide, if_true]
      by_cases h : i < 0
      · simp only [h, if_true] <;> omega
      · simp only [h, if_false] <;> omega
theorem slicePick_cut (its : List Value) (lo hi : Option Int) : slicePick its.toArray lo hi none = ((its.drop (HT.sIx its.length 0 lo)).take (HT.sIx its.length its.length hi - HT.sIx its.length 0 lo)).toArray := by
  obtain ⟨h1, h2, h3⟩ := slice_bounds lo hi its.toArray.size
  unfold slicePick
  rw [h1, h2, h3]
  simp only [sliceRange_one, pick_run, List.size_toArray] <;> rfl
/-- xs[lo:hi] of a list: a new list -/
def rSlL (K : PySem.W.Frag) : V → Option Int → Option Int → Hp → VK → Prop := fun x lo hi H Q => ∃ a xs, x = .ref a ∧ SqL K H a xs ∧ ∀ p, H p = none → Q (.ref p) (upd H p (.lst (cutV xs lo hi)))
theorem sl_list : SlR X (rSlL X.K) := by
  intro pins s σ H x v vl vu lo hi sl Q I rx hs pl pu h
  obtain ⟨a, xs, rfl, hx, q⟩ := h
  cases rx
  obtain ⟨its, r, ht, hz⟩ := I.list hx
  have hlen := r.length
  refine ⟨"list", _, slot_list_getitem.lookup, ht.isList.typeIs, ?_⟩
  refine wpAny_getItem_list_slice ht.isList hs pl pu .none (by simp) ?_ (by rw [List.size_toArray] <;> omega)
  rw [slicePick_cut, ← hlen]
  refine ⟨.ref s.heap.objs.size, _, I.laid (t' := s.toks) (o := .lst (cutV xs lo hi)) (fun b ob q => Heap.get?_push_of_some _ q) (Nat.le_refl _) ?_, rfl, q _ (I.hok.fresh (Nat.le_refl _))⟩
  exact ⟨Nat.le_trans (cutV_length xs lo hi) hz, _, 0, (r.drop (HT.sIx xs.length 0 lo)).take (HT.sIx xs.length xs.length hi - HT.sIx xs.length 0 lo), Heap.get?_push_size _ rfl⟩

/-! ### in, not in: flat items -/
def flatV : V → Bool
  | .non => true
  | .bl _ => true
  | .int _ => true
  | .str _ => true
  | _ => false
/-- == of flat values -/
def eqV : V → V → Bool
  | .non, .non => true
  | .bl a, .bl b => a == b
  | .bl a, .int b => (if a then 1 else 0) == b
  | .int a, .bl b => a == (if b then 1 else 0)
  | .int a, .int b => a == b
  | .str a, .str b => a == b
  | _, _ => false
theorem eqAt_V {A : Around} {s : Shared} {y x : V} {u v : Value} (ry : RelV y u) (rx : RelV x v) (fy : flatV y = true) (fx : flatV x = true) : SeqAt.EqAt A s u v (eqV y x) := by
  cases y with
  | non =>
    cases ry
    cases x with
    | non => cases rx; exact SeqAt.EqAt.same _
    | bl b => cases rx; exact SeqAt.EqAt.none_bool b
    | int b => obtain ⟨t, rfl⟩ := rx; exact SeqAt.EqAt.none_int b t
    | str b => obtain ⟨t, rfl⟩ := rx; exact SeqAt.EqAt.none_str b t
    | _ => exact absurd (show false = true from fx) Bool.false_ne_true
  | bl a =>
    cases ry
    cases x with
    | non => cases rx; exact SeqAt.EqAt.bool_none a
    | bl b => cases rx; exact SeqAt.EqAt.bool_bool a b
    | int b => obtain ⟨t, rfl⟩ := rx; exact SeqAt.EqAt.bool_int a b t
    | str b => obtain ⟨t, rfl⟩ := rx; exact SeqAt.EqAt.bool_str a b t
    | _ => exact absurd (show false = true from fx) Bool.false_ne_true
  | int a =>
    obtain ⟨t', rfl⟩ := ry
    cases x with
    | non => cases rx; exact SeqAt.EqAt.int_none a t'
    | bl b => cases rx; exact SeqAt.EqAt.int_bool a t' b
    | int b => obtain ⟨t, rfl⟩ := rx; exact SeqAt.EqAt.int_int a t' b t
    | str b => obtain ⟨t, rfl⟩ := rx; exact SeqAt.EqAt.int_str a t' b t
    | _ => exact absurd (show false = true from fx) Bool.false_ne_true
  | str a =>
    obtain ⟨t', rfl⟩ := ry
    cases x with
    | non => cases rx; exact SeqAt.EqAt.str_none a t'
    | bl b => cases rx; exact SeqAt.EqAt.str_bool a t' b
    | int b => obtain ⟨t, rfl⟩ := rx; exact SeqAt.EqAt.str_int a t' b t
    | str b => obtain ⟨t, rfl⟩ := rx; exact SeqAt.EqAt.str_str a t' b t
    | _ => exact absurd (show false = true from fx) Bool.false_ne_true
  | _ => exact absurd (show false = true from fy) Bool.false_ne_true
/-- the items' answers, read off the values (a value's own answer does not lean on its token) -/
def eqU (x : V) (u : Value) : Bool := match u with
  | .none => eqV .non x
  | .bool b => eqV (.bl b) x
  | .int i _ => eqV (.int i) x
  | .str z _ => eqV (.str z) x
  | _ => false
theorem eqU_of {x y : V} {u : Value} (r : RelV y u) (f : flatV y = true) : eqU x u = eqV y x := by
  cases y with
  | non => cases r; rfl
  | bl b => cases r; rfl
  | int i => obtain ⟨t, rfl⟩ := r; rfl
  | str z => obtain ⟨t, rfl⟩ := r; rfl
  | _ => exact absurd (show false = true from f) Bool.false_ne_true
theorem any_eqU {x : V} : ∀ {xs : List V} {us : List Value}, Vals xs us → xs.all flatV = true → us.any (eqU x) = xs.any fun y => eqV y x
  | _, _, .nil, _ => rfl
  | y :: xs, u :: us, .cons r t, f => by
    rw [List.all_cons, Bool.and_eq_true] at f
    rw [List.any_cons, List.any_cons, eqU_of r f.1, any_eqU t f.2]
theorem mem_eqAt {A : Around} {s : Shared} {x : V} {v : Value} (rx : RelV x v) (fx : flatV x = true) : ∀ {xs : List V} {us : List Value}, Vals xs us → xs.all flatV = true → ∀ u ∈ us, SeqAt.EqAt A s u v (eqU x u)
  | _, _, .nil, _ => fun u hu => by cases hu
  | y :: xs, u :: us, .cons r t, f => fun u' hu => by
    rw [List.all_cons, Bool.and_eq_true] at f
    rcases List.mem_cons.mp hu with rfl | hu
    · rw [eqU_of r f.1]; exact eqAt_V r rx f.1 fx
    · exact mem_eqAt rx fx t f.2 u' hu
def inV (x : V) (xs : List V) : Bool := xs.any fun y => eqV y x
/-- x in a list or tuple of flat items -/
def rIn (K : PySem.W.Frag) (neg : Bool) : R2 := fun x y H Q => ∃ p xs, y = .ref p ∧ (SqL K H p xs ∨ SqT K H p xs) ∧ flatV x = true ∧ xs.all flatV = true ∧ Q (.bl (if neg then !inV x xs else inV x xs)) H
theorem op_in_seq : OpR X (compareOp .In) (rIn X.K false) := by
  intro pins s σ H x y v u Q I rx ry h
  obtain ⟨p, xs, rfl, hq, fx, fs, q⟩ := h
  cases ry
  rcases hq with hq | hq
  · obtain ⟨its, r, pl, hz⟩ := I.list hq
    refine SeqAt.in_listAt (eqU x) pl.isList (fun w hw => mem_eqAt rx fx r fs w (by simpa using hw)) ⟨.bl _, H, I, rfl, ?_⟩
    rw [show its.toArray.any (eqU x) = its.any (eqU x) by simp, any_eqU r fs]
    exact q
  · obtain ⟨its, r, pl, hz⟩ := I.tuple hq
    refine SeqAt.in_tupleAt (eqU x) pl (fun w hw => mem_eqAt rx fx r fs w (by simpa using hw)) ⟨.bl _, H, I, rfl, ?_⟩
    rw [show its.toArray.any (eqU x) = its.any (eqU x) by simp, any_eqU r fs]
    exact q
theorem op_notIn_seq : OpR X (compareOp .NotIn) (rIn X.K true) := by
  intro pins s σ H x y v u Q I rx ry h
  obtain ⟨p, xs, rfl, hq, fx, fs, q⟩ := h
  cases ry
  rcases hq with hq | hq
  · obtain ⟨its, r, pl, hz⟩ := I.list hq
    refine SeqAt.notIn_listAt (eqU x) pl.isList (fun w hw => mem_eqAt rx fx r fs w (by simpa using hw)) ⟨.bl _, H, I, rfl, ?_⟩
    rw [show its.toArray.any (eqU x) = its.any (eqU x) by simp, any_eqU r fs]
    exact q
  · obtain ⟨its, r, pl, hz⟩ := I.tuple hq
    refine SeqAt.notIn_tupleAt (eqU x) pl (fun w hw => mem_eqAt rx fx r fs w (by simpa using hw)) ⟨.bl _, H, I, rfl, ?_⟩
    rw [show its.toArray.any (eqU x) = its.any (eqU x) by simp, any_eqU r fs]
    exact q
theorem op_notIn_str : OpR X (compareOp .NotIn) (fun x y H Q => ∃ i j, x = .str i ∧ y = .str j ∧ Q (.bl (!(!(Builtin.Str.occurrences j i 0 j.length 1).isEmpty))) H) := by
  intro pins s σ H x y v u Q I rx ry h
  obtain ⟨i, j, rfl, rfl, q⟩ := h
  obtain ⟨t, rfl⟩ := rx
  obtain ⟨t', rfl⟩ := ry
  exact notIn_str ⟨.bl _, H, I, rfl, q⟩

/-! ### len, list(x), tuple(x) of any list or tuple that is read -/
theorem call_len_seq : CallR X (.builtin "len") (fun xs H Q => ∃ p ys, xs = [.ref p] ∧ (SqL X.K H p ys ∨ SqT X.K H p ys) ∧ Q (.int ys.length) H) := by
  intro pins s σ H xs us Q I r h
  obtain ⟨p, ys, rfl, hq, q⟩ := h
  obtain ⟨u, rfl, rx⟩ := vals1 r
  cases rx
  have hn := line63
  rcases hq with hq | hq
  · obtain ⟨its, r', pl, hz⟩ := I.list hq
    have hlen := r'.length
    exact Calls.call_len_list pl.isList (by simp only [List.size_toArray] <;> omega) ⟨.int ys.length, H, I.tok _, ⟨s.toks + 1, by rw [List.size_toArray, hlen]⟩, q⟩
  · obtain ⟨its, r', pl, hz⟩ := I.tuple hq
    have hlen := r'.length
    exact len_tuple pl (by simp only [List.size_toArray] <;> omega) ⟨.int ys.length, H, I.tok _, ⟨s.toks + 1, by rw [List.size_toArray, hlen]⟩, q⟩
theorem call_len_str : CallR X (.builtin "len") (fun xs H Q => ∃ z, xs = [.str z] ∧ z.length ≤ sizeLine ∧ Q (.int z.length) H) := by
  intro pins s σ H xs us Q I r h
  obtain ⟨z, rfl, hz, q⟩ := h
  obtain ⟨u, rfl, t, rfl⟩ := vals1 r
  have hn := line63
  exact len_str (by omega) ⟨.int z.length, H, I.tok _, ⟨_, rfl⟩, q⟩
theorem CallR.or {f : Value} {r r' : List V → Hp → VK → Prop} (h : CallR X f r) (h' : CallR X f r') : CallR X f (fun xs H Q => r xs H Q ∨ r' xs H Q) := by
  intro pins s σ H xs us Q I rs q
  rcases q with q | q
  · exact h pins s σ H xs us Q I rs q
  · exact h' pins s σ H xs us Q I rs q
theorem call_list_of : CallR X (.type "list") (fun xs H Q => ∃ p ys, xs = [.ref p] ∧ (SqL X.K H p ys ∨ SqT X.K H p ys) ∧ ∀ l, H l = none → Q (.ref l) (upd H l (.lst ys))) := by
  intro pins s σ H xs us Q I r h
  obtain ⟨p, ys, rfl, hq, q⟩ := h
  obtain ⟨u, rfl, rx⟩ := vals1 r
  cases rx
  have fin : ∀ (its : List Value), Vals ys its → ys.length ≤ sizeLine → ∀ (h' : Heap) (c' : Nat), (∀ b o', s.heap.get? b = some o' → h'.get? b = some o') →
      h'.get? s.heap.objs.size = some { cls := .type "list", dict := none, data := .seq its.toArray c', slots := #[] } → EP X pins σ Q (.ref s.heap.objs.size) { s with heap := h' } := fun its r' hz h' c' kp e =>
    ⟨.ref s.heap.objs.size, _, I.laid (t' := s.toks) kp (Nat.le_refl _) (show ObjOk X.prog X.w _ h' _ (.lst ys) from ⟨hz, its, c', r', e⟩), rfl, q _ (I.hok.fresh (Nat.le_refl _))⟩
  rcases hq with hq | hq
  · obtain ⟨its, r', pl, hz⟩ := I.list hq
    have hlen := r'.length
    obtain ⟨o, ho, hc, n, hd⟩ := pl.isList
    exact call_list_seq p (.inl rfl) ho hc hd (fun h' c' kp e => fin its r' hz h' c' kp e) (by simp only [List.size_toArray] <;> omega)
  · obtain ⟨its, r', pl, hz⟩ := I.tuple hq
    have hlen := r'.length
    obtain ⟨o, ho, hc, n, hd⟩ := pl
    exact call_list_seq p (.inr rfl) ho hc hd (fun h' c' kp e => fin its r' hz h' c' kp e) (by simp only [List.size_toArray] <;> omega)
theorem call_tuple_of : CallR X (.type "tuple") (fun xs H Q => ∃ p ys, xs = [.ref p] ∧ ((SqL X.K H p ys ∧ ∀ l, H l = none → Q (.ref l) (upd H l (.tup ys))) ∨ (SqT X.K H p ys ∧ Q (.ref p) H))) := by
  intro pins s σ H xs us Q I r h
  obtain ⟨p, ys, rfl, h⟩ := h
  obtain ⟨u, rfl, rx⟩ := vals1 r
  cases rx
  rcases h with ⟨hq, q⟩ | ⟨hq, q⟩
  · obtain ⟨its, r', pl, hz⟩ := I.list hq
    have hlen := r'.length
    refine call_tuple_list pl.isList (fun h' kp => ?_) (by simp only [List.size_toArray] <;> omega)
    have I1 : Inv X pins σ H { s with heap := h' } := I.kept (t' := s.toks) kp
    have I2 : Inv X pins σ (upd H h'.objs.size (.tup ys)) { s with heap := h'.push { cls := .type "tuple", data := .seq its.toArray } } :=
      I1.laid (t' := s.toks) (fun b o e => Heap.get?_push_of_some _ e) (Nat.le_refl _) (show ObjOk X.prog X.w _ _ _ (.tup ys) from ⟨hz, its, r', IsTup.new _ _⟩)
    exact ⟨.ref h'.objs.size, _, I2, rfl, q _ (I1.hok.fresh (Nat.le_refl _))⟩
  · obtain ⟨its, r', pl, hz⟩ := I.tuple hq
    exact call_tuple_same pl ⟨.ref p, H, I, rfl, q⟩

/-! ### the call of a builtin's method: o.m(..) -/
/-- the value is of that builtin type -/
def tyV (K : PySem.W.Frag) (T : String) (x : V) (H : Hp) : Prop := match x with
  | .str _ => T = "str"
  | .int _ => T = "int"
  | .ref p => (T = "list" ∧ ∃ xs, SqL K H p xs) ∨ (T = "tuple" ∧ ∃ o, K.lookup p = some o ∧ o.cls = .type "tuple" ∧ o.dict = none) ∨
      (T = "dict" ∧ ((∃ kvs, H p = some (.dK kvs)) ∨ ∃ kvs, H p = some (.dT kvs))) ∨ (T = "set" ∧ ∃ S n, H p = some (.set S n))
  | _ => False
theorem tyV_is {pins : List (Addr × Obj)} {σ : St} {H : Hp} {s : Shared} {T : String} {x : V} {v : Value} (I : Inv X pins σ H s) (r : RelV x v) (ty : tyV X.K T x H) :
    s.TypeIs v T ∧ ∀ a, v = .ref a → ∃ ob, s.heap.get? a = some ob ∧ ob.dict = none := by
  cases x with
  | str z =>
    obtain ⟨t, rfl⟩ := r
    cases (show T = "str" from ty)
    exact ⟨typeIs_str s z t, fun _ e => nomatch e⟩
  | int i =>
    obtain ⟨t, rfl⟩ := r
    cases (show T = "int" from ty)
    exact ⟨typeIs_int s i t, fun _ e => nomatch e⟩
  | ref p =>
    cases r
    rcases ty with ⟨rfl, xs, hq⟩ | ⟨rfl, o, hk, hc, hd⟩ | ⟨rfl, hk⟩ | ⟨rfl, S, n, hk⟩
    · obtain ⟨its, _, pl, _⟩ := I.list hq
      refine ⟨pl.isList.typeIs, fun a e => ?_⟩
      cases e
      obtain ⟨o, n, e, c, hd, _⟩ := pl
      exact ⟨o, e, hd⟩
    · refine ⟨⟨o, I.kIn p o hk, hc⟩, fun a e => ?_⟩
      cases e
      exact ⟨o, I.kIn _ o hk, hd⟩
    · have z : ∃ o, s.heap.get? p = some o ∧ o.ExactDict := by
        rcases hk with ⟨kvs, hk⟩ | ⟨kvs, hk⟩
        · obtain ⟨_, _, _, _, o, _, _, e, ex, _⟩ := I.hok p _ hk
          exact ⟨o, e, ex⟩
        · obtain ⟨_, _, _, _, o, _, _, e, ex, _⟩ := I.hok p _ hk
          exact ⟨o, e, ex⟩
      obtain ⟨o, e, ex⟩ := z
      refine ⟨⟨o, e, ex.1⟩, fun a e2 => ?_⟩
      cases e2
      exact ⟨o, e, ex.2.1⟩
    · obtain ⟨o, _, _, _, e, ex, _⟩ := I.hok p _ hk
      refine ⟨⟨o, e, ex.1⟩, fun a e2 => ?_⟩
      cases e2
      exact ⟨o, e, ex.2.1⟩
  | _ => exact False.elim ty
def tBM0 (K : PySem.W.Frag) (T : String) (r : V → List V → Hp → VK → Prop) (to : TE) : TE := fun σ H Q => to σ H fun x H1 => tyV K T x H1 ∧ r x [] H1 Q
def tBM (K : PySem.W.Frag) (T : String) (r : V → List V → Hp → VK → Prop) (to : TE) (t : TA) : TE := fun σ H Q => to σ H fun x H1 => tyV K T x H1 ∧ t σ H1 fun xs H2 => r x xs H2 Q
variable {o e : Expr} {es : List Expr} {to : TE} {t : TA} {name : Str} {apos cpos : Pos} {T id : String} {r : V → List V → Hp → VK → Prop}
theorem pe_bm0 (pa : PlainAttrs T) (slot : Slot T name id) (hty : typeOf (.builtin id) = pure (.type "method_descriptor")) (hm : MtR X id r) (ho : PE X o to)
    (hbase : attributeBase o name X.env (eval o X.env) = eval o X.env := by rfl) (hline : (apos.endLine == cpos.line) = true := by rfl) : PE X (.Call (.Attribute o name apos) [] [] cpos) (tBM0 X.K T r to) := by
  intro pins s σ H Q I h
  refine wpAny_Call_method0_late hbase hline (thn (ho pins s σ H _ I h) fun v s1 ⟨x, H1, I1, r1, ty, q1⟩ => ?_)
  obtain ⟨h1, h2⟩ := tyV_is I1 r1 ty
  exact ⟨T, id, pa, slot, hty, h1, h2, Calls.callWith_builtin rfl (PySem.evalArgs_none (hm pins s1 σ H1 x [] v [] Q I1 r1 .nil q1))⟩
theorem pe_bm (pa : PlainAttrs T) (slot : Slot T name id) (hty : typeOf (.builtin id) = pure (.type "method_descriptor")) (hm : MtR X id r) (ho : PE X o to) (ha : PA X (e :: es) t)
    (hbase : attributeBase o name X.env (eval o X.env) = eval o X.env := by rfl)
    (hfew : ((backTo cpos (starEach (e :: es) X.env)).all (fun x => !x.1) && (backToKw cpos (keywordEach [] X.env)).all (fun x => x.1.isSome)
      && decide ((e :: es).length + ([] : List Keyword).length + (if ([] : List Keyword).isEmpty then 0 else 1) < 30)) = true := by rfl)
    (hline : (apos.endLine == cpos.line) = true := by rfl) (hs : starEach (e :: es) X.env = (false, eval e X.env) :: starEach es X.env := by rfl) (hplain : (backTo cpos (starEach es X.env)).any (·.1) = false := by rfl) :
    PE X (.Call (.Attribute o name apos) (e :: es) [] cpos) (tBM X.K T r to t) := by
  intro pins s σ H Q I h
  refine wpAny_Call_method_late hbase hfew hline rfl (thn (ho pins s σ H _ I h) fun v s1 ⟨x, H1, I1, r1, ty, q1⟩ => ?_)
  obtain ⟨h1, h2⟩ := tyV_is I1 r1 ty
  refine ⟨T, id, pa, slot, hty, h1, h2, ?_⟩
  have hA := ha cpos pins s1 σ H1 _ I1 q1
  rw [hs] at hA ⊢
  refine Calls.callWith_builtin (by show (false || (backTo cpos (starEach es X.env)).any (·.1)) = false; rw [hplain] <;> rfl) (Calls.evalArgs_plain ?_)
  exact thn hA fun us s2 ⟨vs, H2, I2, r2, q2⟩ => hm pins s2 σ H2 x vs v us Q I2 r1 r2 q2
/- xs.append(e), list.index on a module's tuple .. are MtR facts of 06m -/
end
end L2

namespace L2
open PySem PySem.Spec PyProof.Rows

def MtM (X : Cx) (id : String) (r : V → List V → Hp → VK → Prop) : Prop :=
  ∀ (pins : List (Addr × Obj)) (s : Shared) (σ : St) (H : Hp) (x : V) (xs : List V) (v : Value) (us : List Value) (Q : VK), Inv X pins σ H s → RelV x v → Vals xs us → r x xs H Q →
    wpAny (model X.prog X.w) X.A (call (.builtin id) (v :: us)) (EP X pins σ Q) X.xe s

/-! ### lists of values -/
theorem Vals.one : ∀ {x : V} {us : List Value}, Vals [x] us → ∃ u, us = [u] ∧ RelV x u
  | _, _, .cons r .nil => ⟨_, rfl, r⟩
theorem Vals.two : ∀ {x y : V} {us : List Value}, Vals [x, y] us → ∃ u v, us = [u, v] ∧ RelV x u ∧ RelV y v
  | _, _, _, .cons r (.cons q .nil) => ⟨_, _, rfl, r, q⟩
theorem Vals.zero : ∀ {us : List Value}, Vals [] us → us = []
  | _, .nil => rfl
theorem Vals.dropLast {xs : List V} {us : List Value} (h : Vals xs us) : Vals xs.dropLast us.dropLast := by
  induction h with
  | nil => exact .nil
  | cons r t ih =>
    cases t with
    | nil => exact .nil
    | cons q t' => exact .cons r ih
theorem Vals.eraseIdx : ∀ {xs : List V} {us : List Value} (i : Nat), Vals xs us → Vals (xs.eraseIdx i) (us.eraseIdx i)
  | _, _, _, .nil => .nil
  | _, _, 0, .cons _ t => t
  | _, _, i + 1, .cons r t => .cons r (Vals.eraseIdx i t)
theorem Vals.reverse {xs : List V} {us : List Value} (h : Vals xs us) : Vals xs.reverse us.reverse := by
  induction h with
  | nil => exact .nil
  | cons r t ih => rw [List.reverse_cons, List.reverse_cons]; exact Vals.append ih (.cons r .nil)
theorem Vals.rep {xs : List V} {us : List Value} (h : Vals xs us) : ∀ k : Nat, Vals (List.replicate k xs).flatten (List.replicate k us).flatten
  | 0 => .nil
  | k + 1 => by
    rw [List.replicate_succ, List.replicate_succ, List.flatten_cons, List.flatten_cons]
    exact Vals.append h (Vals.rep h k)
theorem erase_last {α : Type} (l : List α) : l.eraseIdx (l.length - 1) = l.dropLast := by
  induction l with
  | nil => rfl
  | cons a r ih =>
    cases r with
    | nil => rfl
    | cons b r =>
      have e : (a :: b :: r).length - 1 = ((b :: r).length - 1) + 1 := by
        have h1 : (a :: b :: r).length = r.length + 2 := rfl
        have h2 : (b :: r).length = r.length + 1 := rfl
        omega
      rw [e, List.eraseIdx_cons_succ, ih]
      all_goals rfl
theorem len_erase {α : Type} : ∀ (l : List α) (i : Nat), (l.eraseIdx i).length ≤ l.length
  | [], _ => Nat.le_refl _
  | _ :: _, 0 => Nat.le_succ _
  | _ :: r, i + 1 => Nat.succ_le_succ (len_erase r i)
theorem foldl_rep (its : List Value) : ∀ (k : Nat) (acc : List Value),
    List.foldl (fun x1 x2 => x1 ++ x2) acc.toArray (List.replicate k its.toArray) = (acc ++ (List.replicate k its).flatten).toArray
  | 0, acc => by simp
  | k + 1, acc => by
    have e : acc.toArray ++ its.toArray = (acc ++ its).toArray := by simp
    have e2 : (acc ++ its) ++ (List.replicate k its).flatten = acc ++ (List.replicate (k + 1) its).flatten := by
      rw [List.replicate_succ, List.flatten_cons, List.append_assoc]
    rw [← e2, ← foldl_rep its k (acc ++ its), ← e, List.replicate_succ, List.foldl_cons]

section
variable {X : Cx} {pins : List (Addr × Obj)} {σ : St} {H : Hp} {s : Shared} {l b : Addr} {xs ys zs : List V}

/-! ### the two steps: a tracked list is rewritten, a new list is laid -/
theorem Inv.lset {its its' : List Value} {n : Nat} {f : Array Value → Array Value} {t' : Nat} (I : Inv X pins σ H s) (hH : H l = some (.lst xs))
    (e : s.heap.get? l = some { cls := .type "list", data := .seq its.toArray n }) (hf : f its.toArray = its'.toArray) (hv : Vals ys its') (hz : ys.length ≤ sizeLine) :
    Inv X pins σ (upd H l (.lst ys)) { s with heap := s.heap.update l (Obj.mapSeq f), toks := t' } := by
  have q := PySem.IsL.update e f
  rw [hf] at q
  refine I.write (x := l) (e := l) (by rw [hH]; exact trivial) (.inl rfl) (fun b' u hb hu => (Heap.get?_update_other s.heap (Obj.mapSeq f) (Ne.symm hb)).trans hu) ⟨_, q⟩ ?_
  exact ⟨hz, its', _, hv, q⟩
theorem Inv.lnew {its : List Value} {t' : Nat} (I : Inv X pins σ H s) (hv : Vals ys its) (hz : ys.length ≤ sizeLine) :
    Inv X pins σ (upd H s.heap.objs.size (.lst ys)) { s with heap := s.heap.push { cls := .type "list", data := .seq its.toArray }, toks := t' } :=
  I.laid (fun _ _ q => Heap.get?_push_of_some _ q) (Nat.le_refl _) ⟨hz, its, 0, hv, Heap.get?_push_size _ rfl⟩
theorem Inv.fresh (I : Inv X pins σ H s) : H s.heap.objs.size = none := I.hok.fresh (Nat.le_refl _)
theorem Inv.lstM (I : Inv X pins σ H s) (hH : H l = some (.lst xs)) : xs.length ≤ sizeLine ∧ ∃ (its : List Value) (n : Nat), Vals xs its ∧ xs.length = its.length ∧ s.heap.get? l = some { cls := .type "list", data := .seq its.toArray n } := by
  obtain ⟨z, its, n, r, e⟩ := I.hok l _ hH
  exact ⟨z, its, n, r, r.length, e⟩

theorem notLongL {n : Nat} (h : n ≤ sizeLine) : Builtin.List.listTooLong n = false := by
  unfold Builtin.List.listTooLong
  exact decide_eq_false (by omega)
end

section
variable {X : Cx}

/-! ### methods -/
def rAppend : V → List V → Hp → VK → Prop := fun x vs H Q => ∃ l xs y, x = .ref l ∧ vs = [y] ∧ H l = some (.lst xs) ∧ xs.length < sizeLine ∧ Q .non (upd H l (.lst (xs ++ [y])))
theorem mt_append : MtM X "list.append" rAppend := by
  intro pins s σ H x vs v us Q I rx rv h
  obtain ⟨l, xs, y, rfl, rfl, hH, hz, q⟩ := h
  cases rx
  obtain ⟨u, rfl, ru⟩ := rv.one
  obtain ⟨z, its, n, r, hl, e⟩ := I.lstM hH
  refine call_meets F.slot_list_append ⟨_, e, rfl⟩ F.entry_list_append (F.args_list_append_2 _ _) (PySem.list_append l its.toArray n u (by rw [List.size_toArray]; omega)) ⟨e, ?_⟩
  refine ⟨.non, _, I.lset (its' := its ++ [u]) hH e (by simp) (r.append (.cons ru .nil)) ?_, rfl, q⟩
  rw [List.length_append, List.length_singleton]
  omega

def rExtend : V → List V → Hp → VK → Prop := fun x vs H Q => ∃ l b xs zs, x = .ref l ∧ vs = [.ref b] ∧ H l = some (.lst xs) ∧ H b = some (.lst zs) ∧ xs.length + zs.length ≤ sizeLine ∧ Q .non (upd H l (.lst (xs ++ zs)))
theorem mt_extend : MtM X "list.extend" rExtend := by
  intro pins s σ H x vs v us Q I rx rv h
  obtain ⟨l, b, xs, zs, rfl, rfl, hH, hB, hz, q⟩ := h
  cases rx
  obtain ⟨u, rfl, ru⟩ := rv.one
  cases ru
  obtain ⟨z, its, n, r, hl, e⟩ := I.lstM hH
  obtain ⟨z2, its2, n2, r2, hl2, e2⟩ := I.lstM hB
  have hsz : its.toArray.size + its2.toArray.size ≤ sizeLine := by rw [List.size_toArray, List.size_toArray]; omega
  have hlong : ¬ (!its.toArray.isEmpty && Builtin.List.listTooLong (its.toArray.size + its2.toArray.size)) = true := by
    rw [notLongL hsz, Bool.and_false]
    exact Bool.false_ne_true
  refine call_meets F.slot_list_extend ⟨_, e, rfl⟩ F.entry_list_extend (F.args_list_extend_2 _ _)
    (AutoSeq1.list_extend_list_list_0 l its.toArray n b its2.toArray n2 hlong (by rw [List.size_toArray]; omega) (by omega)) ⟨e, e2, ?_⟩
  refine ⟨.non, _, I.lset (its' := its ++ its2) hH e (by simp) (r.append r2) ?_, rfl, q⟩
  rw [List.length_append]
  omega

def rPop : V → List V → Hp → VK → Prop := fun x vs H Q => ∃ l xs y, x = .ref l ∧ vs = [] ∧ H l = some (.lst xs) ∧ xs[xs.length - 1]? = some y ∧ Q y (upd H l (.lst xs.dropLast))
theorem mt_pop : MtM X "list.pop" rPop := by
  intro pins s σ H x vs v us Q I rx rv h
  obtain ⟨l, xs, y, rfl, rfl, hH, hy, q⟩ := h
  cases rx
  have hus := rv.zero
  subst hus
  obtain ⟨z, its, n, r, hl, e⟩ := I.lstM hH
  obtain ⟨u, hu, ru⟩ := r.get hy
  have hy' : its.toArray[its.toArray.size - 1]? = some u := by
    show its.toArray[its.length - 1]? = some u
    rw [← Array.getElem?_toList, ← hl]
    exact hu
  refine call_meets F.slot_list_pop ⟨_, e, rfl⟩ F.entry_list_pop (F.args_list_pop_1 _) (MeetsSeq.list_pop_last l its.toArray n u hy' (by rw [List.size_toArray]; omega)) ⟨e, ?_⟩
  refine ⟨y, _, I.lset (its' := its.dropLast) hH e ?_ r.dropLast ?_, ru, q⟩
  · show its.toArray.eraseIdxIfInBounds (its.toArray.size - 1) = its.dropLast.toArray
    rw [List.size_toArray, List.eraseIdxIfInBounds_toArray, erase_last]
  · rw [List.length_dropLast]
    omega

def rPopAt : V → List V → Hp → VK → Prop := fun x vs H Q => ∃ l xs i k y, x = .ref l ∧ vs = [.int i] ∧ H l = some (.lst xs) ∧ -(2 ^ 63) ≤ i ∧ i < 2 ^ 63 ∧ seqIndex? i xs.length = some k ∧ xs[k]? = some y ∧ Q y (upd H l (.lst (xs.eraseIdx k)))
theorem mt_popAt : MtM X "list.pop" rPopAt := by
  intro pins s σ H x vs v us Q I rx rv h
  obtain ⟨l, xs, i, k, y, rfl, rfl, hH, h1, h2, hk, hy, q⟩ := h
  cases rx
  obtain ⟨u, rfl, ru⟩ := rv.one
  obtain ⟨t, rfl⟩ := ru
  obtain ⟨z, its, n, r, hl, e⟩ := I.lstM hH
  obtain ⟨w, hw, rw'⟩ := r.get hy
  refine call_meets F.slot_list_pop ⟨_, e, rfl⟩ F.entry_list_pop (F.args_list_pop_2 _ _)
    (MeetsSeq.list_pop_at l its.toArray n i t k w (fitsIndex_both h1 h2) (by rw [List.size_toArray, ← hl]; exact hk) (by rw [← Array.getElem?_toList]; exact hw) (by rw [List.size_toArray]; omega)) ⟨e, ?_⟩
  refine ⟨y, _, I.lset (its' := its.eraseIdx k) hH e ?_ (r.eraseIdx k) ?_, rw', q⟩
  · show its.toArray.eraseIdxIfInBounds k = (its.eraseIdx k).toArray
    rw [List.eraseIdxIfInBounds_toArray]
  · have := len_erase xs k
    omega

def rReverse : V → List V → Hp → VK → Prop := fun x vs H Q => ∃ l xs, x = .ref l ∧ vs = [] ∧ H l = some (.lst xs) ∧ Q .non (upd H l (.lst xs.reverse))
theorem mt_reverse : MtM X "list.reverse" rReverse := by
  intro pins s σ H x vs v us Q I rx rv h
  obtain ⟨l, xs, rfl, rfl, hH, q⟩ := h
  cases rx
  have hus := rv.zero
  subst hus
  obtain ⟨z, its, n, r, hl, e⟩ := I.lstM hH
  refine call_meets F.slot_list_reverse ⟨_, e, rfl⟩ F.entry_list_reverse (F.args_list_reverse_1 _) (AutoSeq1.list_reverse_list_0 l its.toArray n (by rw [List.size_toArray]; omega)) ⟨e, ?_⟩
  refine ⟨.non, _, I.lset (its' := its.reverse) hH e (by simp) r.reverse ?_, rfl, q⟩
  rw [List.length_reverse]
  omega

def rClear : V → List V → Hp → VK → Prop := fun x vs H Q => ∃ l xs, x = .ref l ∧ vs = [] ∧ H l = some (.lst xs) ∧ Q .non (upd H l (.lst []))
theorem mt_clear : MtM X "list.clear" rClear := by
  intro pins s σ H x vs v us Q I rx rv h
  obtain ⟨l, xs, rfl, rfl, hH, q⟩ := h
  cases rx
  have hus := rv.zero
  subst hus
  obtain ⟨z, its, n, r, hl, e⟩ := I.lstM hH
  refine call_meets F.slot_list_clear ⟨_, e, rfl⟩ F.entry_list_clear (F.args_list_clear_1 _) (AutoSeq1.list_clear_list_0 l its.toArray n (by rw [List.size_toArray]; omega)) ⟨e, ?_⟩
  exact ⟨.non, _, I.lset (its' := []) (ys := []) hH e rfl .nil (Nat.zero_le _), rfl, q⟩

/-! ### list + list, list += list, list * int -/
def rCat : R2 := fun x y H Q => ∃ l b xs zs, x = .ref l ∧ y = .ref b ∧ H l = some (.lst xs) ∧ H b = some (.lst zs) ∧ xs.length + zs.length ≤ sizeLine ∧ ∀ p, H p = none → Q (.ref p) (upd H p (.lst (xs ++ zs)))
theorem op_cat : OpR X (binaryOp .Add) rCat := by
  intro pins s σ H x y v u Q I rx ry h
  obtain ⟨l, b, xs, zs, rfl, rfl, hH, hB, hz, q⟩ := h
  cases rx
  cases ry
  obtain ⟨z, its, n, r, hl, e⟩ := I.lstM hH
  obtain ⟨z2, its2, n2, r2, hl2, e2⟩ := I.lstM hB
  refine PySem.P.add_list e e2 ?_ (by rw [List.size_toArray, List.size_toArray]; omega)
  have ea : its.toArray ++ its2.toArray = (its ++ its2).toArray := by simp
  rw [ea]
  exact ⟨.ref _, _, I.lnew (t' := s.toks) (r.append r2) (by rw [List.length_append]; omega), rfl, q _ I.fresh⟩
/-- a list times an int (a negative one is nothing) -/
def rRep : R2 := fun x y H Q => ∃ l k xs, x = .ref l ∧ y = .int k ∧ H l = some (.lst xs) ∧ -(2 ^ 63) ≤ k ∧ k < 2 ^ 63 ∧ xs.length * k.toNat ≤ sizeLine ∧
  ∀ p, H p = none → Q (.ref p) (upd H p (.lst (List.replicate k.toNat xs).flatten))
theorem len_rep {α : Type} (xs : List α) (k : Nat) : (List.replicate k xs).flatten.length = k * xs.length := by
  induction k with
  | zero => simp
  | succ k ih => rw [List.replicate_succ, List.flatten_cons, List.length_append, ih, Nat.succ_mul, Nat.add_comm]
theorem op_rep : OpR X (binaryOp .Mult) rRep := by
  intro pins s σ H x y v u Q I rx ry h
  obtain ⟨l, k, xs, rfl, rfl, hH, h1, h2, hz, q⟩ := h
  cases rx
  obtain ⟨t, rfl⟩ := ry
  obtain ⟨z, its, n, r, hl, e⟩ := I.lstM hH
  have hlen : its.toArray.size * k.toNat ≤ sizeLine := by rw [List.size_toArray, ← hl]; exact hz
  have hcap : ¬ its.toArray.size * k.toNat > (2 ^ 63 - 1) / 8 := by
    have : (sizeLine : Nat) ≤ (2 ^ 63 - 1) / 8 := by decide
    omega
  have hfit : ¬ (!Builtin.List.listFitsIndex k) = true := by
    rw [fitsIndex_both h1 h2]
    exact Bool.false_ne_true
  have hlong : ¬ Builtin.List.listTooLong (its.toArray.size * k.toNat) = true := by
    rw [notLongL hlen]
    exact Bool.false_ne_true
  have hnew : List.foldl (fun x1 x2 => x1 ++ x2) #[] (List.replicate (if its.toArray.isEmpty = true then 0 else k.toNat) its.toArray) = (List.replicate k.toNat its).flatten.toArray := by
    have f0 : ∀ m : Nat, List.foldl (fun x1 x2 => x1 ++ x2) #[] (List.replicate m its.toArray) = (List.replicate m its).flatten.toArray := fun m => by
      have := foldl_rep its m []
      rw [List.nil_append] at this
      exact this
    rw [f0]
    cases its with
    | nil => simp
    | cons a r' => rw [if_neg (by simp)]
  refine wpAny_binaryOp_repeat_ref (T := "list") (U := "int") (by decide) ⟨_, e, rfl⟩ (fun s' => typeIs_int s' k t) noFill_list_mul F.fills_int_mul F.slot_int_rmul repeat_list F.slot_int_index.lookup
    (call_meets F.slot_int_rmul (typeIs_int s k t) F.entry_int_rmul (F.args_int_rmul_2 _ _) (int___rmul___int_list k t l its.toArray n)
      ⟨e, rfl, ⟨_, e, rfl⟩, call_meets F.slot_list_mul ⟨_, e, rfl⟩ F.entry_list_mul (F.args_list_mul_2 _ _) (AutoListH.list___mul___list_int_3 l its.toArray n k t hfit hcap hlong) ⟨e, ?_⟩⟩)
  rw [hnew]
  exact ⟨.ref _, _, I.lnew (t' := s.toks) (r.rep k.toNat) (by rw [len_rep, Nat.mul_comm]; exact hz), rfl, q _ I.fresh⟩

/-! ### del xs[i] -/
theorem del_list {pins : List (Addr × Obj)} {s : Shared} {σ : St} {H : Hp} {l : Addr} {xs : List V} {i : Int} {t : Tok} {k : Nat} {Q : Unit → Shared → Prop} (I : Inv X pins σ H s) (hH : H l = some (.lst xs))
    (h1 : -(2 ^ 63) ≤ i) (h2 : i < 2 ^ 63) (hk : seqIndex? i xs.length = some k) (h : ∀ s', Inv X pins σ (upd H l (.lst (xs.eraseIdx k))) s' → Q () s') :
    wpAny (model X.prog X.w) X.A (delItem (.ref l) (.int i t)) Q X.xe s := by
  obtain ⟨z, its, n, r, hl, e⟩ := I.lstM hH
  refine PySem.P.delItem_list (k := k) e (fitsIndex_both h1 h2) (by rw [List.size_toArray, ← hl]; exact hk) (h _ ?_) (by rw [List.size_toArray]; omega)
  refine I.lset (its' := its.eraseIdx k) (t' := s.toks) hH e ?_ (r.eraseIdx k) ?_
  · show its.toArray.eraseIdxIfInBounds k = (its.eraseIdx k).toArray
    rw [List.eraseIdxIfInBounds_toArray]
  · have := len_erase xs k
    omega
end

/-! ### xs[a:b] = ys -/
section
variable {prog : Program} {w : World} {A : Around} {E : Value → Shared → Prop} {s : Shared}
theorem splice_eq (its its2 : List Value) (a c : Nat) : its.toArray.extract 0 a ++ its2.toArray ++ its.toArray.extract c its.toArray.size = (its.take a ++ its2 ++ its.drop c).toArray := by
  apply Array.toList_inj.mp
  first
    | (simp
       exact List.take_of_length_le (by simp))
    | simp [List.take_of_length_le]
    | simp
theorem bounds_run {a c n : Nat} (hac : a ≤ c) (hc : c ≤ n) : sliceBounds (some (a : Int)) (some (c : Int)) none n = ((a : Int), (c : Int), 1) := by
  simp only [sliceBounds, Option.getD_none]
  have h1 : ¬ ((a : Int) < 0) := by omega
  have h2 : ¬ ((c : Int) < 0) := by omega
  simp only [h1, h2, if_false, show (1 : Int) > 0 by decide, if_true]
  congr 1
  · omega
  · congr 1; omega
set_option maxRecDepth 100000 in
/-- list.__setitem__ with a slice of step one and another list -/
theorem setItem_slice {l b sl : Addr} {items new : Array Value} {n n2 : Nat} {vl vu : Value} {a c : Nat} {Q : Unit → Shared → Prop}
    (e : s.heap.get? l = some { cls := .type "list", data := .seq items n }) (e2 : s.heap.get? b = some { cls := .type "list", data := .seq new n2 }) (hne : l ≠ b)
    (hs : s.heap.IsSliceOf sl vl vu .none) (pl : IsPart vl (some (a : Int))) (pu : IsPart vu (some (c : Int))) (hac : a ≤ c) (hc : c ≤ items.size)
    (hsz : items.size + new.size ≤ sizeLine) (h : Q () { s with heap := s.heap.update l (Obj.mapSeq fun xs => xs.extract 0 a ++ new ++ xs.extract c xs.size) }) :
    wpAny (model prog w) A (setItem (.ref l) (.ref sl) (.ref b)) Q E s := by
  have hl : s.heap.IsList l items := PySem.IsL.isList e
  have hb : s.heap.IsList b new := PySem.IsL.isList e2
  obtain ⟨os, hos, hcs, hds⟩ := id hs
  have hTs : s.TypeIs (.ref sl) "slice" := ⟨os, hos, hcs⟩
  have hstep : ¬ ((rawPart none == rawInt 0) = true) := Bool.false_ne_true
  have hsame : Builtin.List.listSameRef (.ref l) (.ref b) = false := by
    unfold Builtin.List.listSameRef
    exact beq_eq_false_iff_ne.mpr hne
  have hmax : (max (a : Int) (c : Int)).toNat = c := by omega
  have hz' : ((fun xs : Array Value => xs.extract 0 a ++ new ++ xs.extract c xs.size) items).size ≤ sizeLine + 1 := by
    simp only [Array.size_append, Array.size_extract]
    omega
  unfold setItem
  try with_reducible refine wpAny_holding ?_
  first | refine wpAny_bind (wpAny_pure ?_) | skip
  refine wpAny_bind (wpAny_sequenceKey hl.typeIs (by decide) ?_)
  refine wpAny_bind (wpAny_callSpecial?_slot (name := Str.ofString "__setitem__") hl.typeIs slot_list_setitem
    (wpAny_call_entry slot_list_setitem hl.typeIs entry_list_setitem ?_ (args_list_setitem _ _ _)))
  show wpAny _ _ (Builtin.List.listSubscript? (.ref sl) >>= _) _ _ s
  refine wpAny_bind ?_
  unfold Builtin.List.listSubscript?
  refine wpAny_bind (wpAny_specialOf hTs slice_no_index ?_)
  simp only [Option.isNone_none, if_true]
  refine wpAny_pure ?_
  show wpAny _ _ (typeOf (.ref sl) >>= _) _ _ s
  refine wpAny_bind (wpAny_typeOf hTs ?_)
  first
    | rw [if_neg (by decide)]
    | refine PySem.W.KFB.if_not (by decide) ?_
  rw [listSliceParts_eq]
  refine wpAny_bind (wpAny_bind (wpAny_field hos hds (x := .none) rfl (wpAny_bind (wpAny_listPart .none ?_))))
  rw [if_neg hstep]
  refine wpAny_bind (wpAny_field hos hds (x := vl) rfl (wpAny_bind (wpAny_listPart pl ?_)))
  refine wpAny_bind (wpAny_field hos hds (x := vu) rfl (wpAny_bind (wpAny_listPart pu (wpAny_pure ?_))))
  first
    | simp only [hsame, Bool.false_eq_true, if_false]
    | refine PySem.W.KFB.if_not hsame ?_
    | (dsimp only
       rw [if_neg (by rw [hsame]; exact Bool.false_ne_true)])
  refine wpAny_bind (m := Builtin.List.listAllItems (.ref b) "must assign iterable to extended slice") ?_
  unfold Builtin.List.listAllItems
  refine wpAny_bind (wpAny_typeOf hb.typeIs ?_)
  first
    | refine PySem.W.KFB.if_so (by decide) ?_
    | rw [if_pos (by decide)]
    | simp only [beq_self_eq_true, Bool.true_or, if_true]
  unfold Builtin.List.listItems
  refine wpAny_bind (wpAny_seqItems e2 rfl (wpAny_pure ?_))
  refine wpAny_bind (wpAny_bind (wpAny_seqItems e rfl (wpAny_pure ?_)))
  refine wpAny_bind (wpAny_of_eq ((sliceIndices_raw (some (a : Int)) (some (c : Int)) none items.size (by simp)).trans (congrArg (pure : Int × Int × Int → Sem (Int × Int × Int)) (bounds_run hac hc))) ?_)
  show wpAny _ _ (if ((1 : Int) == 1) = true then _ else _) _ _ s
  rw [if_pos (by decide)]
  refine wpAny_bind (wpAny_rule ?_)
  first
    | simp only [notLongL hsz, Bool.false_eq_true, if_false]
    | refine PySem.W.KFB.if_not (notLongL hsz) ?_
  first | refine wpAny_bind (wpAny_pure ?_) | skip
  show wpAny _ _ (updateSeq l (fun xs => xs.extract 0 ((a : Int)).toNat ++ new ++ xs.extract (max (a : Int) (c : Int)).toNat xs.size) >>= _) _ _ s
  rw [hmax, Int.toNat_natCast]
  refine wpAny_bind (wpAny_updateSeq (hz := Nat.le_trans (Nat.le_add_right _ _) hsz) (_hz' := hz') e rfl ?_)
  refine wpAny_bind (wpAny_letGo ?_)
  first
    | exact wpAny_bind (wpAny_pure (wpAny_pure ⟨.none, rfl, wpAny_pure h⟩))
    | exact wpAny_pure ⟨.none, rfl, wpAny_pure h⟩
end

section
variable {X : Cx}
/-- xs[a:c] = ys of another list, at the value level: sl is the slice object that was just made -/
theorem set_slice {pins : List (Addr × Obj)} {s : Shared} {σ : St} {H : Hp} {l b sl : Addr} {xs ys : List V} {a c : Int} {vl vu : Value} {Q : Unit → Shared → Prop} (I : Inv X pins σ H s)
    (hH : H l = some (.lst xs)) (hB : H b = some (.lst ys)) (hne : l ≠ b) (hs : s.heap.IsSliceOf sl vl vu .none) (ra : RelV (.int a) vl) (rc : RelV (.int c) vu) (h0 : 0 ≤ a) (hac : a ≤ c) (hc : c ≤ xs.length)
    (hz : xs.length + ys.length ≤ sizeLine) (h : ∀ s', Inv X pins σ (upd H l (.lst (xs.take a.toNat ++ ys ++ xs.drop c.toNat))) s' → Q () s') :
    wpAny (model X.prog X.w) X.A (setItem (.ref l) (.ref sl) (.ref b)) Q X.xe s := by
  obtain ⟨ta, rfl⟩ := ra
  obtain ⟨tc, rfl⟩ := rc
  obtain ⟨z, its, n, r, hl, e⟩ := I.lstM hH
  obtain ⟨z2, its2, n2, r2, hl2, e2⟩ := I.lstM hB
  obtain ⟨a', rfl⟩ := Int.eq_ofNat_of_zero_le h0
  obtain ⟨c', rfl⟩ := Int.eq_ofNat_of_zero_le (Int.le_trans h0 hac)
  simp only [Int.toNat_natCast] at h
  refine setItem_slice (a := a') (c := c') e e2 hne hs (.int _ _) (.int _ _) (by omega) (by rw [List.size_toArray]; omega) (by rw [List.size_toArray, List.size_toArray]; omega) (h _ ?_)
  refine I.lset (its' := its.take a' ++ its2 ++ its.drop c') (t' := s.toks) hH e ?_ (Vals.append (Vals.append (r.take _) r2) (r.drop _)) ?_
  · exact splice_eq its its2 a' c'
  · rw [List.length_append, List.length_append, List.length_take, List.length_drop]
    omega
end
end L2

namespace Att
open PySem PySem.W PySem.Calls PyProof.Rows

/-! ### the script -/
theorem ints_of_wellAll {P : Params} {h : Heap} : ∀ (ns : List Int) (vs : List Value), WellAll P h vs (ns.map WData.int) → IntsAre vs ns := by
  intro ns
  induction ns with
  | nil =>
    intro vs w
    rw [List.map_nil] at w
    cases w
    exact .nil
  | cons n ns ih =>
    intro vs w
    rw [List.map_cons] at w
    cases w with
    | cons a b =>
      cases a
      exact .cons _ _ (ih _ b)

theorem script_of {l : OpenLaw} {n : Nat} (hn : l.most = some n) {P : Params} {h : Heap} {args : List WData} {vals : List Value}
    (hpre : l.row.toRowW.claim.pre args = true) (hwl : WellAll P h vals args) :
    ∃ a vs ns, vals = [Value.ref a] ∧ args = [WData.list (ns.map WData.int)] ∧ h.get? a = some { cls := .type "list", data := .seq vs.toArray } ∧ IntsAre vs ns ∧ ns.length ≤ n := by
  have hsh : WShape.hasAll [] args [.list .int] = true := (pre_splitW hpre).1
  have hc : l.pre.holds [] { args := args } = true := (pre_splitW hpre).2
  obtain ⟨d, r, rfl, h1, h2⟩ := hasAllW_cons hsh
  obtain rfl := hasAllW_nil h2
  obtain ⟨xs, rfl, h3⟩ := hasW_list h1
  obtain ⟨ns, rfl⟩ := items_int h3
  have hlen : ns.length ≤ n := by
    unfold OpenLaw.pre at hc
    have h4 : (WTm.not (.lt (.lit (.int (n : Int))) (.len (.arg 0)))).holds [] { args := [.list (ns.map .int)] } = true := by
      have h4 := (holds_andW hc).1
      rw [hn] at h4
      exact h4
    have h5 := condW_of h4 (w_not (w_lt w_lit (w_len_list (w_arg rfl))))
    rw [List.length_map] at h5
    refine Nat.le_of_not_lt fun q => ?_
    have q' : (n : Int) < ((ns.length : Nat) : Int) := by omega
    first
      | (rw [decide_eq_true q'] at h5; exact absurd h5 (by decide))
      | (simp at h5; omega)
  cases hwl with
  | cons w1 w2 =>
    cases w2
    cases w1 with
    | list ho hall => exact ⟨_, _, ns, rfl, rfl, ho, ints_of_wellAll ns _ hall, hlen⟩

theorem post_true (l : OpenLaw) (args : List WData) : l.row.toRowW.claim.post args (.bool true) args = true :=
  postW_of (r := l.row.toRowW) (X := (true == true))
    (show WShape.has [] (.bool true) .bool = true by first | rfl | decide | simp [WShape.has, WShape.arms, WShape.armsAll])
    (show (WTm.eq .res (.lit (.bool true))).value [] { args := args, res := some (.bool true), after := args } = some (.bool (true == true)) from w_eq_bool (w_res rfl) w_lit) rfl

/-! ### the attachment: holds_open's last premise (the goal 'hc' behind k_head) from a wpAny of the law's body -/
theorem attach {l : OpenLaw} {n : Nat} {q : Program} {loose : List Str} {XP : (Str → Option Value) → Heap → Prop} {YP : World → Heap → Prop} {d : DefRec} {x : Str}
    (hn : l.most = some n) (hdf : d.params.defaults = [])
    (hbind : ∀ pm cd doc v : Value, bindArgs (docDef d.name d.params d.body d.scope pm cd doc) ⟨[v], []⟩ = pure [(x, v)])
    (hx : d.scope.names.lookup x = some .local ∨ d.scope.names.lookup x = some .cell)
    (hk : d.scope.kind = .function) (hco : d.scope.isCoroutine = false) (hgen : d.scope.isGenerator = false)
    (body : ∀ (w : World) (s₀ s₁ s : Shared) (mg mb : Str → Option Value) (fa : Addr) (o : Obj) (pm cd doc : Value) (a : Addr) (vs : List Value) (ns : List Int),
      Ground q loose [] XP w s₀ mg mb s₁.heap → YP w s₁.heap →
      s₁.heap.get? fa = some o → o.data = .func (docDef d.name d.params d.body d.scope pm cd doc) → s₁.heap.CodeRec cd d.name → mg d.name = some (.ref fa) →
      s₁.heap.get? a = some { cls := .type "list", data := .seq vs.toArray } → IntsAre vs ns → ns.length ≤ n →
      s.gens = #[] → s.os = s₁.os →
      Fr s₁.heap s₁.heap.objs.size s.heap (bindL (envOfC d.name d.scope s₁.heap.objs.size fa cd).kindOf [(x, .ref a)] fun _ => none) →
      Cl s₁.heap.objs.size (cellsFrom (s₁.heap.objs.size + 1) d.scope.names []) s.heap (bindC (envOfC d.name d.scope s₁.heap.objs.size fa cd).kindOf [(x, .ref a)] fun _ => none) →
      wpAny (model l.prog w) (callerA.deeper (envOfC d.name d.scope s₁.heap.objs.size fa cd)) (execs d.body (envOfC d.name d.scope s₁.heap.objs.size fa cd))
        (fun f s' => f = .ret (.bool true) ∧ OldK s₁.heap s'.heap ∧ s'.os = s₁.os ∧ AllBare s'.gens) (fun _ _ => False) s) :
    WalkO q loose XP YP l.row.toRowW d [] (fun f vs => PySem.call f vs) := by
  intro w s₀ s₁ mg mb G Y fa o pm cd doc dV kV ho hd hcd hD hmg hg args vals as hpre hlay hrd hwl hlo
  obtain rfl : dV = .none := Dflts.none hD hdf
  obtain rfl : kV = .none := Dflts.noKw hD
  obtain ⟨a, vs, ns, rfl, rfl, hobj, hints, hlen⟩ := script_of hn hpre hwl
  refine enter_call ?_
  refine call_cells_ret (o := o) (by rw [depth_caller]; decide) ho (fd_plain hd) G.T.nolimit hcd (hbind pm cd doc (.ref a)) (fun y hy => ?_) (fun h₁ tk F X => ?_) hco hgen hk
  · obtain rfl : y = (x, Value.ref a) := List.mem_singleton.mp hy
    rcases hx with e | e
    · exact .inl e
    · exact .inr ⟨e, cellsFrom_some _ _ _ (.inl e)⟩
  · refine wpAny_mono (body w s₀ s₁ { s₁ with heap := h₁, toks := tk } mg mb fa o pm cd doc a vs ns G Y ho (fd_plain hd) hcd hmg hobj hints hlen hg rfl F X) (fun f s' hq => ?_) (fun _ _ hq => hq)
    obtain ⟨rfl, h2, h3, h4⟩ := hq
    exact ⟨.inl ⟨.bool true, .bool true, [], rfl, fun _ => rfl, .bool true, post_true l _, fun _ => ⟨List.Pairwise.nil, fun _ hm => (nomatch hm)⟩⟩, h2, h3, h4⟩

/-- the same from a codeAny of the CALL (for a layer whose function contracts speak of calls) -/
theorem attach_call {l : OpenLaw} {n : Nat} {q : Program} {loose : List Str} {XP : (Str → Option Value) → Heap → Prop} {YP : World → Heap → Prop} {d : DefRec}
    (hn : l.most = some n) (hdf : d.params.defaults = [])
    (call : ∀ (w : World) (s₀ s₁ : Shared) (mg mb : Str → Option Value) (fa : Addr) (o : Obj) (pm cd doc : Value) (a : Addr) (vs : List Value) (ns : List Int),
      Ground q loose [] XP w s₀ mg mb s₁.heap → YP w s₁.heap →
      s₁.heap.get? fa = some o → o.data = .func (docDef d.name d.params d.body d.scope pm cd doc) → s₁.heap.CodeRec cd d.name → mg d.name = some (.ref fa) →
      s₁.heap.get? a = some { cls := .type "list", data := .seq vs.toArray } → IntsAre vs ns → ns.length ≤ n → s₁.gens = #[] →
      codeAny (model l.prog w) callerA (.call (.ref fa) ⟨[.ref a], []⟩) (fun r s' => r = .ok (.ret (.bool true)) ∧ OldK s₁.heap s'.heap ∧ s'.os = s₁.os ∧ AllBare s'.gens) s₁) :
    WalkO q loose XP YP l.row.toRowW d [] (fun f vs => PySem.call f vs) := by
  intro w s₀ s₁ mg mb G Y fa o pm cd doc dV kV ho hd hcd hD hmg hg args vals as hpre hlay hrd hwl hlo
  obtain rfl : dV = .none := Dflts.none hD hdf
  obtain rfl : kV = .none := Dflts.noKw hD
  obtain ⟨a, vs, ns, rfl, rfl, hobj, hints, hlen⟩ := script_of hn hpre hwl
  refine enter_call (codeAny_mono (call w s₀ s₁ mg mb fa o pm cd doc a vs ns G Y ho (fd_plain hd) hcd hmg hobj hints hlen hg) fun r s' hq => ?_)
  obtain ⟨rfl, h2, h3, h4⟩ := hq
  exact ⟨.inl ⟨.bool true, .bool true, [], rfl, fun _ => rfl, .bool true, post_true l _, fun _ => ⟨List.Pairwise.nil, fun _ hm => (nomatch hm)⟩⟩, h2, h3, h4⟩

/-- the same where the top left finished generators (o_head chose holds_openN): nothing may have changed at all and no generator may be left -/
theorem attachN {l : OpenLaw} {n : Nat} {q : Program} {loose : List Str} {XP : (Str → Option Value) → Heap → Prop} {YP : World → Heap → Prop} {d : DefRec} {x : Str}
    (hn : l.most = some n) (hdf : d.params.defaults = [])
    (hbind : ∀ pm cd doc v : Value, bindArgs (docDef d.name d.params d.body d.scope pm cd doc) ⟨[v], []⟩ = pure [(x, v)])
    (hx : d.scope.names.lookup x = some .local ∨ d.scope.names.lookup x = some .cell)
    (hk : d.scope.kind = .function) (hco : d.scope.isCoroutine = false) (hgen : d.scope.isGenerator = false)
    (body : ∀ (w : World) (s₀ s₁ s : Shared) (mg mb : Str → Option Value) (fa : Addr) (o : Obj) (pm cd doc : Value) (a : Addr) (vs : List Value) (ns : List Int),
      Ground q loose [] XP w s₀ mg mb s₁.heap → YP w s₁.heap →
      s₁.heap.get? fa = some o → o.data = .func (docDef d.name d.params d.body d.scope pm cd doc) → s₁.heap.CodeRec cd d.name → mg d.name = some (.ref fa) →
      s₁.heap.get? a = some { cls := .type "list", data := .seq vs.toArray } → IntsAre vs ns → ns.length ≤ n →
      s.gens = #[] → s.os = s₁.os →
      Fr s₁.heap s₁.heap.objs.size s.heap (bindL (envOfC d.name d.scope s₁.heap.objs.size fa cd).kindOf [(x, .ref a)] fun _ => none) →
      Cl s₁.heap.objs.size (cellsFrom (s₁.heap.objs.size + 1) d.scope.names []) s.heap (bindC (envOfC d.name d.scope s₁.heap.objs.size fa cd).kindOf [(x, .ref a)] fun _ => none) →
      wpAny (model l.prog w) (callerA.deeper (envOfC d.name d.scope s₁.heap.objs.size fa cd)) (execs d.body (envOfC d.name d.scope s₁.heap.objs.size fa cd))
        (fun f s' => f = .ret (.bool true) ∧ (∀ b o, s₁.heap.get? b = some o → s'.heap.get? b = some o) ∧ s'.os = s₁.os ∧ s'.gens = #[]) (fun _ _ => False) s) :
    WalkN q loose XP YP l.row.toRowW d [] (fun f vs => PySem.call f vs) := by
  intro w s₀ s₁ mg mb G Y fa o pm cd doc dV kV ho hd hcd hD hmg hg args vals as hpre hlay hrd hwl hlo
  obtain rfl : dV = .none := Dflts.none hD hdf
  obtain rfl : kV = .none := Dflts.noKw hD
  obtain ⟨a, vs, ns, rfl, rfl, hobj, hints, hlen⟩ := script_of hn hpre hwl
  refine enter_callW ?_
  refine call_cells_ret (o := o) (by rw [depth_caller]; decide) ho (fd_plain hd) G.T.nolimit hcd (hbind pm cd doc (.ref a)) (fun y hy => ?_) (fun h₁ tk F X => ?_) hco hgen hk
  · obtain rfl : y = (x, Value.ref a) := List.mem_singleton.mp hy
    rcases hx with e | e
    · exact .inl e
    · exact .inr ⟨e, cellsFrom_some _ _ _ (.inl e)⟩
  · refine wpAny_mono (body w s₀ s₁ { s₁ with heap := h₁, toks := tk } mg mb fa o pm cd doc a vs ns G Y ho (fd_plain hd) hcd hmg hobj hints hlen hg rfl F X) (fun f s' hq => ?_) (fun _ _ hq => hq)
    obtain ⟨rfl, h2, h3, h4⟩ := hq
    exact ⟨.inl ⟨.bool true, .bool true, [], rfl, fun _ => rfl, .bool true, post_true l _, fun _ => ⟨List.Pairwise.nil, fun _ hm => (nomatch hm)⟩⟩, h2, h3, h4⟩

/-! ### rules over ANY heap (no ledger) from facts about the written part K: the library's own take a ledger (News) for what they write -/
section
variable {prog : Program} {w : World} {A : Around} {E : Value → Shared → Prop} {s : Shared} {K : Frag}

/-- a def of the module, or a method (qual 'C.m'), entered: the frame is the next address; cells behind it -/
theorem call_fn {R : Result → Shared → Prop} {name qual : Str} {params : Arguments} {body : List Stmt} {scope : Scope} {dV kV doc pm cdv ct oc : Value} {an od : Option Addr} {osl : Array (Option Value)} {f : Addr} {args : Args} {binds : List (Str × Value)}
    (X : K.In s.heap) (hlim : s.heap.NoLimit) (ho : K.lookup f = some ⟨oc, od, .func (fnOf name qual params body scope dV kV doc pm an cdv ct), osl⟩) (hcd : codeIn K cdv qual = true) (hroom : A.depth < recursionLimit)
    (hbind : BindsTo s (fnOf name qual params body scope dV kV doc pm an cdv ct) args binds)
    (hkind : (binds.all fun y => scope.names.lookup y.1 == some .local || scope.names.lookup y.1 == some .cell) = true)
    (h : ∀ s₁, InCallC s s.heap.objs.size (bindL (envOfC qual scope s.heap.objs.size f cdv).kindOf binds fun _ => none) (cellsFrom (s.heap.objs.size + 1) scope.names [])
        (bindC (envOfC qual scope s.heap.objs.size f cdv).kindOf binds fun _ => none) s₁ →
      wpAny (model prog w) (A.deeper (envOfC qual scope s.heap.objs.size f cdv)) (execs body (envOfC qual scope s.heap.objs.size f cdv))
        (fun fl s' => R (.ok (.ret (match fl with | .ret v => v | _ => .none))) s')
        (fun e s' => wpAny (model prog w) (A.deeper (envOfC qual scope s.heap.objs.size f cdv)) (leaving (envOfC qual scope s.heap.objs.size f cdv) e) (fun _ s'' => R (.error e) s'') (fun e' s'' => R (.error e') s'') s') s₁)
    (hco : scope.isCoroutine = false) (hgen : scope.isGenerator = false) (hk : scope.kind = .function) : codeAny (model prog w) A (.call (.ref f) args) R s := by
  refine codeAny_call_function hroom (X _ _ ho) rfl hco hgen rfl (codeRec_of X hcd) (hbind _ _ _ _ ?_)
  refine wpAny_newFunctionEnv_cells hk (kindsX hkind _) fun env he s₁ x => ?_
  subst he
  exact ⟨hlim.keeps x.toInCall.keep, codeAny_func (h s₁ x)⟩

/-- C(..): dict at size, instance at size + 1, then __init__ -/
theorem make_obj {R : Result → Shared → Prop} {C fI : Addr} {rest : List Value} {kw : List (Str × Value)}
    (X : K.In s.heap) (hm : makesIn K C = true) (hi : findIn K (.ref C) "__init__" = some (some (.ref fI))) (hf : isFn K (.ref fI) = true)
    (h : codeAny (model prog w) (A.under (.builtin "type.__call__" ⟨.ref C :: rest, kw⟩)) (.call (.ref fI) ⟨.ref (s.heap.objs.size + 1) :: rest, kw⟩) (InitBack (s.heap.objs.size + 1) R)
      { s with heap := (s.heap.push emptyDict).push (instObj C s.heap.objs.size) }) : codeAny (model prog w) A (.call (.ref C) ⟨rest, kw⟩) R s := by
  obtain ⟨hh, g, d, t, os⟩ := s
  exact make_core (makes_of X hm) (looks_findIn X hi) (fun self => bind_fn X self (beq_iff_eq.mp hf)) (.inl rfl) h

/-- x.name where the instance's dict holds the name and the class does not -/
theorem get_field {x C : Addr} {ox : Obj} {es : List DictEntry} {n : Nat} {name : Str} {expr : Bool} {v : Value} {Q : Value → Shared → Prop}
    (X : K.In s.heap) (I : PySem.W.InstAt s.heap x ox C (some (dictOf es n))) (hg : plainGet K C name = true) (hh : hasDictIn K C = true) (ha : findIn K (.ref C) name = some none)
    (hl : getL name es = some (some v)) (hv : handedIn v = true) (h : Q v { s with toks := s.toks + 1 }) : wpAny (model prog w) A (getAttr (.ref x) name expr) Q E s :=
  get_value X I (plainGet_of hg).1 (findObj_own hh ha rfl hl) hv h

/-- x.m(..): the method found in the class -/
theorem get_method {x C f : Addr} {ox : Obj} {es : List DictEntry} {n : Nat} {name : Str} {pl : Sem Bool} {Q : Value × List Value → Shared → Prop}
    (X : K.In s.heap) (I : PySem.W.InstAt s.heap x ox C (some (dictOf es n))) (hg : plainGet K C name = true) (hf : findIn K (.ref C) name = some (some (.ref f))) (ht : isFn K (.ref f) = true)
    (hl : getL name es = some none) (h : Q (.ref f, [.ref x]) s) : wpAny (model prog w) A (getMethod (.ref x) name pl) Q E s :=
  method_fn X I (plainGet_of hg).1 (plainGet_of hg).2 hf (beq_iff_eq.mp ht) (by show (lookIn name (dictOf es n)).map _ = _; rw [lookIn_dict, hl]; rfl) h

/-! the whole heap as the ledger: makes every rule that writes through a ledger a rule over any heap -/
def noObjs (h : Heap) : Heap := { h with objs := #[] }
theorem noObjs_get (h : Heap) (b : Addr) : (noObjs h).get? b = none := by
  cases e : (noObjs h).get? b with
  | none => rfl
  | some o => exact absurd (Heap.lt_size e) (Nat.not_lt_zero _)
def ledger (h : Heap) (L d : Addr) : List (Addr × Obj) := (List.range h.objs.size).filterMap fun a => if a = L ∨ a = d then none else (h.get? a).map fun o => (a, o)
theorem mem_ledger {h : Heap} {L d a : Addr} {o : Obj} : (a, o) ∈ ledger h L d ↔ a ≠ L ∧ a ≠ d ∧ h.get? a = some o := by
  unfold ledger
  rw [List.mem_filterMap]
  constructor
  · rintro ⟨b, _, e⟩
    split at e
    · cases e
    · rename_i hb
      obtain ⟨o', ho, e'⟩ := Option.map_eq_some_iff.mp e
      cases e'
      exact ⟨fun q => hb (.inl q), fun q => hb (.inr q), ho⟩
  · rintro ⟨n1, n2, ho⟩
    refine ⟨a, List.mem_range.mpr (Heap.lt_size ho), ?_⟩
    rw [if_neg (show ¬ (a = L ∨ a = d) from fun q => q.elim n1 n2), ho] <;> rfl
theorem news_ledger {h : Heap} {L d : Addr} {od : Obj} (hne : d ≠ L) (ho : h.get? d = some od) : News (noObjs h) L h ([] ++ (d, od) :: ledger h L d) := by
  rintro ⟨a, o⟩ hp
  rcases List.mem_cons.mp hp with e | hp
  · cases e
    exact ⟨ho, hne, noObjs_get _ _⟩
  · obtain ⟨n1, n2, e⟩ := mem_ledger.mp hp
    exact ⟨e, n1, noObjs_get _ _⟩
theorem fr_all {h : Heap} {L : Addr} {m : Str → Option Value} (n : h.Ns L m) : Fr (noObjs h) L h m :=
  ⟨n, fun b o e => (by rw [noObjs_get] at e; cases e), Nat.zero_le _⟩
/-- Upd of the head entry (for append_K, setItem_K ..) -/
theorem upd_ledger {h : Heap} {L d : Addr} {o o' : Obj} : Upd d o o' ((d, o) :: ledger h L d) ((d, o') :: ledger h L d) :=
  .head fun ⟨_, _⟩ hp => (mem_ledger.mp hp).2.1

/-- x.name = v over any heap: L is any namespace of the heap (the frame's, say): its map stays, its object is not told; all else but the dict stays -/
theorem set_field {x C dx L : Addr} {ox : Obj} {m : Str → Option Value} {es es' : List DictEntry} {n n' : Nat} {name : Str} {v : Value} {Q : Unit → Shared → Prop}
    (X : K.In s.heap) (I : PySem.W.InstAt s.heap x ox C (some (dictOf es n))) (hd : ox.dict = some dx) (hL : s.heap.Ns L m) (hne : dx ≠ L)
    (hs : findIn K (.ref C) "__setattr__" = some (some (.builtin "object.__setattr__"))) (hp : plainOver K C = true) (ht : takerIn K C name = some none) (hh : hasDictIn K C = true) (hl : (getL name es).isSome = true)
    (e : (putL name (PyData.keyHash w.params name) (.str name (s.toks + 1)) v es, putN name es n) = (es', n')) (hz : es'.length ≤ 1000)
    (h : ∀ h' : Heap, h'.Ns L m → h'.get? dx = some (dictOf es' n') → (∀ b o, b ≠ dx → b ≠ L → s.heap.get? b = some o → h'.get? b = some o) → Q () { s with heap := h', toks := s.toks + 2 }) :
    wpAny (model prog w) A (setAttr (.ref x) name v) Q E s := by
  obtain ⟨e1, e2⟩ := Prod.mk.inj e
  have hdx : s.heap.get? dx = some (dictOf es n) := by
    have := I.dict
    rw [hd] at this
    exact this
  refine set_plain X I hs (osa_dict (s := { s with toks := s.toks + 1 }) (h₀ := noObjs s.heap) (L := L) (m := m) (od := dictOf es n) (od' := dictOf es' n') (es := es') (n := n') (pre := []) (post := ledger s.heap L dx)
    (fr_all hL) (news_ledger hne hdx) X I hd hp ht hh hl (fun _ q => nomatch q) (fun ⟨_, _⟩ q => (mem_ledger.mp q).2.1) (by rw [putName_dict, e1, e2]) rfl hz fun h' F' N' => ?_)
  exact h h' F'.ns (N'.get (List.Mem.head _)) fun b o n1 n2 ho => N'.get (List.Mem.tail _ (mem_ledger.mpr ⟨n2, n1, ho⟩))
end
end Att

namespace L2
open PySem PySem.Spec PyProof.Rows

theorem vals_ints : ∀ {vs : List Value} {ns : List Int}, IntsAre vs ns → Vals (ns.map V.int) vs
  | _, _, .nil => .nil
  | _, _, .cons n t h => .cons ⟨t, rfl⟩ (vals_ints h)

/-- nothing is tracked but the script, known to the object (or it is an object of the module) -/
def Only (H : Hp) : Prop := ∀ b, H b = none ∨ ∃ o xs, H b = some (.frz o (.lst xs))

/-- THE HEAD: the law's promise, at the heap behind the top. F, the promise of the law's def, may use that base is part of the heap (so K.In base, base.Ns mainGlobals mg stand in Mod) -/
theorem law_call {P : Program} {w : World} {K : PySem.W.Frag} {mg mb : Str → Option Value} {CX : CXT} {k : Nat} {fa a : Addr} {fd : FuncData} {x : Str} {sp : Sp} {s₁ : Shared} {vs : List Value} {ns : List Int}
    (KX : K.In s₁.heap) (hns : s₁.heap.Ns mainGlobals mg) (hb : s₁.heap.Ns builtinsNs mb) (hbb : ∀ x : Str, x ≠ "__name__" → mb x = bootBuiltins x) (hlim : s₁.heap.NoLimit) (hg : s₁.gens = #[])
    (ha : s₁.heap.get? a = some { cls := .type "list", data := .seq vs.toArray }) (hi : IntsAre vs ns) (hl : ns.length ≤ sizeLine) (hr : Room k callerA)
    (F : ∀ base : Heap, K.In base → base.Ns mainGlobals mg → FnOk P w K mg base CX k fa fd [x] sp) (hbind : ∀ (s : Shared) (u : Value), BindsTo s fd ⟨[u], []⟩ [(x, u)])
    (hsp : ∀ H : Hp, Only H → SqL K H a (ns.map V.int) → sp [.ref a] H (fun v _ => v = .bl true) fun _ _ _ => False)
    (hCX : ∀ H e s', CX [] H s₁ (fun _ _ _ => False) e s' → False) :
    codeAny (model P w) callerA (.call (.ref fa) ⟨[.ref a], []⟩) (fun r s' => r = .ok (.ret (.bool true)) ∧ OldK s₁.heap s'.heap ∧ s'.os = s₁.os ∧ AllBare s'.gens) s₁ := by
  have rv := vals_ints hi
  have lenV := hi.length
  -- from an abstract heap in which nothing but the script may be tracked
  have core : ∀ H : Hp, Only H → SqL K H a (ns.map V.int) → HOk P w H s₁.heap → (∀ b, H b ≠ none → b = a) → (H a ≠ none → K.lookup a = none) →
      codeAny (model P w) callerA (.call (.ref fa) ⟨[.ref a], []⟩) (fun r s' => r = .ok (.ret (.bool true)) ∧ OldK s₁.heap s'.heap ∧ s'.os = s₁.os ∧ AllBare s'.gens) s₁ := by
    intro H hO hS hok hA hK
    have base_of : ∀ {b : Addr} {o : Obj}, s₁.heap.get? b = some o → H b = none → (hidT s₁.heap H).get? b = some o := fun e n => hidT_get e n
    have noA : ∀ {b : Addr} {o : Obj} {es : Array DictEntry} {ep : Nat}, s₁.heap.get? b = some o → o.data = .dict es ep → H b = none := fun {b o es ep} e d => by
      cases q : H b with
      | none => rfl
      | some u =>
        have e' : b = a := hA b (by rw [q]; simp)
        subst e'
        rw [ha] at e; cases e
        have d' : Data.seq vs.toArray _ = Data.dict es ep := d
        cases d'
    have nsK : ∀ {b : Addr} {m : Str → Option Value}, s₁.heap.Ns b m → (hidT s₁.heap H).Ns b m := fun {b m} ⟨o, es, ep, e, d, r⟩ => ⟨o, es, ep, base_of e (noA e d), d, r⟩
    have hKb : K.In (hidT s₁.heap H) := fun b o e => base_of (KX b o e) (by
      cases q : H b with
      | none => rfl
      | some u =>
        have e' : b = a := hA b (by rw [q]; simp)
        subst e'
        rw [hK (by rw [q]; simp)] at e; cases e)
    have hM : Mod K mg (hidT s₁.heap H) := ⟨hKb, nsK hns, ⟨mb, nsK hb, hbb⟩, let ⟨mc, h1, h2⟩ := hlim; ⟨mc, nsK h1, h2⟩⟩
    have e0 : Env0 P w K mg (hidT s₁.heap H) callerA [] s₁ H := ⟨rfl, hM, fun b o e => of_hidT e, Nat.le_of_eq (hidT_size _ _), trivial, fun b hb => absurd (show b ∈ ([] : List Addr) from hb) (by simp), hok, .of_eq hg⟩
    refine codeAny_mono ((F _ hKb (nsK hns)).run callerA [] s₁ H ⟨[.ref a], []⟩ [.ref a] [.ref a] _ _ hr e0 (hbind s₁ (.ref a)) (.cons rfl .nil) (hsp H hO hS)) fun r s' h => ?_
    cases r with
    | error e => exact (hCX H e s' h).elim
    | ok fl =>
      cases fl with
      | next => exact False.elim h
      | brk => exact False.elim h
      | cont => exact False.elim h
      | ret u =>
        obtain ⟨v, H', os, bare, un, hok', r', q⟩ := h
        have q' : v = .bl true := q
        subst q'
        obtain rfl : u = Value.bool true := r'
        refine ⟨rfl, OldK.of_keep fun b o e => ?_, os, bare⟩
        cases q : H b with
        | none => exact un.keep b o e q (by intro z; exact absurd (show b ∈ ([] : List Addr) from z) (by simp)) (by simp)
        | some u =>
          rcases hO b with z | ⟨ob, xs, z⟩
          · rw [q] at z; cases z
          · have z2 := un.frzs b ob _ z
            obtain ⟨e1, _⟩ := hok b _ z
            obtain ⟨e2, _⟩ := hok' b _ z2
            rw [e] at e1; cases e1
            exact e2
  cases hk : K.lookup a with
  | some o =>
    -- the script is one of the module's own objects
    have e := KX a o hk
    rw [ha] at e
    cases e
    refine core (fun _ => none) (fun _ => .inl rfl) (.inr ⟨_, vs.toArray, _, hk, rfl, rfl, rfl, by rw [List.size_toArray, lenV]; exact hl, by simpa using rv⟩) (fun b u z => by have z' : (none : Option HO) = some u := z; cases z') (fun b z => absurd rfl z) fun z => absurd rfl z
  | none =>
    refine core (fun b => if b = a then some (.frz { cls := .type "list", data := .seq vs.toArray } (.lst (ns.map V.int))) else none) (fun b => ?_) (.inl (.inr ⟨{ cls := .type "list", data := .seq vs.toArray }, if_pos rfl⟩)) (fun b u z => ?_) (fun b z => ?_) fun _ => hk
    · by_cases hb : b = a
      · exact .inr ⟨_, _, if_pos hb⟩
      · exact .inl (if_neg hb)
    · by_cases hb : b = a
      · have z' := (if_pos hb).symm.trans z
        cases z'
        subst hb
        exact ⟨ha, by rw [List.length_map]; exact hl, vs, _, rv, ha⟩
      · have z' := (if_neg hb).symm.trans z
        cases z'
    · by_cases hb : b = a
      · exact hb
      · exact absurd (if_neg hb) z
end L2

namespace L2
open PySem PySem.Spec PyProof.Rows

abbrev KOf {K : PySem.W.Frag} {h : Heap} (_ : K.In h) : PySem.W.Frag := K

/-- the goal that k_head leaves (case hc), from the law's promise. F gives the function object fd (K's own) once, then the promise over every base -/
theorem walk_of {l : PySem.W.OpenLaw} {n k : Nat} {q : Program} {loose : List Str} {XP : (Str → Option Value) → Heap → Prop} {YP : World → Heap → Prop} {d : DefRec} {K : Params → PySem.W.Frag} {CX : World → CXT} {sp : World → Sp} {x : Str}
    (hn : l.most = some n) (hn2 : n ≤ sizeLine) (hdf : d.params.defaults = []) (hr : Room k callerA)
    (hY : ∀ (w : World) (h : Heap), YP w h → (K w.params).In h)
    (F : ∀ (w : World) (mg : Str → Option Value) (fa : Addr) (h : Heap), (K w.params).In h → h.Ns mainGlobals mg → mg d.name = some (.ref fa) →
      ∃ fd : FuncData, (∀ (s : Shared) (u : Value), BindsTo s fd ⟨[u], []⟩ [(x, u)]) ∧
        ∀ base : Heap, (K w.params).In base → base.Ns mainGlobals mg → FnOk l.prog w (K w.params) mg base (CX w) k fa fd [x] (sp w))
    (hsp : ∀ (w : World) (H : Hp) (a : Addr) (ns : List Int), ns.length ≤ n → Only H → SqL (K w.params) H a (ns.map V.int) → sp w [.ref a] H (fun v _ => v = .bl true) fun _ _ _ => False)
    (hCX : ∀ (w : World) (H : Hp) (s : Shared) (e : Value) (s' : Shared), CX w [] H s (fun _ _ _ => False) e s' → False) :
    PySem.W.WalkO q loose XP YP l.row.toRowW d [] (fun f vs => PySem.call f vs) := by
  refine Att.attach_call hn hdf fun w s₀ s₁ mg mb fa o pm cd doc a vs ns G Y ho hd hcd hmg hobj hints hlen hg => ?_
  have KX := hY w _ Y
  obtain ⟨fd, hb, hF⟩ := F w mg fa _ KX G.T.g hmg
  exact law_call KX G.T.g G.T.b G.T.builtins G.T.nolimit hg hobj hints (Nat.le_trans hlen hn2) hr hF hb (fun H hO hS => hsp w H a ns hlen hO hS) fun H e s' => hCX w H s₁ e s'
/-- the same where the promise hangs on the written part alone: (sp := My.sp_law), no hole under a binder -/
theorem walk_ofK {l : PySem.W.OpenLaw} {n k : Nat} {q : Program} {loose : List Str} {XP : (Str → Option Value) → Heap → Prop} {YP : World → Heap → Prop} {d : DefRec} {K : Params → PySem.W.Frag} {CX : CXT} {sp : PySem.W.Frag → Sp} {x : Str}
    (hn : l.most = some n) (hn2 : n ≤ sizeLine) (hdf : d.params.defaults = []) (hr : Room k callerA)
    (hY : ∀ (w : World) (h : Heap), YP w h → (K w.params).In h)
    (F : ∀ (w : World) (mg : Str → Option Value) (fa : Addr) (h : Heap), (K w.params).In h → h.Ns mainGlobals mg → mg d.name = some (.ref fa) →
      ∃ fd : FuncData, (∀ (s : Shared) (u : Value), BindsTo s fd ⟨[u], []⟩ [(x, u)]) ∧
        ∀ base : Heap, (K w.params).In base → base.Ns mainGlobals mg → FnOk l.prog w (K w.params) mg base CX k fa fd [x] (sp (K w.params)))
    (hsp : ∀ (K : PySem.W.Frag) (H : Hp) (a : Addr) (ns : List Int), ns.length ≤ n → Only H → SqL K H a (ns.map V.int) → sp K [.ref a] H (fun v _ => v = .bl true) fun _ _ _ => False)
    (hCX : ∀ (H : Hp) (s : Shared) (e : Value) (s' : Shared), CX [] H s (fun _ _ _ => False) e s' → False) :
    PySem.W.WalkO q loose XP YP l.row.toRowW d [] (fun f vs => PySem.call f vs) :=
  walk_of (K := K) (CX := fun _ => CX) (sp := fun w => sp (K w.params)) hn hn2 hdf hr hY F (fun w H a ns h1 h2 h3 => hsp (K w.params) H a ns h1 h2 h3) fun _ H s e s' => hCX H s e s'
end L2

/- THE LAST THEOREM (shape; LID, My.* are yours):
   My.Adr: a structure of the addresses that your layer names (classes, functions); My.Txt K t: a structure (Prop) of the equations over K;
   My.txt_mk : {K} {implicit addresses ..} (e1 : nsIn K mainGlobals "law" = some (some (.ref f))) (e2 : K.lookup f = some ⟨oc, od, .func (fnOf "law" "law" params body scope dV kV doc pm an cdv ct), sl⟩) (e3 : codeIn K cdv "law" = true) .. : ∃ t, My.Txt K t

set_option maxRecDepth 100000 in
set_option maxHeartbeats 0 in
theorem PySem.Challenge.cw_LID_holds : PySem.Challenge.rw_LID.Holds := by
  w_on; o_law; k_head; (case hw => w_witness2)
  k_fill
  refine L2.walk_of (l := PySem.Challenge.rw_LID) (n := 63) (k := 40) (x := "script") (CX := fun w => ..) (sp := fun _ => My.sp_law) rfl (by decide) rfl ⟨rfl, by decide, by decide⟩ (fun w h Y => PySem.W.kIn_of Y) ?F ?S ?C
  case F =>
    intro w mg fa h KX G hmg
    have T : ∃ t, My.Txt (L2.KOf KX) t := by
      dsimp only [L2.KOf]                          -- K must stand as «<heap const> w.params» for k_is
      refine' My.txt_mk ?e1 ?e2 ?e3 ..
      (case e1 => PySem.W.k_is)                    -- in the order: a name -> its address -> its object -> its parts
      (case e2 => PySem.W.k_is)
      ..
    obtain ⟨t, T⟩ := T
    have e0 := hmg.symm.trans (PySem.W.mg_of KX G T.law)
    cases e0                                       -- fa is the law's own address
    exact ⟨_, fun s u => .of_eq rfl, fun base kb nb => My.law_fn T kb nb⟩     -- if «.of_eq rfl» comes too early: refine' ⟨_, ?b, fun base kb nb => My.law_fn T kb nb⟩; exact fun s u => .of_eq rfl
  case S => exact fun w H a ns hl hO hS => ..
  case C => exact ..
(the tactic k_is has no namespace: write k_is) -/

/-! SHORT WORDS over the layer: a def of the text, its body, what a loop and a test want. -/
namespace L2
open PySem PySem.Spec PyProof.Rows

/-! ### the text by places -/
/-- the j-th statement of a class's body -/
def inClass (s : Stmt) (j : Nat) : Stmt := match s with
  | .ClassDef _ _ _ body _ _ _ _ _ _ _ => body.getD j (.Pass ⟨0, 0, 0, 0⟩)
  | _ => .Pass ⟨0, 0, 0, 0⟩
def defArgs (s : Stmt) : Arguments := match s with
  | .FunctionDef _ a _ _ _ _ _ _ _ _ => a
  | _ => { posonlyargs := [], args := [], vararg := none, kwonlyargs := [], kw_defaults := [], kwarg := none, defaults := [] }
def defBody (s : Stmt) : List Stmt := match s with
  | .FunctionDef _ _ b _ _ _ _ _ _ _ => b
  | _ => []
def defScope (s : Stmt) : Scope := match s with
  | .FunctionDef _ _ _ _ _ _ sc _ _ _ => sc
  | _ => { kind := .function, names := [], isGenerator := false, isCoroutine := false }

/-! ### no exception leaves a def -/
abbrev CX0 : CXT := fun _ _ _ _ _ _ => False
abbrev E0 : XK := fun _ _ _ => False
theorem pass0 {X : Cx} : Passes CX0 X E0 := fun _ _ _ _ _ _ _ h => h.elim

/-! ### a def (or method) of the text as it stands behind the top -/
structure Fun (K : PySem.W.Frag) (x qual : Str) (st : Stmt) (f : Addr) (fd : FuncData) : Prop where
  ex : ∃ (oc : Value) (od : Option Addr) (kV doc pm : Value) (an : Option Addr) (cdv ct : Value) (osl : Array (Option Value)),
    fd = PySem.W.fnOf x qual (defArgs st) (defBody st) (defScope st) .none kV doc pm an cdv ct ∧ K.lookup f = some ⟨oc, od, .func fd, osl⟩ ∧ PySem.W.codeIn K cdv qual = true
  kp : PySem.W.keepIn K (.ref f) = true
section
variable {P : Program} {w : World} {K : PySem.W.Frag} {mg : Str → Option Value} {base : Heap}
/-- THE RULE for a def: its body as a term of rules, and the reading of that term -/
theorem Fun.ok {x qual : Str} {st : Stmt} {f : Addr} {fd : FuncData} {N ps : List Str} {k : Nat} {sp : Sp} (F : Fun K x qual st f fd) (S : FnScope N ps (defScope st)) (len : ∀ vs H Q E, sp vs H Q E → vs.length = ps.length)
    (hbody : ∀ (cdv : Value) (A : Around) (outer : List Env) (s : Shared) (H : Hp) (vs : List V) (Q : VK) (E : XK), Room k (A.deeper (envOfC qual (defScope st) s.heap.objs.size f cdv)) → sp vs H Q E →
      ∃ t, PSs (cxOf CX0 P w K mg base N qual (defScope st) f cdv A outer s H E).nox (defBody st) t ∧ t { nx := fun _ H' => Q .non H', rt := Q } (start N vs) H) : FnOk P w K mg base CX0 (k + 1) f fd ps sp := by
  obtain ⟨oc, od, kV, doc, pm, an, cdv, ct, osl, rfl, lk, hcd⟩ := F.ex
  refine fn_of lk hcd S len fun A outer s H vs Q E hr hsp => ?_
  obtain ⟨t, h, q⟩ := hbody cdv A outer s H vs Q E hr hsp
  exact ⟨t, h.nox, q⟩
/-- how its arguments bind (no defaults): h is «fun _ _ _ _ _ _ us hl => match us, hl with | [_, _], _ => rfl», one _ a parameter -/
theorem Fun.binds {x qual : Str} {st : Stmt} {f : Addr} {fd : FuncData} {ps : List Str} (F : Fun K x qual st f fd)
    (h : ∀ (kV doc pm : Value) (an : Option Addr) (cdv ct : Value) (us : List Value), us.length = ps.length → bindArgs (PySem.W.fnOf x qual (defArgs st) (defBody st) (defScope st) .none kV doc pm an cdv ct) ⟨us, []⟩ = pure (ps.zip us)) : Binds K fd ps [] := by
  obtain ⟨oc, od, kV, doc, pm, an, cdv, ct, osl, rfl, lk, hcd⟩ := F.ex
  exact .all (h kV doc pm an cdv ct)
theorem fun_mk {x qual : Str} {st : Stmt} {f : Addr} {oc : Value} {od an : Option Addr} {osl : Array (Option Value)} {kV doc pm cdv ct : Value} (l : K.lookup f = some ⟨oc, od, .func (PySem.W.fnOf x qual (defArgs st) (defBody st) (defScope st) .none kV doc pm an cdv ct), osl⟩)
    (c : PySem.W.codeIn K cdv qual = true) (k : PySem.W.keepIn K (.ref f) = true) : Fun K x qual st f (PySem.W.fnOf x qual (defArgs st) (defBody st) (defScope st) .none kV doc pm an cdv ct) := ⟨⟨oc, od, kV, doc, pm, an, cdv, ct, osl, rfl, l, c⟩, k⟩
end
theorem hu_of {A : Around} {k : Nat} (hr : Room k A) : A.units + 1 < cLine := Nat.lt_of_le_of_lt (Nat.add_le_add_left (by decide : 1 ≤ 64) _) hr.units
theorem small1000 {n : Nat} (h : n ≤ 1000) : n < sizeLine := Nat.lt_of_le_of_lt h (by decide)

/-! ### expressions in short: the name that stands in the i-th slot -/
section
variable {X : Cx}
theorem pv (i : Nat) {x : Str} {pos : Pos} (hN : X.N[i]? = some x := by rfl) (hv : Vis X.env.scope x := by first | exact Or.inl rfl | exact Or.inr (Or.inl rfl) | exact Or.inr (Or.inr rfl)) (hd : (x == ("__debug__" : Str)) = false := by decide)
    (hcd : (x == ("__classdict__" : Str)) = false := by decide) : PE X (.Name x pos) (tVar i) := pe_var hN hv hd hcd
end

/-! ### tests -/
theorem iteF {A B : Prop} (h : B) : if false = true then A else B := by
  rw [if_neg Bool.false_ne_true]
  exact h
theorem iteT {A B : Prop} (h : A) : if true = true then A else B := by
  rw [if_pos rfl]
  exact h
theorem ite2 {c A B : Prop} [Decidable c] (h1 : c → A) (h2 : ¬ c → B) : if c then A else B := by
  by_cases h : c
  · rw [if_pos h]
    exact h1 h
  · rw [if_neg h]
    exact h2 h
theorem iteNS {c A B : Prop} [Decidable c] (hc : c) (h : B) : if (!decide c) = true then A else B := by
  rw [decide_eq_true hc]
  exact iteF h

/-! ### heaps -/
/-- all that was tracked is as it was -/
def Same (H H' : Hp) : Prop := ∀ b o, H b = some o → H' b = some o
theorem Same.refl (H : Hp) : Same H H := fun _ _ h => h
theorem Same.trans {H H1 H2 : Hp} (a : Same H H1) (b : Same H1 H2) : Same H H2 := fun c o h => b c o (a c o h)
theorem Same.free {H H' : Hp} (e : Same H H') {l : Addr} (h : H' l = Option.none) : H l = Option.none := by
  cases q : H l with
  | none => rfl
  | some o =>
    rw [e l o q] at h
    cases h
theorem Same.seq {K : PySem.W.Frag} {H H' : Hp} {a : Addr} {xs : List V} (e : Same H H') (h : SqL K H a xs) : SqL K H' a xs := by
  rcases h with (h | ⟨o, h⟩) | h
  · exact .inl (.inl (e _ _ h))
  · exact .inl (.inr ⟨o, e _ _ h⟩)
  · exact .inr h

end L2

end

section
/-! set tables: the probe finds what was laid -/
namespace L2.ST
open PySem PySem.SetTable

/-! ### below: binary search in a rising array -/
abbrev Rising (xs : Array Nat) : Prop := xs.toList.Pairwise (· < ·)

theorem rising_getD {xs : Array Nat} (h : Rising xs) {i k d : Nat} (hik : i < k) (hk : k < xs.size) : xs.getD i d < xs.getD k d := by
  have hi : i < xs.size := Nat.lt_trans hik hk
  have := List.pairwise_iff_getElem.mp h i k (by simpa using hi) (by simpa using hk) hik
  simpa [Array.getD, hi, hk] using this

theorem below_go {xs : Array Nat} {j : Nat} (h : Rising xs) : ∀ (fuel lo hi : Nat), lo ≤ hi → hi ≤ xs.size → hi - lo ≤ fuel →
    (∀ i, i < lo → xs.getD i j < j) → (∀ i, hi ≤ i → i < xs.size → j ≤ xs.getD i j) →
    below.go xs j fuel lo hi ≤ xs.size ∧ (∀ i, i < below.go xs j fuel lo hi → xs.getD i j < j) ∧ (∀ i, below.go xs j fuel lo hi ≤ i → i < xs.size → j ≤ xs.getD i j) := by
  intro fuel
  induction fuel with
  | zero =>
    intro lo hi h1 h2 h3 h4 h5
    have : lo = hi := by omega
    subst this
    exact ⟨h2, h4, h5⟩
  | succ fuel ih =>
    intro lo hi h1 h2 h3 h4 h5
    unfold below.go
    by_cases hlt : lo < hi
    · rw [if_pos hlt]
      dsimp only
      by_cases hm : xs.getD ((lo + hi) / 2) j < j
      · rw [if_pos hm]
        refine ih _ _ (by omega) h2 (by omega) (fun i hi' => ?_) h5
        by_cases e : i = (lo + hi) / 2
        · rw [e]; exact hm
        · exact Nat.lt_trans (rising_getD h (show i < (lo + hi) / 2 by omega) (by omega)) hm
      · rw [if_neg hm]
        refine ih _ _ (by omega) (by omega) (by omega) h4 (fun i hi' hs => ?_)
        by_cases e : i = (lo + hi) / 2
        · rw [e]; omega
        · have := rising_getD (d := j) h (show (lo + hi) / 2 < i by omega) hs
          omega
    · rw [if_neg hlt]
      have : lo = hi := by omega
      subst this
      exact ⟨h2, h4, h5⟩

theorem below_spec {xs : Array Nat} (h : Rising xs) (j : Nat) :
    below xs j ≤ xs.size ∧ (∀ i, i < below xs j → xs.getD i j < j) ∧ (∀ i, below xs j ≤ i → i < xs.size → j ≤ xs.getD i j) :=
  below_go h xs.size 0 xs.size (Nat.zero_le _) (Nat.le_refl _) (by omega) (fun i hi => by omega) (fun i h1 h2 => by omega)

theorem below_mem {xs : Array Nat} (h : Rising xs) {i j : Nat} (hi : xs[i]? = some j) : below xs j = i := by
  obtain ⟨b1, b2, b3⟩ := below_spec h j
  have hs : i < xs.size := (Array.getElem?_eq_some_iff.mp hi).1
  have hv : xs.getD i j = j := by rw [Array.getD_eq_getD_getElem?, hi]; rfl
  rcases Nat.lt_trichotomy i (below xs j) with c | c | c
  · have := b2 i c; omega
  · exact c.symm
  · have hb : below xs j < xs.size := by omega
    have q := b3 (below xs j) (Nat.le_refl _) hb
    have := rising_getD (d := j) h c hs
    omega

theorem below_at {xs : Array Nat} (h : Rising xs) (j : Nat) : (xs[below xs j]? = some j) ∨ j ∉ xs := by
  by_cases hm : j ∈ xs
  · obtain ⟨i, hi, e⟩ := Array.mem_iff_getElem.mp hm
    have q : xs[i]? = some j := by rw [Array.getElem?_eq_getElem hi, e]
    left
    rw [below_mem h q]; exact q
  · exact .inr hm

/-! ### slots -/
theorem has_nil (j : Nat) : has #[] j = false := by
  unfold has
  simp

theorem slot_live {t : SetTable} (h : Rising t.place) {i j : Nat} (hi : t.place[i]? = some j) : t.slot j = .live i := by
  unfold slot
  dsimp only
  rw [below_mem h hi, if_pos (by simp [hi])]

theorem slot_empty {t : SetTable} (hd : t.dummies = #[]) {j : Nat} (hj : j ∉ t.place) : t.slot j = .empty := by
  unfold slot
  dsimp only
  have : ¬ (t.place[below t.place j]? == some j) = true := by
    intro e
    have e' : t.place[below t.place j]? = some j := by simpa using e
    obtain ⟨h1, h2⟩ := Array.getElem?_eq_some_iff.mp e'
    exact hj (Array.mem_iff_getElem.mpr ⟨_, h1, h2⟩)
  rw [if_neg this, hd, has_nil]
  rfl

/-! ### the walk of a probe, by the mask alone -/
def adv (mask : Nat) (p : Probe) : Probe :=
  if p.more > 0 then { p with j := p.j + 1, more := p.more - 1 } else
  { p with j := (leap mask p.i p.perturb).1, more := runEnd mask (leap mask p.i p.perturb).1 - (leap mask p.i p.perturb).1, i := (leap mask p.i p.perturb).1, perturb := (leap mask p.i p.perturb).2 }
def at0 (mask i perturb : Nat) : Probe := { j := i, more := runEnd mask i - i, i, perturb, dummy := none }
def st (mask : Nat) (h : Int) : Probe := at0 mask (bits h % (mask + 1)) (bits h)
theorem adv_eq (t : SetTable) (p : Probe) : t.advance p = adv t.mask p := rfl
theorem st_eq (t : SetTable) (h : Int) : t.probeStart h = st t.mask h := rfl
def advN (mask : Nat) : Nat → Probe → Probe
  | 0, p => p
  | n + 1, p => advN mask n (adv mask p)
theorem advN_add (mask : Nat) : ∀ (n m : Nat) (p : Probe), advN mask (n + m) p = advN mask m (advN mask n p)
  | 0, m, p => by rw [Nat.zero_add]; rfl
  | n + 1, m, p => by rw [Nat.add_right_comm]; exact advN_add mask n m (adv mask p)
theorem adv_dummy (mask : Nat) (p : Probe) (d : Option Nat) : adv mask { p with dummy := d } = { adv mask p with dummy := d } := by
  unfold adv
  by_cases h : p.more > 0
  · simp [h]
  · simp [h]
theorem adv_none {mask : Nat} {p : Probe} (h : p.dummy = none) : (adv mask p).dummy = none := by
  unfold adv; split <;> exact h
theorem advN_none {mask : Nat} : ∀ (n : Nat) {p : Probe}, p.dummy = none → (advN mask n p).dummy = none
  | 0, _, h => h
  | n + 1, _, h => advN_none n (adv_none h)

theorem runEnd_le {mask i : Nat} (h : i ≤ mask) : i ≤ runEnd mask i ∧ runEnd mask i ≤ mask ∧ runEnd mask i - i ≤ 9 := by
  unfold runEnd; split <;> omega
/-- within the table -/
def In (mask : Nat) (p : Probe) : Prop := p.j + p.more ≤ mask ∧ p.more ≤ 9
theorem at0_in {mask i q : Nat} (h : i ≤ mask) : In mask (at0 mask i q) := by
  have := runEnd_le h
  unfold In at0; dsimp only; omega
theorem leap_le (mask i q : Nat) : (leap mask i q).1 ≤ mask := by
  unfold leap; exact Nat.lt_succ_iff.mp (Nat.mod_lt _ (Nat.succ_pos _))
theorem adv_in {mask : Nat} {p : Probe} (h : In mask p) : In mask (adv mask p) := by
  unfold adv
  by_cases hm : p.more > 0
  · rw [if_pos hm]; unfold In at *; dsimp only; omega
  · rw [if_neg hm]
    have := runEnd_le (leap_le mask p.i p.perturb)
    unfold In; dsimp only; omega
theorem advN_in {mask : Nat} : ∀ (n : Nat) {p : Probe}, In mask p → In mask (advN mask n p)
  | 0, _, h => h
  | n + 1, _, h => advN_in n (adv_in h)
theorem st_in (mask : Nat) (h : Int) : In mask (st mask h) := at0_in (Nat.lt_succ_iff.mp (Nat.mod_lt _ (Nat.succ_pos _)))

/-- a whole run is walked, then the leap -/
theorem advN_run (mask : Nat) : ∀ (k : Nat) (p : Probe), p.more = k → advN mask (k + 1) p = { p with j := (leap mask p.i p.perturb).1, more := runEnd mask (leap mask p.i p.perturb).1 - (leap mask p.i p.perturb).1, i := (leap mask p.i p.perturb).1, perturb := (leap mask p.i p.perturb).2 }
  | 0, p, h => by
    show adv mask p = _
    unfold adv
    rw [if_neg (by omega)]
  | k + 1, p, h => by
    have e : adv mask p = { p with j := p.j + 1, more := p.more - 1 } := by unfold adv; rw [if_pos (by omega)]
    show advN mask (k + 1) (adv mask p) = _
    rw [e, advN_run mask k _ (by dsimp only; omega)]
theorem advN_leap (mask i q : Nat) : advN mask (runEnd mask i - i + 1) (at0 mask i q) = at0 mask (leap mask i q).1 (leap mask i q).2 := by
  exact advN_run mask _ (at0 mask i q) rfl

theorem advN_inrun (mask i q : Nat) : ∀ (k : Nat), k ≤ runEnd mask i - i → (advN mask k (at0 mask i q)) = { at0 mask i q with j := i + k, more := runEnd mask i - i - k }
  | 0, _ => rfl
  | k + 1, h => by
    rw [advN_add mask k 1, advN_inrun mask i q k (by omega)]
    show adv mask _ = _
    unfold adv
    rw [if_pos (by dsimp only; omega)]
    simp only [Probe.mk.injEq]
    refine ⟨by omega, by omega, ?_⟩
    trivial

/-- after k leaps -/
def leapN (mask : Nat) : Nat → Nat × Nat → Nat × Nat
  | 0, x => x
  | k + 1, x => leapN mask k (leap mask x.1 x.2)
theorem reach_leaps (mask : Nat) : ∀ (k i q : Nat), i ≤ mask → ∃ n, n ≤ 10 * k ∧ advN mask n (at0 mask i q) = at0 mask (leapN mask k (i, q)).1 (leapN mask k (i, q)).2
  | 0, i, q, _ => ⟨0, Nat.le_refl _, rfl⟩
  | k + 1, i, q, h => by
    obtain ⟨n, hn, e⟩ := reach_leaps mask k (leap mask i q).1 (leap mask i q).2 (leap_le _ _ _)
    have := runEnd_le h
    refine ⟨(runEnd mask i - i + 1) + n, by omega, ?_⟩
    rw [advN_add, advN_leap, e]
    rfl
theorem leapN_add (mask : Nat) : ∀ (a b : Nat) (x : Nat × Nat), leapN mask (a + b) x = leapN mask b (leapN mask a x)
  | 0, b, x => by rw [Nat.zero_add]; rfl
  | a + 1, b, x => by rw [Nat.add_right_comm]; exact leapN_add mask a b (leap mask x.1 x.2)
theorem leapN_le (mask : Nat) : ∀ (k : Nat) (x : Nat × Nat), x.1 ≤ mask → (leapN mask k x).1 ≤ mask
  | 0, _, h => h
  | k + 1, x, _ => leapN_le mask k _ (leap_le mask x.1 x.2)
theorem leapN_perturb (mask : Nat) : ∀ (k : Nat) (x : Nat × Nat), (leapN mask k x).2 = x.2 / 32 ^ k
  | 0, x => by simp [leapN]
  | k + 1, x => by
    show (leapN mask k (leap mask x.1 x.2)).2 = _
    rw [leapN_perturb mask k, Nat.pow_succ, Nat.mul_comm, ← Nat.div_div_eq_div_mul]
    rfl
/-- the plain leap -/
def nx (mask i : Nat) : Nat := (i * 5 + 1) % (mask + 1)
def nxN (mask : Nat) : Nat → Nat → Nat
  | 0, i => i
  | k + 1, i => nxN mask k (nx mask i)
theorem nxN_add (mask : Nat) : ∀ (a b i : Nat), nxN mask (a + b) i = nxN mask b (nxN mask a i)
  | 0, b, i => by rw [Nat.zero_add]; rfl
  | a + 1, b, i => by rw [Nat.add_right_comm]; exact nxN_add mask a b (nx mask i)
theorem leapN_zero (mask : Nat) : ∀ (k i : Nat), leapN mask k (i, 0) = (nxN mask k i, 0)
  | 0, _ => rfl
  | k + 1, i => by
    show leapN mask k (leap mask i 0) = _
    have : leap mask i 0 = (nx mask i, 0) := by simp [leap, nx]
    rw [this, leapN_zero mask k]
    rfl
/-- the masks that are met -/
def Mk3 (mask : Nat) : Prop := mask = 7 ∨ mask = 31 ∨ mask = 127
theorem orbit (mask : Nat) (hm : Mk3 mask) : nxN mask (mask + 1) 0 = 0 ∧ ∀ j, j ≤ mask → ∃ k, k ≤ mask ∧ nxN mask k 0 = j := by
  have h7 : ∀ j : Nat, j < 8 → ∃ k, k < 8 ∧ nxN 7 k 0 = j := by decide +kernel
  have h31 : ∀ j : Nat, j < 32 → ∃ k, k < 32 ∧ nxN 31 k 0 = j := by decide +kernel
  have h127 : ∀ j : Nat, j < 128 → ∃ k, k < 128 ∧ nxN 127 k 0 = j := by decide +kernel
  rcases hm with rfl | rfl | rfl
  · exact ⟨by decide +kernel, fun j hj => let ⟨k, a, b⟩ := h7 j (by omega); ⟨k, by omega, b⟩⟩
  · exact ⟨by decide +kernel, fun j hj => let ⟨k, a, b⟩ := h31 j (by omega); ⟨k, by omega, b⟩⟩
  · exact ⟨by decide +kernel, fun j hj => let ⟨k, a, b⟩ := h127 j (by omega); ⟨k, by omega, b⟩⟩
theorem cycle {mask : Nat} (hm : Mk3 mask) {i j : Nat} (hi : i ≤ mask) (hj : j ≤ mask) : ∃ k, k ≤ mask ∧ nxN mask k i = j := by
  obtain ⟨z, o⟩ := orbit mask hm
  obtain ⟨a, ha, ea⟩ := o i hi
  obtain ⟨b, hb, eb⟩ := o j hj
  have back : nxN mask (mask + 1 - a) i = 0 := by
    rw [← ea, ← nxN_add, show a + (mask + 1 - a) = mask + 1 by omega]; exact z
  by_cases hab : a ≤ b
  · refine ⟨b - a, by omega, ?_⟩
    rw [← ea, ← nxN_add, show a + (b - a) = b by omega]; exact eb
  · refine ⟨mask + 1 - a + b, by omega, ?_⟩
    rw [nxN_add, back]; exact eb
/-- every slot is met, by leaps -/
theorem leaps_meet {mask : Nat} (hm : Mk3 mask) {i q j : Nat} (hi : i ≤ mask) (hq : q < 2 ^ 64) (hj : j ≤ mask) : ∃ k, k ≤ mask + 13 ∧ (leapN mask k (i, q)).1 = j := by
  have hz : (leapN mask 13 (i, q)).2 = 0 := by
    rw [leapN_perturb]
    exact Nat.div_eq_of_lt (Nat.lt_of_lt_of_le hq (by decide))
  obtain ⟨k, hk, e⟩ := cycle hm (leapN_le mask 13 (i, q) hi) hj
  refine ⟨13 + k, by omega, ?_⟩
  rw [leapN_add]
  have : leapN mask 13 (i, q) = ((leapN mask 13 (i, q)).1, 0) := Prod.ext rfl hz
  rw [this, leapN_zero]
  exact e
theorem bits_lt (h : Int) : bits h < 2 ^ 64 := by
  unfold bits
  have := Int.emod_lt_of_pos h (show (0 : Int) < 2 ^ 64 by decide)
  have := Int.emod_nonneg h (show (2 ^ 64 : Int) ≠ 0 by decide)
  omega
theorem st_meets {mask : Nat} (hm : Mk3 mask) (h : Int) {j : Nat} (hj : j ≤ mask) : ∃ n, n < 10 * turns mask ∧ (advN mask n (st mask h)).j = j := by
  have hi : bits h % (mask + 1) ≤ mask := Nat.lt_succ_iff.mp (Nat.mod_lt _ (Nat.succ_pos _))
  obtain ⟨k, hk, e⟩ := leaps_meet hm hi (bits_lt h) hj
  obtain ⟨n, hn, q⟩ := reach_leaps mask k (bits h % (mask + 1)) (bits h) hi
  refine ⟨n, by unfold turns; omega, ?_⟩
  show (advN mask n (at0 mask _ _)).j = j
  rw [q]; exact e
end L2.ST

end

section
namespace L2.ST
open PySem PySem.SetTable

/-! ### the probe -/
theorem go_empty {t : SetTable} {hashAt : Nat → Int} {h : Int} : ∀ (n fuel : Nat) (p : Probe), n < fuel → p.dummy = none →
    (∀ m, m < n → ∃ i, t.slot (advN t.mask m p).j = .live i ∧ hashAt i ≠ h) → t.slot (advN t.mask n p).j = .empty →
    probe.go t hashAt h fuel p = some (.empty (advN t.mask n p).j none) := by
  intro n
  induction n with
  | zero =>
    intro fuel p hf hd _ he
    obtain ⟨f, rfl⟩ : ∃ f, fuel = f + 1 := ⟨fuel - 1, by omega⟩
    unfold probe.go
    have he' : t.slot p.j = .empty := he
    rw [he', hd]
    rfl
  | succ n ih =>
    intro fuel p hf hd hl he
    obtain ⟨f, rfl⟩ : ∃ f, fuel = f + 1 := ⟨fuel - 1, by omega⟩
    unfold probe.go
    obtain ⟨i, e, ne⟩ := hl 0 (by omega)
    have e' : t.slot p.j = .live i := e
    rw [e']
    dsimp only
    rw [if_neg (by simpa using ne), adv_eq]
    exact ih f (adv t.mask p) (by omega) (adv_none hd) (fun m hm => hl (m + 1) (by omega)) he
theorem go_found {t : SetTable} {hashAt : Nat → Int} {h : Int} : ∀ (n fuel : Nat) (p : Probe), n < fuel →
    (∀ m, m ≤ n → ∃ i, t.slot (advN t.mask m p).j = .live i) → (∃ i, t.slot (advN t.mask n p).j = .live i ∧ hashAt i = h) →
    ∃ j i next, probe.go t hashAt h fuel p = some (.candidate j i next) ∧ t.slot j = .live i ∧ hashAt i = h := by
  intro n
  induction n with
  | zero =>
    intro fuel p hf _ he
    obtain ⟨f, rfl⟩ : ∃ f, fuel = f + 1 := ⟨fuel - 1, by omega⟩
    obtain ⟨i, e, eh⟩ := he
    have e' : t.slot p.j = .live i := e
    unfold probe.go
    rw [e']
    dsimp only
    rw [if_pos (by simpa using eh)]
    exact ⟨p.j, i, _, rfl, e', eh⟩
  | succ n ih =>
    intro fuel p hf hl he
    obtain ⟨f, rfl⟩ : ∃ f, fuel = f + 1 := ⟨fuel - 1, by omega⟩
    obtain ⟨i, e⟩ := hl 0 (by omega)
    have e' : t.slot p.j = .live i := e
    unfold probe.go
    rw [e']
    dsimp only
    by_cases hh : hashAt i = h
    · rw [if_pos (by simpa using hh)]
      exact ⟨p.j, i, _, rfl, e', hh⟩
    · rw [if_neg (by simpa using hh), adv_eq]
      exact ih f (adv t.mask p) (by omega) (fun m hm => hl (m + 1) (by omega)) he

/-- the slot j is where a thing of this hash may lie: all slots ahead of it on its walk are taken -/
def Reach (mask : Nat) (L : Nat → Prop) (h : Int) (j : Nat) : Prop := ∃ n, n < 10 * turns mask ∧ (advN mask n (st mask h)).j = j ∧ ∀ m, m < n → L (advN mask m (st mask h)).j
theorem Reach.mono {mask : Nat} {L L' : Nat → Prop} {h : Int} {j : Nat} (r : Reach mask L h j) (k : ∀ x, L x → L' x) : Reach mask L' h j :=
  let ⟨n, a, b, c⟩ := r; ⟨n, a, b, fun m hm => k _ (c m hm)⟩

/-- a table that was filled, never emptied: its hashes hs, in the order of the places -/
structure Tab (t : SetTable) (hs : List Int) : Prop where
  mask : Mk3 t.mask
  dum : t.dummies = #[]
  rise : Rising t.place
  le : ∀ j, j ∈ t.place → j ≤ t.mask
  size : t.place.size = hs.length
  load : t.place.size * 5 < t.mask * 3
  reach : ∀ (i j : Nat) (h : Int), t.place[i]? = some j → hs[i]? = some h → Reach t.mask (· ∈ t.place) h j
  plain : t.plain = true

/-- lists without a thing twice, each of one in the other -/
theorem nodup_len {α : Type} [DecidableEq α] : ∀ {l m : List α}, l.Nodup → (∀ x, x ∈ l → x ∈ m) → l.length ≤ m.length
  | [], _, _, _ => Nat.zero_le _
  | a :: l, m, hn, hs => by
    have ha := hs a (List.mem_cons_self ..)
    have hl := List.nodup_cons.mp hn
    have := nodup_len (l := l) (m := m.erase a) hl.2 fun x hx => by
      refine (List.mem_erase_of_ne ?_).mpr (hs x (List.mem_cons_of_mem _ hx))
      rintro rfl; exact hl.1 hx
    rw [List.length_erase_of_mem ha] at this
    have : 0 < m.length := List.length_pos_of_mem ha
    simp only [List.length_cons]; omega

theorem empty_slot {mask : Nat} {xs : Array Nat} (hl : xs.size ≤ mask) : ∃ j, j ≤ mask ∧ j ∉ xs := by
  refine Classical.byContradiction fun hc => ?_
  have all : ∀ j, j ∈ List.range (mask + 1) → j ∈ xs.toList := fun j hj => by
    have := List.mem_range.mp hj
    refine Classical.byContradiction fun hn => hc ⟨j, by omega, fun z => hn (by simpa using z)⟩
  have := nodup_len List.nodup_range all
  simp at this
  omega

theorem exists_first {P : Nat → Prop} (h : ∃ n, P n) : ∃ n, P n ∧ ∀ m, m < n → ¬ P m := by
  obtain ⟨n, hn⟩ := h
  induction n using Nat.strongRecOn with
  | _ n ih =>
    by_cases hc : ∃ m, m < n ∧ P m
    · obtain ⟨m, hm, hp⟩ := hc
      exact ih m hm hp
    · exact ⟨n, hn, fun m hm hp => hc ⟨m, hm, hp⟩⟩

section
variable {t : SetTable} {hs : List Int}
theorem Tab.load' (T : Tab t hs) : t.place.size ≤ t.mask := by have := T.load; omega
theorem Tab.slotL (T : Tab t hs) {j : Nat} (hj : j ∈ t.place) : ∃ i, t.slot j = .live i ∧ t.place[i]? = some j := by
  obtain ⟨i, hi, e⟩ := Array.mem_iff_getElem.mp hj
  have q : t.place[i]? = some j := by rw [Array.getElem?_eq_getElem hi, e]
  exact ⟨i, slot_live T.rise q, q⟩
theorem Tab.slotE (T : Tab t hs) {j : Nat} (hj : j ∉ t.place) : t.slot j = .empty := slot_empty T.dum hj
theorem Tab.first (T : Tab t hs) (h : Int) : ∃ n, n < 10 * turns t.mask ∧ (advN t.mask n (st t.mask h)).j ∉ t.place ∧ ∀ m, m < n → (advN t.mask m (st t.mask h)).j ∈ t.place := by
  obtain ⟨j, hj, hn⟩ := empty_slot T.load'
  obtain ⟨n, h1, h2⟩ := st_meets T.mask h hj
  obtain ⟨k, hk, hlt⟩ := exists_first (P := fun n => (advN t.mask n (st t.mask h)).j ∉ t.place) ⟨n, by rw [h2]; exact hn⟩
  refine ⟨k, ?_, hk, fun m hm => Classical.byContradiction fun z => hlt m hm z⟩
  rcases Nat.lt_or_ge n k with c | c
  · exact absurd (show (advN t.mask n (st t.mask h)).j ∉ t.place by rw [h2]; exact hn) (hlt n c)
  · omega
/-- where no hash is this one: the first free slot on its walk -/
theorem Tab.absent (T : Tab t hs) {hashAt : Nat → Int} (ha : ∀ i, i < hs.length → some (hashAt i) = hs[i]?) {h : Int} (hn : h ∉ hs) :
    ∃ j, t.probe hashAt h (t.probeStart h) = some (.empty j none) ∧ j ∉ t.place ∧ j ≤ t.mask ∧ Reach t.mask (· ∈ t.place) h j := by
  obtain ⟨n, h1, h2, h3⟩ := T.first h
  refine ⟨(advN t.mask n (st t.mask h)).j, ?_, h2, ?_, ⟨n, h1, rfl, h3⟩⟩
  · unfold probe
    rw [st_eq]
    refine go_empty n _ _ h1 rfl (fun m hm => ?_) (T.slotE h2)
    obtain ⟨i, e, q⟩ := T.slotL (h3 m hm)
    refine ⟨i, e, fun z => hn ?_⟩
    have hi : i < hs.length := by rw [← T.size]; exact (Array.getElem?_eq_some_iff.mp q).1
    have := ha i hi
    rw [z] at this
    exact List.mem_of_getElem? this.symm
  · have := advN_in n (st_in t.mask h)
    unfold In at this; omega
/-- where one is: it is met, or another of the same hash -/
theorem Tab.present (T : Tab t hs) {hashAt : Nat → Int} (ha : ∀ i, i < hs.length → some (hashAt i) = hs[i]?) {h : Int} (hm : h ∈ hs) :
    ∃ j i next, t.probe hashAt h (t.probeStart h) = some (.candidate j i next) ∧ t.slot j = .live i ∧ i < hs.length ∧ hs[i]? = some h := by
  obtain ⟨i, hi, e⟩ := List.mem_iff_getElem.mp hm
  have hi' : hs[i]? = some h := by rw [List.getElem?_eq_getElem hi, e]
  have hp : i < t.place.size := by rw [T.size]; exact hi
  obtain ⟨n, h1, h2, h3⟩ := T.reach i t.place[i] h (Array.getElem?_eq_getElem hp) hi'
  have hj : (advN t.mask n (st t.mask h)).j ∈ t.place := by rw [h2]; exact Array.getElem_mem hp
  obtain ⟨j', i', nx, g1, g2, g3⟩ := go_found (t := t) (hashAt := hashAt) (h := h) n (10 * turns t.mask) (st t.mask h) h1 (fun m hm => by
      rcases Nat.lt_or_ge m n with c | c
      · obtain ⟨i, e, _⟩ := T.slotL (h3 m c); exact ⟨i, e⟩
      · have : m = n := by omega
        subst this
        obtain ⟨i, e, _⟩ := T.slotL hj; exact ⟨i, e⟩)
    ⟨i, by rw [h2]; exact slot_live T.rise (Array.getElem?_eq_getElem hp), by
      have := ha i hi
      rw [hi'] at this
      exact Option.some.inj this⟩
  have hi2 : i' < t.place.size := by
    unfold slot at g2
    dsimp only at g2
    split at g2
    · rename_i c
      have c' : t.place[below t.place j']? = some j' := by simpa using c
      cases g2
      exact (Array.getElem?_eq_some_iff.mp c').1
    · split at g2 <;> cases g2
  refine ⟨j', i', nx, by unfold probe; rw [st_eq]; exact g1, g2, by rw [← T.size]; exact hi2, ?_⟩
  have := ha i' (by rw [← T.size]; exact hi2)
  rw [g3] at this
  exact this.symm
end

/-! ### lists with a thing put in at a place -/
theorem insertAt_toList {α : Type} (xs : Array α) (p : Nat) (x : α) (_ : p ≤ xs.size) : (insertAt xs p x).toList = xs.toList.take p ++ x :: xs.toList.drop p := by
  unfold insertAt
  simp [Array.toList_extract, List.extract_eq_take_drop]
  rw [List.take_of_length_le (by simp)]
theorem put_place (t : SetTable) (j : Nat) (hd : t.dummies = #[]) : (t.put j).1 = { t with place := insertAt t.place (below t.place j) j } ∧ (t.put j).2 = below t.place j := by
  unfold put
  dsimp only
  rw [hd, has_nil]
  exact ⟨by simp, rfl⟩

section
variable {t : SetTable} {hs : List Int}
theorem mem_insertAt {α : Type} {xs : Array α} {p : Nat} {x y : α} (hp : p ≤ xs.size) : y ∈ insertAt xs p x ↔ y ∈ xs ∨ y = x := by
  rw [← Array.mem_toList_iff, insertAt_toList xs p x hp, List.mem_append, List.mem_cons, ← Array.mem_toList_iff]
  have : y ∈ xs.toList ↔ y ∈ xs.toList.take p ∨ y ∈ xs.toList.drop p := by
    conv => lhs; rw [← List.take_append_drop p xs.toList]
    exact List.mem_append
  rw [this]
  constructor
  · rintro (a | a | a)
    · exact .inl (.inl a)
    · exact .inr a
    · exact .inl (.inr a)
  · rintro ((a | a) | a)
    · exact .inl a
    · exact .inr (.inr a)
    · exact .inr (.inl a)
theorem rising_insert {xs : Array Nat} (h : Rising xs) {j : Nat} (hj : j ∉ xs) : Rising (insertAt xs (below xs j) j) := by
  obtain ⟨b1, b2, b3⟩ := below_spec h j
  unfold Rising
  rw [insertAt_toList _ _ _ b1]
  have hl : ∀ y, y ∈ xs.toList.take (below xs j) → y < j := fun y hy => by
    obtain ⟨i, hi, e⟩ := List.mem_iff_getElem.mp hy
    have hi1 : i < below xs j := by simp at hi; omega
    have hi2 : i < xs.size := by omega
    have := b2 i hi1
    rw [Array.getD_eq_getD_getElem?, Array.getElem?_eq_getElem hi2] at this
    simp at e this
    omega
  have hr : ∀ y, y ∈ xs.toList.drop (below xs j) → j < y := fun y hy => by
    obtain ⟨i, hi, e⟩ := List.mem_iff_getElem.mp hy
    have hi2 : below xs j + i < xs.size := by simp at hi; omega
    have := b3 (below xs j + i) (by omega) hi2
    rw [Array.getD_eq_getD_getElem?, Array.getElem?_eq_getElem hi2] at this
    simp at e this
    rcases Nat.lt_or_ge j y with c | c
    · exact c
    · have : j = y := by omega
      exact absurd (by rw [this, ← e]; exact Array.getElem_mem _) hj
  refine List.pairwise_append.mpr ⟨List.Pairwise.sublist (List.take_sublist ..) h, List.pairwise_cons.mpr ⟨fun y hy => hr y hy, List.Pairwise.sublist (List.drop_sublist ..) h⟩, fun a ha b hb => ?_⟩
  rcases List.mem_cons.mp hb with rfl | hb
  · exact hl a ha
  · exact Nat.lt_trans (hl a ha) (hr b hb)
theorem insL_get {α : Type} (l : List α) (p : Nat) (x : α) (hp : p ≤ l.length) (i : Nat) : (l.take p ++ x :: l.drop p)[i]? = if i < p then l[i]? else if i = p then some x else l[i - 1]? := by
  rcases Nat.lt_trichotomy i p with c | c | c
  · rw [if_pos c, List.getElem?_append_left (by simp; omega), List.getElem?_take_of_lt c]
  · subst c
    rw [if_neg (Nat.lt_irrefl _), if_pos rfl, List.getElem?_append_right (by simp; omega), List.length_take, Nat.min_eq_left hp, Nat.sub_self]
    rfl
  · rw [if_neg (by omega), if_neg (by omega), List.getElem?_append_right (by simp; omega), List.length_take, Nat.min_eq_left hp]
    obtain ⟨k, rfl⟩ : ∃ k, i = p + 1 + k := ⟨i - (p + 1), by omega⟩
    rw [show p + 1 + k - p = k + 1 by omega, List.getElem?_cons_succ, List.getElem?_drop]
    congr 1
    omega
/-- a new thing laid -/
theorem Tab.put (T : Tab t hs) {j : Nat} {h : Int} (hj : j ∉ t.place) (hm : j ≤ t.mask) (r : Reach t.mask (· ∈ t.place) h j) (hf : (t.place.size + 1) * 5 < t.mask * 3) :
    Tab (t.put j).1 (hs.take (t.put j).2 ++ h :: hs.drop (t.put j).2) ∧ (t.put j).2 ≤ hs.length := by
  obtain ⟨e1, e2⟩ := put_place t j T.dum
  obtain ⟨b1, b2, b3⟩ := below_spec T.rise j
  have hsz : (insertAt t.place (below t.place j) j).size = t.place.size + 1 := by
    rw [← Array.length_toList, insertAt_toList _ _ _ b1]
    simp; omega
  have hl : below t.place j ≤ hs.length := by rw [← T.size]; exact b1
  rw [e1, e2]
  refine ⟨⟨T.mask, T.dum, rising_insert T.rise hj, fun y hy => ?_, ?_, ?_, fun i y g hy hg => ?_, T.plain⟩, hl⟩
  · rcases (mem_insertAt b1).mp hy with z | z
    · exact T.le y z
    · rw [z]; exact hm
  · show (insertAt t.place _ j).size = _
    rw [hsz, T.size]; simp; omega
  · show (insertAt t.place _ j).size * 5 < t.mask * 3
    rw [hsz]; exact hf
  · show Reach t.mask (· ∈ insertAt t.place (below t.place j) j) g y
    have hy' : (t.place.toList.take (below t.place j) ++ j :: t.place.toList.drop (below t.place j))[i]? = some y := by
      rw [← insertAt_toList _ _ _ b1, Array.getElem?_toList]; exact hy
    rw [insL_get _ _ _ (by simpa using b1)] at hy'
    rw [insL_get _ _ _ hl] at hg
    have old : ∀ {g y}, Reach t.mask (· ∈ t.place) g y → Reach t.mask (· ∈ insertAt t.place (below t.place j) j) g y := fun r => r.mono fun x hx => (mem_insertAt b1).mpr (.inl hx)
    split at hy'
    · rename_i c
      rw [if_pos c] at hg
      exact old (T.reach i y g (by simpa using hy') hg)
    · rename_i c
      rw [if_neg c] at hg
      split at hy'
      · rename_i c2
        rw [if_pos c2] at hg
        cases hg; cases hy'
        exact old r
      · rename_i c2
        rw [if_neg c2] at hg
        exact old (T.reach (i - 1) y g (by simpa using hy') hg)
end
end L2.ST

end

section
namespace L2.ST
open PySem PySem.SetTable

/-! ### laying anew -/
/-- the slot's owner, none where free -/
abbrev own (o : Array (Option Nat)) (j : Nat) : Option Nat := o.getD j none

theorem free_spec {mask : Nat} {o : Array (Option Nat)} (hsz : o.size = mask + 1) : ∀ (fuel i q : Nat) (j : Nat), i ≤ mask → layClean.free mask o fuel i q = some j →
    ∃ n, n < 10 * fuel ∧ (advN mask n (at0 mask i q)).j = j ∧ (∀ m, m < n → (own o (advN mask m (at0 mask i q)).j).isSome = true) ∧ own o j = none ∧ j ≤ mask := by
  intro fuel
  induction fuel with
  | zero => intro i q j _ h; unfold layClean.free at h; cases h
  | succ fuel ih =>
    intro i q j hi h
    unfold layClean.free at h
    have hr := runEnd_le hi
    have ind : ∀ k, k ≤ runEnd mask i - i → o.getD (i + k) (some 0) = own o (i + k) := fun k hk => by
      have : i + k < o.size := by omega
      simp [own, Array.getD, this]
    cases hf : (List.range (runEnd mask i + 1 - i)).find? fun k => (o.getD (i + k) (some 0)).isNone with
    | some k =>
      rw [hf] at h
      dsimp only at h
      have hk := List.find?_eq_some_iff_getElem.mp hf
      obtain ⟨hn, ix, hix, eix, hbef⟩ := hk
      have ek : ix = k := by simpa using eix
      subst ek
      have hix' : ix < runEnd mask i + 1 - i := by simpa using hix
      cases h
      refine ⟨ix, by omega, ?_, fun m hm => ?_, ?_, by omega⟩
      · rw [advN_inrun mask i q ix (by omega)]
      · rw [advN_inrun mask i q m (by omega)]
        have := hbef m hm
        simp only [List.getElem_range] at this
        rw [ind m (by omega)] at this
        dsimp only
        cases e : own o (i + m) with
        | none => rw [e] at this; simp at this
        | some _ => rfl
      · rw [ind ix (by omega)] at hn
        cases e : own o (i + ix) with
        | none => rfl
        | some _ => rw [e] at hn; simp at hn
    | none =>
      rw [hf] at h
      dsimp only at h
      obtain ⟨n, h1, h2, h3, h4, h5⟩ := ih _ _ j (leap_le mask i q) h
      have hnone := List.find?_eq_none.mp hf
      refine ⟨(runEnd mask i - i + 1) + n, by omega, ?_, fun m hm => ?_, h4, h5⟩
      · rw [advN_add, advN_leap]; exact h2
      · rcases Nat.lt_or_ge m (runEnd mask i - i + 1) with c | c
        · rw [advN_inrun mask i q m (by omega)]
          have := hnone m (List.mem_range.mpr (by omega))
          rw [ind m (by omega)] at this
          dsimp only
          cases e : own o (i + m) with
          | none => rw [e] at this; simp at this
          | some _ => rfl
        · obtain ⟨k, rfl⟩ : ∃ k, m = (runEnd mask i - i + 1) + k := ⟨m - (runEnd mask i - i + 1), by omega⟩
          rw [advN_add, advN_leap]
          exact h3 k (by omega)
theorem free_some {mask : Nat} {o : Array (Option Nat)} (hsz : o.size = mask + 1) : ∀ (fuel i q k : Nat), i ≤ mask → k < fuel → own o (leapN mask k (i, q)).1 = none → ∃ j, layClean.free mask o fuel i q = some j := by
  intro fuel
  induction fuel with
  | zero => intro i q k _ hk; omega
  | succ fuel ih =>
    intro i q k hi hk hn
    unfold layClean.free
    cases hf : (List.range (runEnd mask i + 1 - i)).find? fun k => (o.getD (i + k) (some 0)).isNone with
    | some k => exact ⟨_, rfl⟩
    | none =>
      dsimp only
      cases k with
      | zero =>
        have hr := runEnd_le hi
        have := List.find?_eq_none.mp hf 0 (List.mem_range.mpr (by omega))
        have e : own o i = none := hn
        have hi2 : i < o.size := by omega
        simp [own, Array.getD, hi2] at e this
        rw [e] at this; simp at this
      | succ k => exact ih _ _ k (leap_le mask i q) (by omega) hn

/-- the first hs.length things stand in the owners' table, each in a slot of its walk -/
structure Lay (mask : Nat) (o : Array (Option Nat)) (hs : List Int) : Prop where
  size : o.size = mask + 1
  all : ∀ k h, hs[k]? = some h → ∃ j, own o j = some k ∧ Reach mask (fun x => (own o x).isSome = true) h j
  one : ∀ j j' k, own o j = some k → own o j' = some k → j = j'
  le : ∀ j k, own o j = some k → j ≤ mask ∧ k < hs.length

theorem own_set {o : Array (Option Nat)} {j x k : Nat} (hj : j < o.size) : own (o.setIfInBounds j (some k)) x = if x = j then some k else own o x := by
  unfold own
  rw [Array.getD_eq_getD_getElem?, Array.getD_eq_getD_getElem?, Array.getElem?_setIfInBounds]
  by_cases e : x = j
  · subst e; simp [hj]
  · rw [if_neg e, if_neg (fun z => e z.symm)]

theorem lay_step {mask : Nat} (hm : Mk3 mask) {o : Array (Option Nat)} {hs : List Int} (L : Lay mask o hs) (h : Int) (hl : hs.length ≤ mask) :
    ∃ j, layClean.free mask o (turns mask) (bits h % (mask + 1)) (bits h) = some j ∧ Lay mask (o.setIfInBounds j (some hs.length)) (hs ++ [h]) := by
  have hi : bits h % (mask + 1) ≤ mask := Nat.lt_succ_iff.mp (Nat.mod_lt _ (Nat.succ_pos _))
  -- a free slot
  have hfree : ∃ j, j ≤ mask ∧ own o j = none := by
    refine Classical.byContradiction fun hc => ?_
    have hall : ∀ j, j ≤ mask → ∃ k, own o j = some k := fun j hj => by
      cases e : own o j with
      | none => exact absurd ⟨j, hj, e⟩ hc
      | some k => exact ⟨k, rfl⟩
    have nd : ((List.range (mask + 1)).map fun j => (own o j).getD 0).Nodup := by
      refine List.pairwise_map.mpr ?_
      refine List.Pairwise.imp_of_mem ?_ List.nodup_range
      intro a b ha hb hab e
      obtain ⟨ka, ea⟩ := hall a (by have := List.mem_range.mp ha; omega)
      obtain ⟨kb, eb⟩ := hall b (by have := List.mem_range.mp hb; omega)
      rw [ea, eb] at e
      simp at e
      subst e
      exact hab (L.one a b ka ea eb)
    have := nodup_len (m := List.range hs.length) nd fun x hx => by
      obtain ⟨j, hj, rfl⟩ := List.mem_map.mp hx
      obtain ⟨k, e⟩ := hall j (by have := List.mem_range.mp hj; omega)
      rw [e]
      exact List.mem_range.mpr (L.le j k e).2
    simp at this
    omega
  obtain ⟨j0, hj0, hn0⟩ := hfree
  obtain ⟨k, hk, ek⟩ := leaps_meet hm hi (bits_lt h) hj0
  obtain ⟨j, hj⟩ := free_some L.size (turns mask) _ (bits h) k hi (by unfold turns; omega) (by rw [ek]; exact hn0)
  refine ⟨j, hj, ?_⟩
  obtain ⟨n, h1, h2, h3, h4, h5⟩ := free_spec L.size _ _ _ _ hi hj
  have hjs : j < o.size := by rw [L.size]; omega
  have grow : ∀ x, (own o x).isSome = true → (own (o.setIfInBounds j (some hs.length)) x).isSome = true := fun x hx => by
    rw [own_set hjs]; split
    · rfl
    · exact hx
  refine ⟨by rw [Array.size_setIfInBounds]; exact L.size, fun k g hg => ?_, fun a b c ea eb => ?_, fun a c ea => ?_⟩
  · rcases Nat.lt_or_ge k hs.length with c | c
    · rw [List.getElem?_append_left c] at hg
      obtain ⟨x, ex, rx⟩ := L.all k g hg
      refine ⟨x, ?_, rx.mono grow⟩
      rw [own_set hjs, if_neg (fun z => ?_)]
      · exact ex
      · subst z; rw [ex] at h4; cases h4
    · rw [List.getElem?_append_right c] at hg
      have : k = hs.length := by
        have := (List.getElem?_eq_some_iff.mp hg).1
        simp at this; omega
      subst this
      simp at hg
      subst hg
      exact ⟨j, by rw [own_set hjs, if_pos rfl], n, h1, h2, fun m hm => grow _ (h3 m hm)⟩
  · rw [own_set hjs] at ea eb
    split at ea
    · cases ea
      split at eb
      · omega
      · have := (L.le _ _ eb).2; omega
    · split at eb
      · cases eb
        have := (L.le _ _ ea).2; omega
      · exact L.one _ _ _ ea eb
  · rw [own_set hjs] at ea
    rw [List.length_append]
    split at ea
    · cases ea; simp; omega
    · have := L.le _ _ ea; simp; omega

theorem lay_all {mask : Nat} (hm : Mk3 mask) : ∀ (rest hs : List Int) (o : Array (Option Nat)), Lay mask o hs → hs.length + rest.length ≤ mask →
    ∃ o', rest.foldl (init := some (o, hs.length)) (fun acc h => do
      let (owner, k) ← acc
      let j ← layClean.free mask owner (turns mask) (bits h % (mask + 1)) (bits h)
      pure (owner.setIfInBounds j (some k), k + 1)) = some (o', hs.length + rest.length) ∧ Lay mask o' (hs ++ rest)
  | [], hs, o, L, _ => ⟨o, rfl, by rw [List.append_nil]; exact L⟩
  | h :: rest, hs, o, L, hl => by
    simp only [List.length_cons] at hl
    obtain ⟨j, e, L'⟩ := lay_step hm L h (by omega)
    obtain ⟨o', e', L2⟩ := lay_all hm rest (hs ++ [h]) _ L' (by simp; omega)
    refine ⟨o', ?_, by rw [List.append_assoc] at L2; exact L2⟩
    rw [List.foldl_cons]
    simp only [Option.bind_eq_bind, Option.bind_some, e, Option.pure_def]
    have el : (hs ++ [h]).length = hs.length + 1 := by simp
    rw [el] at e'
    simp only [Option.bind_eq_bind, Option.pure_def] at e'
    rw [e']
    simp; omega

theorem own_rep (n j : Nat) : own (Array.replicate n none) j = none := by
  unfold own
  rw [Array.getD_eq_getD_getElem?, Array.getElem?_replicate]
  split <;> rfl
theorem lay_nil (mask : Nat) : Lay mask (Array.replicate (mask + 1) none) [] :=
  ⟨by simp, fun k h e => by simp at e, fun j j' k e _ => by (rw [own_rep] at e; cases e), fun j k e => by (rw [own_rep] at e; cases e)⟩

/-- a table laid anew: its things in another order, none lost -/
theorem laid_spec {mask : Nat} (hm : Mk3 mask) (hs : Array Int) (hl : hs.size * 5 < mask * 3) (finger moves : Nat) (led : Bool) :
    ∃ t order, laid mask finger moves led true hs = some (t, order) ∧ t.led = led ∧ t.mask = mask ∧ order.toList.Nodup ∧ (∀ k, k ∈ order.toList ↔ k < hs.size) ∧
      Tab t (order.toList.map fun k => hs.toList.getD k 0) := by
  obtain ⟨o, e, L⟩ := lay_all hm hs.toList [] _ (lay_nil mask) (by simp; omega)
  simp only [List.nil_append] at L
  have ec : layClean mask hs = some o := by
    unfold layClean
    rw [← Array.foldl_toList]
    simp only [List.length_nil] at e
    rw [e]; rfl
  have hlive : ∀ j k, (j, k) ∈ ((List.range (mask + 1)).filterMap fun j => (o.getD j none).map (j, ·)) ↔ own o j = some k := fun j k => by
    rw [List.mem_filterMap]
    constructor
    · rintro ⟨x, _, q⟩
      cases ex : o.getD x none with
      | none => rw [ex] at q; cases q
      | some y => rw [ex] at q; simp at q; rw [← q.1, ← q.2]; exact ex
    · intro q
      refine ⟨j, List.mem_range.mpr (by have := (L.le j k q).1; omega), ?_⟩
      have : o.getD j none = some k := q
      rw [this]; rfl
  have hpw : ((List.range (mask + 1)).filterMap fun j => (o.getD j none).map (j, ·)).Pairwise (fun a b => a.1 < b.1) := by
    refine List.pairwise_filterMap.mpr ?_
    refine List.Pairwise.imp ?_ List.pairwise_lt_range
    intro a b hab x hx y hy
    cases ea : o.getD a none with
    | none => rw [ea] at hx; cases hx
    | some u =>
      cases eb : o.getD b none with
      | none => rw [eb] at hy; cases hy
      | some v =>
        rw [ea] at hx; rw [eb] at hy
        simp at hx hy
        rw [← hx, ← hy]; exact hab
  generalize hlv : ((List.range (mask + 1)).filterMap fun j => (o.getD j none).map (j, ·)) = live at hlive hpw
  refine ⟨{ mask, place := (live.map (·.1)).toArray, dummies := #[], finger, led, moves, plain := true }, (live.map (·.2)).toArray, ?_, rfl, rfl, ?_, fun k => ?_, ?_⟩
  · unfold laid
    rw [ec]
    simp only [Option.bind_eq_bind, Option.bind_some, Option.pure_def, hlv]
  · have : (live.map (·.2)).Nodup := by
      refine List.pairwise_map.mpr (List.Pairwise.imp_of_mem ?_ hpw)
      intro a b ha hb hab ee
      have h1 := (hlive a.1 a.2).mp ha
      have h2 := (hlive b.1 b.2).mp hb
      rw [ee] at h1
      have := L.one _ _ _ h1 h2
      omega
    simpa using this
  · rw [List.mem_map]
    constructor
    · rintro ⟨x, hx, rfl⟩
      have := (L.le x.1 x.2 ((hlive x.1 x.2).mp hx)).2
      simpa using this
    · intro hk
      have hk' : k < hs.toList.length := by simpa using hk
      obtain ⟨j, ej, _⟩ := L.all k _ (List.getElem?_eq_getElem hk')
      exact ⟨(j, k), (hlive j k).mpr ej, rfl⟩
  · have hord : live.length = hs.size := by
      have a1 : (live.map (·.2)).Nodup := by
        refine List.pairwise_map.mpr (List.Pairwise.imp_of_mem ?_ hpw)
        intro a b ha hb hab ee
        have h1 := (hlive a.1 a.2).mp ha
        have h2 := (hlive b.1 b.2).mp hb
        rw [ee] at h1
        have := L.one _ _ _ h1 h2
        omega
      have b1 := nodup_len (m := List.range hs.size) a1 fun x hx => by
        obtain ⟨y, hy, rfl⟩ := List.mem_map.mp hx
        have := (L.le y.1 y.2 ((hlive y.1 y.2).mp hy)).2
        exact List.mem_range.mpr (by simpa using this)
      have b2 := nodup_len (l := List.range hs.size) (m := live.map (·.2)) List.nodup_range fun x hx => by
        have hk' : x < hs.toList.length := by simpa using List.mem_range.mp hx
        obtain ⟨j, ej, _⟩ := L.all x _ (List.getElem?_eq_getElem hk')
        exact List.mem_map.mpr ⟨(j, x), (hlive j x).mpr ej, rfl⟩
      simp at b1 b2
      omega
    refine ⟨hm, rfl, ?_, fun j hj => ?_, ?_, ?_, fun i j h hi hh => ?_, rfl⟩
    · show (live.map (·.1)).toArray.toList.Pairwise _
      rw [List.toList_toArray]
      exact List.pairwise_map.mpr hpw
    · have : j ∈ live.map (·.1) := by simpa using hj
      obtain ⟨x, hx, rfl⟩ := List.mem_map.mp this
      exact (L.le x.1 x.2 ((hlive x.1 x.2).mp hx)).1
    · simp
    · show (live.map (·.1)).toArray.size * 5 < mask * 3
      simp [hord]; exact hl
    · have hi' : (live.map (·.1))[i]? = some j := by simpa using hi
      have hh' : ((live.map (·.2)).map fun k => hs.toList.getD k 0)[i]? = some h := by simpa using hh
      rw [List.getElem?_map] at hi'
      rw [List.getElem?_map, List.getElem?_map] at hh'
      cases ex : live[i]? with
      | none => rw [ex] at hi'; cases hi'
      | some x =>
        rw [ex] at hi' hh'
        simp at hi' hh'
        have hxl := (hlive x.1 x.2).mp (List.mem_of_getElem? ex)
        have hk := (L.le _ _ hxl).2
        have hk2 : x.2 < hs.size := by simpa using hk
        obtain ⟨j2, ej2, r⟩ := L.all x.2 h (by
          rw [List.getElem?_eq_getElem hk]
          simp [hk2] at hh'
          simpa using hh')
        have : j2 = j := by rw [← hi']; exact L.one _ _ _ ej2 hxl
        subst this
        refine r.mono fun y hy => ?_
        show y ∈ (live.map (·.1)).toArray
        cases ey : own o y with
        | none => rw [ey] at hy; cases hy
        | some k =>
          have : y ∈ live.map (·.1) := List.mem_map.mpr ⟨(y, k), (hlive y k).mpr ey, rfl⟩
          simpa using this
end L2.ST

end

section
set_option linter.all false
set_option maxRecDepth 100000
namespace L2.ST
open PySem PySem.SetTable
abbrev Pr := Int × Int

/-! ### pairs of small numbers as members of a set -/
/-- the hash of the tuple (x, y) -/
def hp (p : Pr) : Int := reduceHash (Builtin.Tuple.tupleHashOf [hashInt p.1, hashInt p.2])
def Sm (p : Pr) : Prop := (0 ≤ p.1 ∧ p.1 < 8) ∧ (0 ≤ p.2 ∧ p.2 < 8)
def smalls : List Pr := (List.range 64).map fun k => (((k / 8 : Nat) : Int), ((k % 8 : Nat) : Int))
theorem mem_smalls {p : Pr} (h : Sm p) : p ∈ smalls := by
  unfold smalls
  obtain ⟨⟨a, b⟩, c, d⟩ := h
  refine List.mem_map.mpr ⟨p.1.toNat * 8 + p.2.toNat, List.mem_range.mpr (by omega), ?_⟩
  refine Prod.ext ?_ ?_ <;> dsimp only <;> omega
theorem hp_nodup : (smalls.map hp).Nodup := by decide +kernel
theorem inj_of_nodup {α β : Type} {f : α → β} : ∀ {l : List α}, (l.map f).Nodup → ∀ a b, a ∈ l → b ∈ l → f a = f b → a = b
  | [], _, _, _, h, _, _ => by cases h
  | x :: l, hn, a, b, ha, hb, e => by
    have hn' := List.nodup_cons.mp hn
    rcases List.mem_cons.mp ha with ea | ha
    · rcases List.mem_cons.mp hb with eb | hb
      · rw [ea, eb]
      · exact absurd (List.mem_map.mpr ⟨b, hb, by rw [← e, ea]⟩) hn'.1
    · rcases List.mem_cons.mp hb with eb | hb
      · exact absurd (List.mem_map.mpr ⟨a, ha, by rw [e, eb]⟩) hn'.1
      · exact inj_of_nodup hn'.2 a b ha hb e
theorem hp_inj {p q : Pr} (hp1 : Sm p) (hq : Sm q) (e : hp p = hp q) : p = q := inj_of_nodup hp_nodup p q (mem_smalls hp1) (mem_smalls hq) e
theorem smalls_len {l : List Pr} (hn : l.Nodup) (h : ∀ p, p ∈ l → Sm p) : l.length ≤ 64 := by
  have := nodup_len (m := smalls) hn fun x hx => mem_smalls (h x hx)
  simpa [smalls] using this

section
variable {prog : Program} {w : World} {A : Around} {E : Value → Shared → Prop} {s : Shared}
abbrev PairAt (prog : Program) (w : World) (h : Heap) (p : Pr) (a : Addr) : Prop := IsTupleKey (intKind prog w) h [p.1, p.2] a
theorem PairAt.inj {h : Heap} {p q : Pr} {a : Addr} (x : PairAt prog w h p a) (y : PairAt prog w h q a) : p = q := by
  have := IsTupleKey.inj x y
  simp at this
  exact Prod.ext this.1 this.2
theorem hash_pair (p : Pr) : tupleKeyHash (intKind prog w) [p.1, p.2] = hp p := rfl

/-- a set at S of the pairs ps, each with the tuple that stands for it -/
structure PSet (f : Pr → Int) (prog : Program) (w : World) (led : Bool) (h : Heap) (S : Addr) (ps : List (Addr × Pr)) : Prop where
  ex : ∃ o ep t, h.get? S = some o ∧ o.ExactSet ∧ o.data = .set (ps.map fun q => (f q.2, Value.ref q.1)).toArray ep t ∧ Tab t (ps.map fun q => f q.2) ∧ t.led = led
  at' : ∀ q, q ∈ ps → PairAt prog w h q.2 q.1 ∧ Sm q.2
  nd : (ps.map (·.2)).Nodup

theorem PSet.len {f : Pr → Int} {led : Bool} {h : Heap} {S : Addr} {ps : List (Addr × Pr)} (P : PSet f prog w led h S ps) : ps.length ≤ 64 := by
  have := smalls_len P.nd fun p hp => by
    obtain ⟨q, hq, rfl⟩ := List.mem_map.mp hp
    exact (P.at' q hq).2
  simpa using this
theorem PSet.keeps {f : Pr → Int} {led : Bool} {h h' : Heap} {S : Addr} {ps : List (Addr × Pr)} (P : PSet f prog w led h S ps) (k : ∀ b o, h.get? b = some o → h'.get? b = some o) : PSet f prog w led h' S ps := by
  obtain ⟨o, ep, t, ho, r⟩ := P.ex
  refine ⟨⟨o, ep, t, k _ _ ho, r⟩, fun q hq => ⟨?_, (P.at' q hq).2⟩, P.nd⟩
  obtain ⟨o', items, n, ho', r'⟩ := (P.at' q hq).1
  exact ⟨o', items, n, k _ _ ho', r'⟩

theorem fits_tab {t : SetTable} {hs : List Int} (T : Tab t hs) {n : Nat} (e : n = hs.length) : t.fits n = true := by
  unfold SetTable.fits SetTable.fill
  have := T.load'
  simp [T.size, T.dum, e]
  rw [T.size] at this; exact this

theorem relay_eq (a : Addr) (wanted : Nat) : setRelay a wanted = (do
    let (es, _, t) ← setState a
    if SetTable.sizeAbove wanted > sizeLine then unsupported "set:memory"
    let (es, t) ← (do
      let some (t, order) := t.relaid (es.map (·.1)) wanted | unsupported "internal:set-table-without-room"
      let es' := order.filterMap (es[·]?)
      if es'.size != es.size then unsupported "internal:set-table-lost-an-element"
      pure (es', t))
    storeSet a es t) := rfl
theorem search_eq (a : Addr) (x : Value) (h : Int) (fuel : Nat) : setSearchFrom a x h true (fuel + 1) none = (do
    let (es, _, t) ← setState a
    if t.gaveWay then unsupported "set:on-a-table-that-gave-way"
    let some met := t.probe (fun i => (es[i]?.map (·.1)).getD 0) h (t.probeStart h) | unsupported "internal:set-table-without-an-empty-slot"
    match met with
    | .empty j dummy =>
      match dummy with
      | none => return .free j false
      | some d =>
        if true && t.slot d != .dummy then rule "set.search.the-dummy-was-taken"; return ← setSearchFrom a x h true fuel none
        return .free d true
    | .candidate j i next =>
      if !t.led then
        if ← searchCouldBeSeen x ((es.filter (·.1 == h)).toList.map (·.2)) then unsupported "set:the-search-would-show-the-table"
      let some (_, y) := es[i]? | unsupported "internal:set-entry"
      let equal ← holding [y] (eqBool y x)
      let (es', _, t') ← setState a
      if true && equal then return .there none
      let some same := t'.sameMemory t.moves t.mask | unsupported "set.changed-during-lookup:is-the-new-block-at-the-old-address"
      let still ← match (if same then t'.slot j else .empty) with
        | .live i' => match es'[i']? with
          | some (_, y') => do pure (if ← isSame y' y then some i' else none)
          | none => pure none
        | _ => pure none
      match still with
      | none => rule "set.search.anew"; setSearchFrom a x h true fuel none
      | some i' => if equal then return .there (some i') else setSearchFrom a x h true fuel (some next)) := rfl

theorem ofClass_int (n : Nat) {v : Value} (h : carriedByValue v = true) : ofAClassStatement n v = pure false := by
  cases v with
  | ref a => simp [carriedByValue] at h
  | _ => first | rfl | (unfold ofAClassStatement; rfl)
theorem hashBy_int (n : Nat) {v : Value} {k : Int} (h : (intKind prog w).is k v = true) : hashByValue n v = pure true := by
  obtain ⟨t, rfl⟩ := Value.isInt_shape h
  cases n <;> rfl
theorem ofClass_pair {p : Pr} {a : Addr} {Q : Bool → Shared → Prop} (hk : PairAt prog w s.heap p a) (h : Q false s) : wpAny (model prog w) A (ofAClassStatement 8 (.ref a)) Q E s := by
  have hT := hk.typeIs
  obtain ⟨o, items, n, ho, hc, hd, hi⟩ := hk
  unfold ofAClassStatement
  refine wpAny_bind (wpAny_typeOf hT ?_)
  dsimp only
  rw [if_pos (by decide)]
  refine wpAny_bind (wpAny_pure ?_)
  simp only [Bool.not_true, Bool.false_eq_true, if_false]
  refine wpAny_bind (wpAny_seqItems ho hd ?_)
  dsimp only
  refine wpAny_bind ?_
  rw [← Array.forIn_toList]
  refine wpAny_forIn_list _ (fun rest r s' => r.1 = none ∧ s' = s ∧ ∀ v ∈ rest, carriedByValue v = true) _ ?_ ?_ _ _ ⟨rfl, rfl, hi.byValue⟩
  · rintro v rest r s' ⟨hr, rfl, hall⟩
    rw [ofClass_int _ (hall v List.mem_cons_self)]
    refine wpAny_bind (wpAny_pure ?_)
    simp only [Bool.false_eq_true, if_false]
    exact wpAny_pure ⟨rfl, rfl, fun u hu' => hall u (List.mem_cons_of_mem _ hu')⟩
  · rintro ⟨r1, r2⟩ s' ⟨hr, rfl, _⟩
    simp only at hr
    subst hr
    exact wpAny_pure h
theorem hashBy_pair {p : Pr} {a : Addr} {Q : Bool → Shared → Prop} (hk : PairAt prog w s.heap p a) (h : Q true s) : wpAny (model prog w) A (hashByValue 8 (.ref a)) Q E s := by
  have hT := hk.typeIs
  obtain ⟨o, items, n, ho, hc, hd, hi⟩ := hk
  unfold hashByValue
  refine wpAny_bind (wpAny_specialOf hT F.slot_tuple_hash.lookup ?_)
  dsimp only
  refine wpAny_bind (wpAny_seqItems ho hd ?_)
  simp only [Option.getD_some]
  refine wpAny_bind ?_
  rw [← Array.forIn_toList]
  refine wpAny_forIn_list _ (fun rest r s' => r.1 = none ∧ s' = s ∧ ∀ v ∈ rest, ∃ k, (intKind prog w).is k v = true) _ ?_ ?_ _ _ ⟨rfl, rfl, fun v hv => ?_⟩
  · rintro v rest r s' ⟨hr, rfl, hall⟩
    obtain ⟨k, hk⟩ := hall v List.mem_cons_self
    rw [hashBy_int _ hk]
    refine wpAny_bind (wpAny_pure ?_)
    simp only [Bool.not_true, Bool.false_eq_true, if_false]
    exact wpAny_pure ⟨rfl, rfl, fun u hu' => hall u (List.mem_cons_of_mem _ hu')⟩
  · rintro ⟨r1, r2⟩ s' ⟨hr, rfl, _⟩
    simp only at hr
    subst hr
    exact wpAny_pure h
  · generalize items.toList = l at *
    cases hi with
    | cons h1 hi =>
      cases hi with
      | cons h2 hi =>
        cases hi
        rcases List.mem_cons.mp hv with rfl | hv
        · exact ⟨_, h1⟩
        · rcases List.mem_cons.mp hv with rfl | hv
          · exact ⟨_, h2⟩
          · cases hv
theorem seen_pairs {p : Pr} {a : Addr} (hk : PairAt prog w s.heap p a) : ∀ (l : List Value) {Q : Bool → Shared → Prop}, (∀ v ∈ l, ∃ q b, v = .ref b ∧ PairAt prog w s.heap q b) → Q false s → wpAny (model prog w) A (searchCouldBeSeen (.ref a) l) Q E s := by
  intro l Q hl h
  unfold searchCouldBeSeen
  refine wpAny_bind ?_
  refine wpAny_forIn_list _ (fun rest r s' => r.1 = none ∧ s' = s ∧ ∀ v ∈ rest, ∃ q b, v = .ref b ∧ PairAt prog w s.heap q b) _ ?_ ?_ _ _ ⟨rfl, rfl, hl⟩
  · rintro v rest r s' ⟨hr, rfl, hall⟩
    obtain ⟨q, b, rfl, hb⟩ := hall v List.mem_cons_self
    have hrest := fun u hu' => hall u (List.mem_cons_of_mem _ hu')
    dsimp only
    split
    · exact wpAny_pure ⟨rfl, rfl, hrest⟩
    · refine wpAny_bind (wpAny_eqIsQuiet_tuple hk ?_)
      simp only [Bool.not_true, Bool.false_eq_true, if_false]
      refine wpAny_bind (wpAny_eqIsQuiet_tuple hb ?_)
      simp only [Bool.not_true, Bool.false_eq_true, if_false]
      refine wpAny_bind (ofClass_pair hk ?_)
      simp only [Bool.false_eq_true, if_false]
      refine wpAny_bind (ofClass_pair hb ?_)
      simp only [Bool.false_eq_true, if_false]
      exact wpAny_pure ⟨rfl, rfl, hrest⟩
  · rintro ⟨r1, r2⟩ s' ⟨hr, rfl, _⟩
    simp only at hr
    subst hr
    exact wpAny_pure h
end
end L2.ST

end

section
set_option linter.all false
set_option maxRecDepth 100000
namespace L2.ST
open PySem PySem.SetTable
section
variable {prog : Program} {w : World} {A : Around} {E : Value → Shared → Prop} {s : Shared}

theorem relaid_mask (t : SetTable) (hs : Array Int) (wanted : Nat) (hp : t.plain = true) : t.relaid hs wanted = laid (sizeAbove wanted - 1) t.finger (t.movedTo (sizeAbove wanted - 1)) t.led true hs := by
  unfold relaid; rw [hp]
theorem sizes : sizeAbove (grown 5) = 32 ∧ sizeAbove (grown 19) = 128 := by decide +kernel

theorem filterMap_get {α : Type} (es : Array α) : ∀ (order : List Nat), (∀ k, k ∈ order → k < es.size) → ∃ l : List α, order.filterMap (fun i => es[i]?) = l ∧ l.length = order.length ∧ (∀ (i k : Nat), order[i]? = some k → l[i]? = es[k]?) ∧ ∀ x, x ∈ l → ∃ k, k ∈ order ∧ es[k]? = some x
  | [], _ => ⟨[], rfl, rfl, fun i k h => by simp at h, fun x hx => by cases hx⟩
  | k :: r, h => by
    obtain ⟨l, e1, e2, e3, e4⟩ := filterMap_get es r fun x hx => h x (List.mem_cons_of_mem _ hx)
    have hk := h k (List.mem_cons_self ..)
    refine ⟨es[k] :: l, by rw [List.filterMap_cons, Array.getElem?_eq_getElem hk, e1], by simp [e2], fun i x hi => ?_, fun x hx => ?_⟩
    · cases i with
      | zero => simp at hi; subst hi; simp [hk]
      | succ i => simp at hi; simpa using e3 i x hi
    · rcases List.mem_cons.mp hx with rfl | hx
      · exact ⟨k, List.mem_cons_self .., by simp [hk]⟩
      · obtain ⟨y, hy, q⟩ := e4 x hx
        exact ⟨y, List.mem_cons_of_mem _ hy, q⟩

abbrev entf (f : Pr → Int) (q : Addr × Pr) : Int × Value := (f q.2, Value.ref q.1)

/-- laid anew: the same pairs in another order -/
theorem relay_pairsF (f : Pr → Int) {mask : Nat} (hm : Mk3 mask) {ps : List (Addr × Pr)} (hl : ps.length * 5 < mask * 3) (finger moves : Nat) (led : Bool) :
    ∃ (t : SetTable) (order : Array Nat) (ps' : List (Addr × Pr)), laid mask finger moves led true ((ps.map (entf f)).toArray.map (·.1)) = some (t, order) ∧ order.filterMap (fun i => (ps.map (entf f)).toArray[i]?) = (ps'.map (entf f)).toArray ∧ ps'.length = ps.length ∧
      (∀ q, q ∈ ps' ↔ q ∈ ps) ∧ Tab t (ps'.map fun q => f q.2) ∧ t.led = led := by
  obtain ⟨t, order, e, el, em, nd, mem, T⟩ := laid_spec hm ((ps.map (entf f)).toArray.map (·.1)) (by simpa using hl) finger moves led
  have hsz : ((ps.map (entf f)).toArray.map (·.1)).size = ps.length := by simp
  obtain ⟨ps', f1, f2, f3, f4⟩ := filterMap_get ps.toArray order.toList fun k hk => by
    have := (mem k).mp hk; rw [hsz] at this; simpa using this
  have hlen : order.toList.length = ps.length := by
    have a1 := nodup_len (m := List.range ps.length) nd fun x hx => List.mem_range.mpr (by have := (mem x).mp hx; rwa [hsz] at this)
    have a2 := nodup_len (l := List.range ps.length) (m := order.toList) List.nodup_range fun x hx => (mem x).mpr (by rw [hsz]; exact List.mem_range.mp hx)
    simp at a1 a2 ⊢; omega
  refine ⟨t, order, ps', e, ?_, by omega, fun q => ⟨fun hq => ?_, fun hq => ?_⟩, ?_, el⟩
  · apply Array.toList_inj.mp
    rw [Array.toList_filterMap, ← f1]
    simp only [List.toList_toArray]
    rw [List.map_filterMap]
    congr 1
    funext i
    simp
  · obtain ⟨k, _, q2⟩ := f4 q hq
    rw [List.getElem?_toArray] at q2
    exact List.mem_of_getElem? q2
  · obtain ⟨k, hk, q2⟩ := List.mem_iff_getElem.mp hq
    have hko : k ∈ order.toList := (mem k).mpr (by rw [hsz]; exact hk)
    obtain ⟨i, hi, e2⟩ := List.mem_iff_getElem.mp hko
    have := f3 i k (by rw [List.getElem?_eq_getElem hi, e2])
    rw [List.getElem?_toArray, List.getElem?_eq_getElem hk, q2] at this
    exact List.mem_of_getElem? this
  · have : (order.toList.map fun k => ((ps.map (entf f)).toArray.map (·.1)).toList.getD k 0) = ps'.map fun q => f q.2 := by
      apply List.ext_getElem?
      intro i
      rw [List.getElem?_map, List.getElem?_map]
      cases hi : order.toList[i]? with
      | none =>
        have : ps'[i]? = none := List.getElem?_eq_none_iff.mpr (by rw [f2]; exact List.getElem?_eq_none_iff.mp hi)
        rw [this]; rfl
      | some k =>
        have hk : k < ps.length := by have := (mem k).mp (List.mem_of_getElem? hi); rwa [hsz] at this
        have := f3 i k hi
        rw [List.getElem?_toArray, List.getElem?_eq_getElem hk] at this
        rw [this]
        simp [hk]
    rw [← this]; exact T

theorem nodup_cover : ∀ {l m : List Int}, m.Nodup → (∀ x, x ∈ m → x ∈ l) → l.length ≤ m.length → l.Nodup
  | [], _, _, _, _ => List.nodup_nil
  | a :: l, m, hn, hs, hl => by
    by_cases ha : a ∈ m
    · have hnot : a ∉ l := fun z => by
        have := nodup_len (m := l) hn fun x hx => by
          rcases List.mem_cons.mp (hs x hx) with e | e
          · rw [e]; exact z
          · exact e
        simp only [List.length_cons] at hl; omega
      refine List.nodup_cons.mpr ⟨hnot, nodup_cover (m := m.erase a) (hn.erase a) (fun x hx => ?_) ?_⟩
      · have := (hn.mem_erase_iff).mp hx
        rcases List.mem_cons.mp (hs x this.2) with e | e
        · exact absurd e this.1
        · exact e
      · rw [List.length_erase_of_mem ha]; simp only [List.length_cons] at hl; omega
    · have := nodup_len (m := l) hn fun x hx => by
        rcases List.mem_cons.mp (hs x hx) with e | e
        · exact absurd (e ▸ hx) ha
        · exact e
      simp only [List.length_cons] at hl; omega
theorem set_scan_ref (a : Addr) (es : Array (Int × Value)) : byScan (.ref a) es = false := by unfold byScan Value.scannable; simp

theorem gaveWay_of {t : SetTable} (h : Mk3 t.mask) : t.gaveWay = false := by
  unfold SetTable.gaveWay
  rcases h with e | e | e <;> rw [e] <;> decide

/-- one more pair -/
theorem PSet.add {f : Pr → Int} (hinj : ∀ p q, Sm p → Sm q → f p = f q → p = q) {led : Bool} {S a : Addr} {ps : List (Addr × Pr)} {p : Pr} {Q : Bool → Shared → Prop} (P : PSet f prog w led s.heap S ps) (hk : PairAt prog w s.heap p a) (hs : Sm p) (hu : A.units < cLine)
    (h : ∀ (b : Bool) (h' : Heap) (ps' : List (Addr × Pr)), Heap.SameBut S s.heap h' → PSet f prog w led h' S ps' → (∀ q, q ∈ ps' → q ∈ ps ∨ q = (a, p)) → (∀ q, q ∈ ps → q ∈ ps') → (∃ q, q ∈ ps' ∧ q.2 = p) → Q b { s with heap := h' }) :
    wpAny (model prog w) A (setAddHashed S (.ref a) (f p)) Q E s := by
  obtain ⟨o, ep, t, ho, hex, hd, T, hled⟩ := P.ex
  have hfit : t.fits (ps.map (entf f)).toArray.size = true := fits_tab T (by simp)
  have ha : ∀ i, i < (ps.map fun q => f q.2).length → some ((((ps.map (entf f)).toArray)[i]?.map (·.1)).getD 0) = (ps.map fun q => f q.2)[i]? := fun i hi => by
    have hi' : i < ps.length := by simpa using hi
    simp [hi']
  unfold setAddHashed
  refine wpAny_holding ?_
  unfold setAddHashedIn
  refine wpAny_bind (wpAny_setState_of ho hd hfit ?_)
  dsimp only
  rw [set_scan_ref]
  simp only [Bool.false_eq_true, if_false]
  unfold setSearch
  rw [search_eq]
  refine wpAny_bind (wpAny_bind (wpAny_setState_of ho hd hfit ?_))
  dsimp only
  rw [gaveWay_of T.mask]
  simp only [Bool.false_eq_true, if_false]
  by_cases hm : f p ∈ ps.map fun q => f q.2
  · -- it is there
    obtain ⟨j, i, nx, e1, e2, e3, e4⟩ := T.present ha hm
    rw [e1]
    dsimp only
    have hi : i < ps.length := by simpa using e3
    have e5 : f (ps[i].2) = f p := by
      rw [List.getElem?_map, List.getElem?_eq_getElem hi] at e4
      simpa using e4
    have hq := P.at' ps[i] (List.getElem_mem hi)
    have e6 : ps[i].2 = p := hinj _ _ hq.2 hs e5
    have hget : ((ps.map (entf f)).toArray)[i]? = some (f ps[i].2, .ref ps[i].1) := by simp [hi]
    have rest : wpAny (model prog w) A (do
        let some (_, y) := ((ps.map (entf f)).toArray)[i]? | unsupported "internal:set-entry"
        let equal ← holding [y] (eqBool y (.ref a))
        let (es', _, t') ← setState S
        if true && equal then return SetFound.there none
        let some same := t'.sameMemory t.moves t.mask | unsupported "set.changed-during-lookup:is-the-new-block-at-the-old-address"
        let still ← match (if same then t'.slot j else .empty) with
          | .live i' => match es'[i']? with
            | some (_, y') => do pure (if ← isSame y' y then some i' else none)
            | none => pure none
          | _ => pure none
        match still with
        | none => rule "set.search.anew"; setSearchFrom S (.ref a) (f p) true 99999 none
        | some i' => if equal then return .there (some i') else setSearchFrom S (.ref a) (f p) true 99999 (some nx))
        (fun r s' => s' = s ∧ r = .there none) E s := by
      rw [hget]
      dsimp only
      refine wpAny_bind (wpAny_holding (wpAny_eqBool_tuple hu hq.1 hk ?_))
      rw [decide_eq_true (by rw [e6])]
      refine wpAny_bind (wpAny_setState_of ho hd hfit ?_)
      dsimp only
      simp only [Bool.and_self, if_true]
      exact wpAny_pure ⟨rfl, rfl⟩
    have fin : ∀ r s', s' = s ∧ r = SetFound.there none → wpAny (model prog w) A (match r with
        | .free slot wasDummy => (do
          let (es, _, t) ← setState S
          let (t, p') := t.put slot
          let byValue ← if t.plain then hashByValue 8 (.ref a) else pure true
          let t := if byValue then t else { t with plain := false }
          storeSet S (SetTable.insertAt es p' (f p, .ref a)) t
          if !wasDummy && t.tooFull then setRelay S (SetTable.grown (es.size + 1))
          return true)
        | _ => pure false) Q E s' := by
      rintro r s' ⟨rfl, rfl⟩
      exact wpAny_pure (h false s'.heap ps (Heap.SameBut.refl ..) P (fun q hq => .inl hq) (fun q hq => hq) ⟨ps[i], List.getElem_mem hi, e6⟩)
    cases hl : led with
    | true =>
      rw [hled, hl]
      simp only [Bool.not_true, Bool.false_eq_true, if_false]
      exact wpAny_mono rest (fun r s' hr => fin r s' hr) fun _ _ x => x
    | false =>
      rw [hled, hl]
      simp only [Bool.not_false, if_true]
      refine wpAny_bind (seen_pairs hk _ (fun v hv => ?_) ?_)
      · obtain ⟨x, hx, rfl⟩ := List.mem_map.mp hv
        have hx' : x ∈ (ps.map (entf f)).toArray := (Array.mem_filter.mp (Array.mem_toList_iff.mp hx)).1
        have hx2 : x ∈ ps.map (entf f) := by simpa using hx'
        obtain ⟨q, hq, rfl⟩ := List.mem_map.mp hx2
        exact ⟨q.2, q.1, rfl, (P.at' q hq).1⟩
      · simp only [Bool.false_eq_true, if_false]
        exact wpAny_mono rest (fun r s' hr => fin r s' hr) fun _ _ x => x
  · -- it is new
    obtain ⟨j, e1, e2, e3, e4⟩ := T.absent ha hm
    rw [e1]
    dsimp only
    refine wpAny_pure ?_
    dsimp only
    refine wpAny_bind (wpAny_setState_of ho hd hfit ?_)
    dsimp only
    obtain ⟨q1, q2⟩ := put_place t j T.dum
    have hpl : (t.put j).1.plain = true := by rw [q1]; exact T.plain
    rw [hpl]
    simp only [if_true]
    refine wpAny_bind (hashBy_pair hk ?_)
    simp only [if_true]
    have hb : (t.put j).2 ≤ ps.length := by
      rw [q2]
      have := (below_spec T.rise j).1
      rw [T.size] at this; simpa using this
    have hins : insertAt (ps.map (entf f)).toArray (t.put j).2 (f p, Value.ref a) = ((ps.take (t.put j).2 ++ (a, p) :: ps.drop (t.put j).2).map (entf f)).toArray := by
      apply Array.toList_inj.mp
      rw [insertAt_toList _ _ _ (by simpa using hb)]
      simp [List.map_take, List.map_drop]
    rw [hins]
    generalize hps' : ps.take (t.put j).2 ++ (a, p) :: ps.drop (t.put j).2 = ps1
    have mem1 : ∀ q, q ∈ ps1 ↔ q ∈ ps ∨ q = (a, p) := fun q => by
      rw [← hps', List.mem_append, List.mem_cons]
      conv => rhs; rw [← List.take_append_drop (t.put j).2 ps, List.mem_append]
      constructor
      · rintro (z | z | z)
        · exact .inl (.inl z)
        · exact .inr z
        · exact .inl (.inr z)
      · rintro ((z | z) | z)
        · exact .inl z
        · exact .inr (.inr z)
        · exact .inr (.inl z)
    have len1 : ps1.length = ps.length + 1 := by rw [← hps']; simp; omega
    have nd1 : (ps1.map (·.2)).Nodup := by
      have hnot : p ∉ ps.map (·.2) := fun z => by
        obtain ⟨q, hq, e⟩ := List.mem_map.mp z
        exact hm (List.mem_map.mpr ⟨q, hq, by rw [e]⟩)
      have perm : (ps1.map (·.2)).Perm (p :: ps.map (·.2)) := by
        rw [← hps']
        have : (ps.take (t.put j).2 ++ (a, p) :: ps.drop (t.put j).2).Perm ((a, p) :: ps) := by
          refine List.perm_middle.trans ?_
          rw [List.take_append_drop]
        exact this.map (·.2)
      exact perm.nodup_iff.mpr (List.nodup_cons.mpr ⟨hnot, P.nd⟩)
    have ne : ∀ b q, PairAt prog w s.heap q b → b ≠ S := fun b q ⟨o', _, _, ho', _, hd', _⟩ e => by
      subst e
      rw [ho] at ho'; cases ho'
      rw [hd] at hd'; cases hd'
    have at1 : ∀ {h' : Heap}, Heap.SameBut S s.heap h' → ∀ q, q ∈ ps1 → PairAt prog w h' q.2 q.1 ∧ Sm q.2 := fun {h'} hsb q hq => by
      have key : ∀ {b : Addr} {q : Pr}, PairAt prog w s.heap q b → PairAt prog w h' q b := fun {b q} hb => by
        have hne := ne b q hb
        obtain ⟨o', i', n', ho', r'⟩ := hb
        exact ⟨o', i', n', (hsb.2 b hne).trans ho', r'⟩
      rcases (mem1 q).mp hq with z | z
      · exact ⟨key (P.at' q z).1, (P.at' q z).2⟩
      · subst z; exact ⟨key hk, hs⟩
    have hlen64 : ps1.length ≤ 64 := by
      have := smalls_len nd1 fun x hx => by
        obtain ⟨q, hq, rfl⟩ := List.mem_map.mp hx
        exact (at1 (Heap.SameBut.refl ..) q hq).2
      simpa using this
    have hsize : ((ps1.map (entf f)).toArray).size ≤ sizeLine := by rw [sizeLine_eq]; simp; omega
    refine wpAny_bind (wpAny_storeSet_of ho hd ?_ hsize)
    have ho1 : (s.heap.update S (Obj.putSet (ps1.map (entf f)).toArray (t.put j).1)).get? S = some { o with data := .set (ps1.map (entf f)).toArray (ep + 1) (t.put j).1 } := by
      have := Heap.get?_update_self (Obj.putSet (ps1.map (entf f)).toArray (t.put j).1) ho (by rw [putSet_of _ _ hd]; rfl)
      rw [putSet_of _ _ hd] at this; exact this
    have sb1 := Heap.SameBut.update s.heap S (Obj.putSet (ps1.map (entf f)).toArray (t.put j).1)
    have hex1 : ({ o with data := .set (ps1.map (entf f)).toArray (ep + 1) (t.put j).1 } : Obj).ExactSet := hex
    have psz : (t.put j).1.place.size = ps.length + 1 := by
      rw [q1]
      show (insertAt t.place (below t.place j) j).size = _
      rw [← Array.length_toList, insertAt_toList _ _ _ (below_spec T.rise j).1]
      have := T.size
      simp at this ⊢
      have := (below_spec T.rise j).1
      omega
    have dum1 : (t.put j).1.dummies = #[] := by rw [q1]; exact T.dum
    have mask1 : (t.put j).1.mask = t.mask := by rw [q1]
    have tsz : t.place.size = ps.length := by simpa using T.size
    simp only [Bool.not_false, Bool.true_and]
    cases htf : (t.put j).1.tooFull with
    | false =>
      simp only [Bool.false_eq_true, if_false]
      have hload : (t.place.size + 1) * 5 < t.mask * 3 := by
        unfold SetTable.tooFull SetTable.fill at htf
        rw [psz, dum1, mask1] at htf
        simp at htf
        rw [tsz]; exact htf
      obtain ⟨T1, _⟩ := T.put e2 e3 e4 hload
      refine wpAny_bind (wpAny_pure (wpAny_pure (h true _ ps1 sb1 ⟨⟨_, ep + 1, _, ho1, hex1, rfl, ?_, ?_⟩, at1 sb1, nd1⟩ (fun q hq => (mem1 q).mp hq) (fun q hq => (mem1 q).mpr (.inl hq)) ⟨(a, p), (mem1 _).mpr (.inr rfl), rfl⟩)))
      · rw [← hps']
        simpa [List.map_take, List.map_drop] using T1
      · rw [q1]; exact hled
    | true =>
      simp only [if_true]
      have hfull : t.mask * 3 ≤ (ps.length + 1) * 5 := by
        unfold SetTable.tooFull SetTable.fill at htf
        rw [psz, dum1, mask1] at htf
        simpa using htf
      have hload := T.load
      rw [tsz] at hload
      -- which sizes
      have hcase : ∃ mask', Mk3 mask' ∧ sizeAbove (grown (ps.length + 1)) - 1 = mask' ∧ sizeAbove (grown (ps.length + 1)) ≤ sizeLine ∧ (ps.length + 1) * 5 < mask' * 3 := by
        rcases T.mask with e | e | e
        · have : ps.length + 1 = 5 := by rw [e] at hfull hload; omega
          rw [this, sizes.1]
          exact ⟨31, .inr (.inl rfl), rfl, by rw [sizeLine_eq]; decide, by decide⟩
        · have : ps.length + 1 = 19 := by rw [e] at hfull hload; omega
          rw [this, sizes.2]
          exact ⟨127, .inr (.inr rfl), rfl, by rw [sizeLine_eq]; decide, by decide⟩
        · rw [e] at hfull; omega
      obtain ⟨mask', hm3, em, hline, hl2⟩ := hcase
      have hes : (ps.map (entf f)).toArray.size + 1 = ps.length + 1 := by simp
      rw [hes, relay_eq]
      have hfit1 : (t.put j).1.fits ((ps1.map (entf f)).toArray).size = true := by
        unfold SetTable.fits SetTable.fill
        have hpl2 : ps.length + 1 ≤ t.mask := by
          rcases T.mask with e | e | e <;> rw [e] at hload ⊢ <;> omega
        rw [psz, dum1, mask1]
        simp [len1, hpl2]
      refine wpAny_bind (wpAny_bind (wpAny_setState_of ho1 rfl hfit1 ?_))
      dsimp only
      rw [if_neg (by omega)]
      rw [relaid_mask _ _ _ hpl, em]
      obtain ⟨t2, order, ps2, g1, g2, g3, g4, g5, g6⟩ := relay_pairsF f hm3 (ps := ps1) (by rw [len1]; exact hl2) (t.put j).1.finger ((t.put j).1.movedTo mask') (t.put j).1.led
      rw [g1]
      simp only [bind_pure_comp, pure_bind]
      rw [g2]
      have hne : ((ps2.map (entf f)).toArray.size != (ps1.map (entf f)).toArray.size) = false := by simp [g3]
      rw [hne]
      simp only [Bool.false_eq_true, if_false]
      have hsize2 : ((ps2.map (entf f)).toArray).size ≤ sizeLine := by rw [sizeLine_eq]; simp; omega
      refine wpAny_bind (wpAny_pure ?_)
      refine wpAny_storeSet_of ho1 rfl ?_ hsize2
      have ho2 : ((s.heap.update S (Obj.putSet (ps1.map (entf f)).toArray (t.put j).1)).update S (Obj.putSet (ps2.map (entf f)).toArray t2)).get? S = some { o with data := .set (ps2.map (entf f)).toArray (ep + 1 + 1) t2 } := by
        have := Heap.get?_update_self (Obj.putSet (ps2.map (entf f)).toArray t2) ho1 (by rw [putSet_of (ep := ep + 1) _ _ rfl]; rfl)
        rw [putSet_of (ep := ep + 1) _ _ rfl] at this; exact this
      have sb2 := sb1.trans (Heap.SameBut.update _ S (Obj.putSet (ps2.map (entf f)).toArray t2))
      have nd2 : (ps2.map (·.2)).Nodup := by
        have hmem : ∀ q, q ∈ ps2.map (·.2) ↔ q ∈ ps1.map (·.2) := fun q => by
          rw [List.mem_map, List.mem_map]
          exact ⟨fun ⟨x, hx, e⟩ => ⟨x, (g4 x).mp hx, e⟩, fun ⟨x, hx, e⟩ => ⟨x, (g4 x).mpr hx, e⟩⟩
        have hnd : (ps2.map fun q => f q.2).Nodup := by
          -- the hashes of ps1 all stand in ps2, which is no longer than they
          refine nodup_cover (m := ps1.map fun q => f q.2) ?_ (fun x hx => ?_) (by simp [g3])
          · have : (ps1.map fun q => f q.2) = (ps1.map (·.2)).map f := by simp
            rw [this]
            refine List.pairwise_map.mpr (List.Pairwise.imp_of_mem ?_ nd1)
            intro x y hx hy hxy e
            obtain ⟨q, hq, rfl⟩ := List.mem_map.mp hx
            obtain ⟨r, hr, rfl⟩ := List.mem_map.mp hy
            exact hxy (hinj _ _ (at1 sb1 q hq).2 (at1 sb1 r hr).2 e)
          · obtain ⟨q, hq, rfl⟩ := List.mem_map.mp hx
            exact List.mem_map.mpr ⟨q, (g4 q).mpr hq, rfl⟩
        have : (ps2.map fun q => f q.2) = (ps2.map (·.2)).map f := by simp
        rw [this] at hnd
        exact (List.pairwise_map.mp hnd).imp fun hxy e => hxy (by rw [e])
      refine wpAny_pure (h true _ ps2 sb2 ⟨⟨_, ep + 1 + 1, t2, ho2, hex, rfl, g5, ?_⟩, fun q hq => at1 sb2 q ((g4 q).mp hq), nd2⟩ (fun q hq => (mem1 q).mp ((g4 q).mp hq)) (fun q hq => (g4 q).mpr ((mem1 q).mpr (.inl hq))) ⟨(a, p), (g4 _).mpr ((mem1 _).mpr (.inr rfl)), rfl⟩)
      rw [g6, q1]; exact hled
end
end L2.ST

end

section
set_option linter.all false
set_option maxRecDepth 100000
namespace L2.ST
open PySem PySem.SetTable
/-- sets of this world are led by their tables -/
def ledW (w : World) : Bool := !(w.params.followText "set-order")
def hpK (prog : Program) (w : World) (p : Pr) : Int := tupleKeyHash (intKind prog w) [p.1, p.2]
theorem hpK_inj (prog : Program) (w : World) : ∀ p q, Sm p → Sm q → hpK prog w p = hpK prog w q → p = q := fun p q h1 h2 e => hp_inj h1 h2 e

section
variable {prog : Program} {w : World} {A : Around} {E : Value → Shared → Prop} {s : Shared} {R : Result → Shared → Prop} {I : Addr} {fp wr : List Addr} {n : Nat} {P : Nat → Value → Prop} {St : Nat → Heap → Prop}

/-- of each of these values a pair is known -/
def PairsAt (prog : Program) (w : World) (h : Heap) (vs : List Value) (ps : List Pr) : Prop := vs.length = ps.length ∧ ∀ (i : Nat) (v : Value) (p : Pr), vs[i]? = some v → ps[i]? = some p → ∃ a, v = .ref a ∧ PairAt prog w h p a ∧ Sm p

abbrev FullSet (prog : Program) (w : World) (h : Heap) (S : Addr) (vs : List Value) (ps : List Pr) (k : Nat) : Prop := ∃ qs : List (Addr × Pr), PSet (hpK prog w) prog w (ledW w) h S qs ∧
  (∀ q, q ∈ qs → Value.ref q.1 ∈ vs.take k ∧ q.2 ∈ ps.take k) ∧ ∀ p, p ∈ ps.take k → p ∈ qs.map (·.2)

theorem update_loop_pairs (W : Walks prog w A.in1 I fp wr n P St) (S : Addr) (hSf : S ∉ fp) {vs : List Value} {ps : List Pr} (hn : vs.length = n) (hP : ∀ i v, P i v → vs[i]? = some v) (hu : A.in1.units < cLine) (h₀ : Heap)
    (hps : PairsAt prog w h₀ vs ps) (hwr : ∀ b o, b ∈ S :: wr → h₀.get? b = some o → False) : ∀ (k i : Nat) (s : Shared), n - i = k → i ≤ n → St i s.heap → (∀ b o, h₀.get? b = some o → s.heap.get? b = some o) → FullSet prog w s.heap S vs ps i →
      (∀ h' tk, (∀ b o, b ∉ S :: wr → s.heap.get? b = some o → h'.get? b = some o) → FullSet prog w h' S vs ps n → R (.ok (.ret .none)) { s with heap := h', toks := tk }) →
      codeAny (model prog w) A (.builtin "set.update.loop" ⟨[.ref S, .ref I], []⟩) R s := by
  have nw : S ∉ wr := fun h => hSf (W.sub _ h)
  intro k
  induction k with
  | zero =>
    intro i s hk hi hst hk0 hF hR
    obtain rfl : i = n := by omega
    refine codeAny_builtin PyProof.Rows.F.entry_set_update_loop ?_
    rw [Around.under_plainId PyProof.Rows.F.plain_set_update_loop _]
    show wpAny _ A.in1 (pyNext (.ref I) >>= fun r => _) _ _ s
    refine wpAny_bind (W.done s _ _ hst fun h' tk hm => ?_)
    show wpAny _ A.in1 (ret Value.none) _ _ _
    refine wpAny_pure (hR h' tk (fun b o hb e => hm b o (fun z => hb (List.mem_cons_of_mem _ z)) e) ?_)
    obtain ⟨qs, Q1, Q2, Q3⟩ := hF
    obtain ⟨o, ep, t, ho, r⟩ := Q1.ex
    refine ⟨qs, ⟨⟨o, ep, t, hm S o nw ho, r⟩, fun q hq => ⟨?_, (Q1.at' q hq).2⟩, Q1.nd⟩, Q2, Q3⟩
    obtain ⟨m, hm1, hm2⟩ := List.mem_iff_getElem.mp (List.mem_of_mem_take (Q2 q hq).1)
    have hm1' : m < ps.length := by rw [← hps.1]; exact hm1
    obtain ⟨a, ea, ha, _⟩ := hps.2 m vs[m] ps[m] (List.getElem?_eq_getElem hm1) (List.getElem?_eq_getElem hm1')
    rw [hm2] at ea
    cases ea
    obtain ⟨o', it', n', ho', r'⟩ := (Q1.at' q hq).1
    obtain ⟨o2, it2, n2, ho2, r2⟩ := ha
    have : o' = o2 := Option.some.inj (ho'.symm.trans (hk0 _ _ ho2))
    subst this
    exact ⟨o', it', n', hm _ _ (fun z => hwr _ _ (List.mem_cons_of_mem _ z) ho2) ho', r'⟩
  | succ k ih =>
    intro i s hk hi hst hk0 hF hR
    have hlt : i < n := by omega
    refine codeAny_builtin PyProof.Rows.F.entry_set_update_loop ?_
    rw [Around.under_plainId PyProof.Rows.F.plain_set_update_loop _]
    show wpAny _ A.in1 (pyNext (.ref I) >>= fun r => _) _ _ s
    refine wpAny_bind (W.item i s _ _ hlt hst fun v h1 tk1 hv hst1 hm => ?_)
    have hvi := hP i v hv
    have hip : i < ps.length := by rw [← hps.1, hn]; exact hlt
    obtain ⟨a, rfl, ha, hsm⟩ := hps.2 i v ps[i] hvi (List.getElem?_eq_getElem hip)
    have k1 : ∀ b o, h₀.get? b = some o → h1.get? b = some o := fun b o e => hm b o (fun z => hwr b o (List.mem_cons_of_mem _ z) e) (hk0 b o e)
    obtain ⟨qs, Q1, Q2, Q3⟩ := hF
    have old : ∀ {q : Addr × Pr} {h : Heap}, q ∈ qs → (∀ b o, h₀.get? b = some o → h.get? b = some o) → PairAt prog w h q.2 q.1 := fun {q h} hq kk => by
      obtain ⟨m, hm1, hm2⟩ := List.mem_iff_getElem.mp (List.mem_of_mem_take (Q2 q hq).1)
      have hm1' : m < ps.length := by rw [← hps.1]; exact hm1
      obtain ⟨a, ea, ha, _⟩ := hps.2 m vs[m] ps[m] (List.getElem?_eq_getElem hm1) (List.getElem?_eq_getElem hm1')
      rw [hm2] at ea
      cases ea
      obtain ⟨o', it', n', ho', r'⟩ := (Q1.at' q hq).1
      obtain ⟨o2, it2, n2, ho2, r2⟩ := ha
      have : o' = o2 := Option.some.inj (ho'.symm.trans (hk0 _ _ ho2))
      subst this
      exact ⟨o', it', n', kk _ _ ho2, r'⟩
    have P1 : PSet (hpK prog w) prog w (ledW w) h1 S qs := by
      obtain ⟨o, ep, t, ho, r⟩ := Q1.ex
      exact ⟨⟨o, ep, t, hm S o nw ho, r⟩, fun q hq => ⟨old hq k1, (Q1.at' q hq).2⟩, Q1.nd⟩
    have ha1 : PairAt prog w h1 ps[i] a := by
      obtain ⟨o', it', n', ho', r'⟩ := ha
      exact ⟨o', it', n', k1 _ _ ho', r'⟩
    show wpAny _ A.in1 (holding [Value.ref a] (setAdd S (.ref a)) >>= fun _ => _) _ _ _
    refine wpAny_bind (wpAny_holding ?_)
    unfold setAdd
    refine wpAny_holding (wpAny_bind (wpAny_pyHash_tuple hu ha1 ?_))
    refine PSet.add (hpK_inj prog w) (s := { s with heap := h1, toks := tk1 + ([ps[i].1, ps[i].2].length + 1) }) P1 ha1 hsm hu fun b h2 qs' sb P2 m1 m2 m3 => ?_
    have sbS : ∀ b o, h₀.get? b = some o → h2.get? b = some o := fun b o e => (sb.2 b (fun z => hwr b o (by rw [z]; exact List.mem_cons_self) e)).trans (k1 b o e)
    refine wpAny_pure ⟨plainId_quiet PyProof.Rows.F.plain_set_update_loop _, ih (i + 1) _ (by omega) hlt (W.frame _ _ _ hst1 fun b hb o e => ?_) sbS ⟨qs', P2, fun q hq => ?_, fun p hp => ?_⟩ fun h' tk hm' F' => ?_⟩
    · rw [sb.2 b fun z => hSf (by rw [← z]; exact hb)]; exact e
    · have htk : ∀ {α : Type} {l : List α} {x : α}, x ∈ l.take i → x ∈ l.take (i + 1) := fun {α l x} hx => by
        rw [List.take_add_one]; exact List.mem_append_left _ hx
      rcases m1 q hq with z | z
      · exact ⟨htk (Q2 q z).1, htk (Q2 q z).2⟩
      · subst z
        refine ⟨?_, ?_⟩
        · rw [List.take_add_one, hvi]; exact List.mem_append_right _ (by simp)
        · rw [List.take_add_one, List.getElem?_eq_getElem hip]; exact List.mem_append_right _ (by simp)
    · rw [List.take_add_one, List.getElem?_eq_getElem hip] at hp
      rcases List.mem_append.mp hp with z | z
      · obtain ⟨q, hq, rfl⟩ := List.mem_map.mp (Q3 p z)
        exact List.mem_map.mpr ⟨q, m2 q hq, rfl⟩
      · have : p = ps[i] := by simpa using z
        obtain ⟨q, hq, e⟩ := m3
        exact List.mem_map.mpr ⟨q, hq, by rw [e, this]⟩
    · refine hR h' tk (fun b o hb e => hm' b o hb ?_) F'
      show h2.get? b = some o
      rw [sb.2 b fun z => hb (by rw [z]; exact List.mem_cons_self)]
      exact hm b o (fun z => hb (List.mem_cons_of_mem _ z)) e

theorem set_new_led (a : Value) {Q1 : Value → Shared → Prop}
    (h : Q1 (.ref s.heap.objs.size) { s with heap := s.heap.push { cls := .type "set", dict := none, data := .set #[] 0 (.fresh 0 0 (ledW w)) } }) :
    codeAny (model prog w) A (.call (.builtin "set.__new__") ⟨[.type "set", a], []⟩) (wants Q1 E) s := by
  refine codeAny_of_tree ?_
  show wpAny _ A.in1 (do (checkBuiltinCall "set.__new__" ⟨[.type "set", a], []⟩); again (.builtin "set.__new__" ⟨[.type "set", a], []⟩)) _ _ s
  refine wpAny_bind (wpAny_of_eq (F.newCall_set_1 a) (wpAny_pure ⟨plainId_quiet F.plain_set_new _, codeAny_builtin F.entry_set_new ?_⟩))
  rw [Around.under_plainId F.plain_set_new _]
  (unfold Builtin.«set.__new__» Builtin.Frozenset.newClass)
  have hsub0 := sub_set_self
  obtain ⟨hp0, g0, d0, tk0, os0⟩ := s
  dsimp only
  wp_walk
  (refine wpAny_askSetting (wpAny_pure ?_))
  dsimp only
  simp only [newObj]
  (refine wpAny_bind (wpAny_alloc (wpAny_pure ?_)))
  exact wpAny_pure h

theorem tab_fresh (led : Bool) : Tab (.fresh 0 0 led) [] :=
  ⟨.inl rfl, rfl, List.Pairwise.nil, fun j h => (by cases (Array.mem_toList_iff.mpr h)), rfl, (by show (0 : Nat) * 5 < 7 * 3; decide), fun i j h e => (by simp [SetTable.fresh] at e), rfl⟩

/-- what a source of values is, for set(..) -/
structure Src (prog : Program) (w : World) (h : Heap) (l : Addr) (vs : List Value) (T : String) (itO : Obj) (St : Addr → Nat → Heap → Prop) : Prop where
  ty : ∃ o, h.get? l = some o ∧ o.cls = .type T
  ns : isSubtype (.type T) (.type "set") = pure false
  nf : isSubtype (.type T) (.type "frozenset") = pure false
  nd : (Value.type T == Value.type "dict") = false
  it : ∀ (A : Around) (s1 : Shared) (Q : Value → Shared → Prop) (E : Value → Shared → Prop), (∀ b o, h.get? b = some o → s1.heap.get? b = some o) → Q (.ref s1.heap.objs.size) { s1 with heap := s1.heap.push itO } → wpAny (model prog w) A (pyIter (.ref l)) Q E s1
  st : ∀ (h1 : Heap), (∀ b o, h.get? b = some o → h1.get? b = some o) → St h1.objs.size 0 (h1.push itO)
  wk : ∀ (A : Around) (I : Addr), A.handled = none → l ≠ I → Walks prog w A I [I, l] [I] vs.length (fun i v => vs[i]? = some v) (St I)
theorem Src.list {h : Heap} {l : Addr} {vs : List Value} (hl : h.IsList l vs.toArray) : Src prog w h l vs "list" { cls := .type "list_iterator", data := .fields #[.ref l, .int 0 0] } (fun I i h' => h'.IsListIter I l i ∧ h'.IsList l vs.toArray) := by
  obtain ⟨o, ho, hc, n, hd⟩ := id hl
  refine ⟨⟨o, ho, hc⟩, F.sub_list_set, F.sub_list_frozenset, by decide, fun A s1 Q E k hQ => wpAny_pyIter_list ⟨o, k _ _ ho, hc, n, hd⟩ hQ, fun h1 k => ⟨⟨_, Heap.get?_push_size _ rfl, rfl, rfl⟩, ⟨o, Heap.get?_push_of_some _ (k _ _ ho), hc, n, hd⟩⟩, fun A I hh hne => ?_⟩
  have := Walks.list (prog := prog) (w := w) hh I l hne vs.toArray
  simpa using this
theorem sub_tuple_set : isSubtype (.type "tuple") (.type "set") = pure false := by rw [isSubtype_type]; kernel_rfl
theorem sub_tuple_frozenset : isSubtype (.type "tuple") (.type "frozenset") = pure false := by rw [isSubtype_type]; kernel_rfl
theorem Src.tuple {h : Heap} {l : Addr} {vs : List Value} (hl : h.IsTuple l vs.toArray) : Src prog w h l vs "tuple" { cls := .type "tuple_iterator", data := .fields #[.ref l, .int 0 0] } (fun I i h' => h'.IsTupleIter I l i ∧ h'.IsTuple l vs.toArray) := by
  obtain ⟨o, ho, hc, n, hd⟩ := id hl
  refine ⟨⟨o, ho, hc⟩, sub_tuple_set, sub_tuple_frozenset, by decide, fun A s1 Q E k hQ => wpAny_pyIter_tuple ⟨o, k _ _ ho, hc, n, hd⟩ hQ, fun h1 k => ⟨⟨_, Heap.get?_push_size _ rfl, rfl, rfl⟩, ⟨o, Heap.get?_push_of_some _ (k _ _ ho), hc, n, hd⟩⟩, fun A I hh hne => ?_⟩
  have := Walks.tuple (prog := prog) (w := w) hh I l hne vs.toArray
  simpa using this

set_option maxHeartbeats 3200000 in
/-- set(xs), xs of small pairs -/
theorem call_set_pairs {l : Addr} {vs : List Value} {ps : List Pr} {T : String} {itO : Obj} {St : Addr → Nat → Heap → Prop} {Q : Value → Shared → Prop} (X : Src prog w s.heap l vs T itO St) (hh : A.handled = none) (hu : A.units + 64 < cLine) (hps : PairsAt prog w s.heap vs ps)
    (h : ∀ (h' : Heap) (tk : Nat), FullSet prog w h' s.heap.objs.size vs ps vs.length → (∀ b o, s.heap.get? b = some o → h'.get? b = some o) → Q (.ref s.heap.objs.size) { s with heap := h', toks := tk }) :
    wpAny (model prog w) A (call (.type "set") [.ref l]) Q E s := by
  obtain ⟨c0, tl0, hmro0⟩ := F.called_set.mro
  have hmade0 := F.called_set.made
  have hsub0 := F.called_set.sub
  refine wpAny_call (codeAny_of_tree ?_)
  show wpAny _ _ (callAny (.type "set") ⟨[.ref l], []⟩) _ _ _
  refine wpAny_pure ⟨Code.quiet_builtin _ (by decide +kernel), codeAny_builtin F.entry_type_call ?_⟩
  (rw [Around.under_plain (weight_type_call_type "set" [.ref l] []) rfl])
  have g1 := F.called_set.notType
  have g2 := F.called_set.canCreate
  have g3 := F.typeCall_set_1 (.ref l)
  repeat (any_goals (first | assumption | wp_step))
  refine codeAny_mono (set_new_led (.ref l) (E := E) (Q1 := fun obj s1 => obj = .ref s.heap.objs.size ∧ s1 = { s with heap := s.heap.push { cls := .type "set", dict := none, data := .set #[] 0 (.fresh 0 0 (ledW w)) } }) ⟨rfl, rfl⟩) fun r s1 hr => ?_
  cases r with
  | error e => exact hr
  | ok fl =>
    cases fl with
    | ret obj =>
      obtain ⟨rfl, rfl⟩ := hr
      generalize hO : ({ cls := .type "set", dict := none, data := .set #[] 0 (.fresh 0 0 (ledW w)) } : Obj) = O
      have hS0 : (s.heap.push O).get? s.heap.objs.size = some O := Heap.get?_push_size _ (by rw [← hO]; rfl)
      have hT0 : Shared.TypeIs { s with heap := s.heap.push O } (.ref s.heap.objs.size) "set" := ⟨_, hS0, by rw [← hO]⟩
      have g4 := F.called_set.init.lookup
      have g5 := F.called_set.init.bind (.ref s.heap.objs.size)
      repeat (any_goals (first | assumption | wp_step))
      refine codeAny_mono (codeAny_call_builtin (R := wants (fun r s2 => r = .none ∧ ∃ h' tk, s2 = { s with heap := h', toks := tk } ∧ FullSet prog w h' s.heap.objs.size vs ps vs.length ∧ (∀ b o, s.heap.get? b = some o → h'.get? b = some o)) E)
        F.called_set.init.plain F.entry_set_init (check_set_init_1 hT0 ?_)) fun r2 s2 hr2 => ?_
      · obtain ⟨ol, hol, hcl⟩ := X.ty
        have hol' : (s.heap.push O).get? l = some ol := Heap.get?_push_of_some _ hol
        have e1 := X.ns
        have e2 := X.nf
        have e3 := X.nd
        have hTl : Shared.TypeIs { s with heap := s.heap.push O } (.ref l) T := ⟨ol, hol', hcl⟩
        have hdat : O.data = .set #[] 0 (.fresh 0 0 (ledW w)) := by rw [← hO]
        (unfold Builtin.«set.__init__» noKeywords Builtin.Frozenset.updateFrom)
        subst hO
        obtain ⟨oc, od, odt, osl⟩ := ol
        simp only at hcl
        subst hcl
        (generalize hPI0 : pyIter = PI0)
        wp_walk
        subst hPI0
        have kp : ∀ b o, s.heap.get? b = some o → (s.heap.push { cls := .type "set", dict := none, data := .set #[] 0 (.fresh 0 0 (ledW w)) }).get? b = some o := fun b o e => Heap.get?_push_of_some _ e
        refine X.it _ _ _ _ kp ?_
        refine wpAny_bind (wpAny_runValue ?_)
        have hlS : l < s.heap.objs.size := Heap.lt_size hol
        have hh3 : A.in1.in1.in1.handled = none := by simp [hh]
        have hneI : l ≠ (s.heap.push { cls := .type "set", dict := none, data := .set #[] 0 (.fresh 0 0 (ledW w)) }).objs.size := by
          rw [Heap.size_push]; exact Nat.ne_of_lt (Nat.lt_succ_of_lt hlS)
        have hSf : s.heap.objs.size ∉ [(s.heap.push { cls := .type "set", dict := none, data := .set #[] 0 (.fresh 0 0 (ledW w)) }).objs.size, l] := by
          rw [Heap.size_push]
          intro z
          rcases List.mem_cons.mp z with e | z
          · exact absurd e (Nat.ne_of_lt (Nat.lt_succ_self _))
          · exact absurd (List.mem_singleton.mp z) (Nat.ne_of_gt hlS)
        refine update_loop_pairs (X.wk _ _ hh3 hneI) s.heap.objs.size hSf rfl (fun i v e => e) (by simp; omega) s.heap hps (fun b o hb e => ?_) (vs.length - 0) 0 _ (by omega) (Nat.zero_le _) (X.st _ kp) (fun b o e => Heap.get?_push_of_some _ (kp b o e)) ?_ ?_
        · have hlt := Heap.lt_size e
          rw [Heap.size_push] at hb
          rcases List.mem_cons.mp hb with z | z
          · exact absurd hlt (by rw [z]; exact Nat.lt_irrefl _)
          · rw [List.mem_singleton.mp z] at hlt
            exact absurd hlt (Nat.not_lt.mpr (Nat.le_succ _))
        · refine ⟨[], ⟨⟨_, 0, _, Heap.get?_push_of_some _ hS0, ⟨rfl, rfl, rfl⟩, rfl, tab_fresh _, rfl⟩, fun q hq => (by cases hq), List.nodup_nil⟩, fun q hq => (by cases hq), fun p hp => (by simp at hp)⟩
        · intro h' tk hm F'
          show wpAny _ _ _ _ _ _
          refine wpAny_pure ?_
          show wpAny _ _ (ret Value.none) _ _ _
          refine wpAny_pure ⟨rfl, h', tk, rfl, F', fun b o e => hm b o (fun z => ?_) (Heap.get?_push_of_some _ (kp b o e))⟩
          have hlt := Heap.lt_size e
          rw [Heap.size_push] at z
          rcases List.mem_cons.mp z with z | z
          · exact absurd hlt (by rw [z]; exact Nat.lt_irrefl _)
          · rw [List.mem_singleton.mp z] at hlt
            exact absurd hlt (Nat.not_lt.mpr (Nat.le_succ _))
      · cases r2 with
        | error e => exact hr2
        | ok fl2 =>
          cases fl2 with
          | ret r =>
            obtain ⟨rfl, h', tk, rfl, hF, hk⟩ := hr2
            repeat (any_goals (first | assumption | wp_step))
            exact h _ _ hF hk
          | _ => exact hr2.elim
    | _ => exact hr.elim
end
end L2.ST

end

section
set_option linter.all false
namespace L2.SO
open PySem PySem.W PyProof.Rows

/-- the tree run by a plain comparison -/
def runT {α : Type} (lt : Nat → Nat → Bool) : KasT α → α
  | .ret a => a
  | .ask i j k => runT lt (k (lt i j))
theorem runT_bind {α β : Type} (lt : Nat → Nat → Bool) (f : α → KasT β) : ∀ t : KasT α, runT lt (t.bind f) = runT lt (f (runT lt t))
  | .ret _ => rfl
  | .ask i j k => runT_bind lt f (k (lt i j))

/-- what is asked on the way that is gone lies below n -/
def okT {α : Type} (n : Nat) (lt : Nat → Nat → Bool) : KasT α → Prop
  | .ret _ => True
  | .ask i j k => i < n ∧ j < n ∧ okT n lt (k (lt i j))
theorem okT_bind {α β : Type} {n : Nat} {lt : Nat → Nat → Bool} {f : α → KasT β} : ∀ {t : KasT α}, okT n lt t → okT n lt (f (runT lt t)) → okT n lt (t.bind f)
  | .ret _, _, h => h
  | .ask i j k, h, h' => ⟨h.1, h.2.1, okT_bind h.2.2 h'⟩
section
variable {n : Nat} {key : Nat → Int}
abbrev ltK (key : Nat → Int) (i j : Nat) : Bool := decide (key i < key j)
abbrev Kp (key : Nat → Int) (p : Array Nat) (k : Nat) : Int := key (p.getD k 0)
/-- a rearrangement of 0 .. n - 1 -/
structure Pm (n : Nat) (p : Array Nat) : Prop where
  sz : p.size = n
  nd : p.toList.Nodup
  lt : ∀ x, x ∈ p → x < n
theorem Pm.at {p : Array Nat} (P : Pm n p) {k : Nat} (hk : k < n) : p.getD k 0 < n := by
  have h : k < p.size := by rw [P.sz]; exact hk
  simp only [Array.getD, h, dif_pos]
  exact P.lt _ (Array.getElem_mem h)
theorem Pm.ne {p : Array Nat} (P : Pm n p) {i k : Nat} (hi : i < n) (hk : k < n) (hne : i ≠ k) : p.getD i 0 ≠ p.getD k 0 := by
  have h1 : i < p.toList.length := by simpa using (by rw [P.sz]; exact hi : i < p.size)
  have h2 : k < p.toList.length := by simpa using (by rw [P.sz]; exact hk : k < p.size)
  have h1' : i < p.size := by rw [P.sz]; exact hi
  have h2' : k < p.size := by rw [P.sz]; exact hk
  have a1 : p.getD i 0 = p.toList[i] := by simp [Array.getD, h1']
  have a2 : p.getD k 0 = p.toList[k] := by simp [Array.getD, h2']
  rw [a1, a2]
  have q := List.pairwise_iff_getElem.mp P.nd
  rcases Nat.lt_or_ge i k with c | c
  · exact q i k h1 h2 c
  · exact (q k i h2 h1 (by omega)).symm
theorem Pm.perm {p q : Array Nat} (P : Pm n p) (h : q.Perm p) : Pm n q := by
  have h' := Array.perm_iff_toList_perm.mp h
  exact ⟨by rw [h.size_eq]; exact P.sz, h'.nodup_iff.mpr P.nd, fun x hx => P.lt x (by simpa using h'.mem_iff.mp (by simpa using hx))⟩
theorem pm_range (n : Nat) : Pm n (List.toArray (List.range n)) := ⟨by simp, by simpa using List.nodup_range, fun x hx => by simpa using hx⟩
def Inj (n : Nat) (key : Nat → Int) : Prop := ∀ i j, i < n → j < n → key i = key j → i = j
theorem Pm.tri {p : Array Nat} (P : Pm n p) (hi : Inj n key) {i k : Nat} (h1 : i < n) (h2 : k < n) (hne : i ≠ k) : Kp key p i < Kp key p k ∨ Kp key p k < Kp key p i := by
  have : Kp key p i ≠ Kp key p k := fun e => P.ne h1 h2 hne (hi _ _ (P.at h1) (P.at h2) e)
  omega
def Up (key : Nat → Int) (p : Array Nat) (m : Nat) : Prop := ∀ i j, i < j → j < m → Kp key p i < Kp key p j
def Dn (key : Nat → Int) (p : Array Nat) (m : Nat) : Prop := ∀ i j, i < j → j < m → Kp key p j < Kp key p i
theorem Up.snoc {p : Array Nat} {m : Nat} (U : Up key p m) (h1 : 1 ≤ m) (h : Kp key p (m - 1) < Kp key p m) : Up key p (m + 1) := fun i j hij hj => by
  rcases Nat.lt_or_ge j m with c | c
  · exact U i j hij c
  · have : j = m := by omega
    subst this
    rcases Nat.lt_or_ge i (j - 1) with d | d
    · exact Int.lt_trans (U i (j - 1) d (by omega)) h
    · have : i = j - 1 := by omega
      rw [this]; exact h
theorem Dn.snoc {p : Array Nat} {m : Nat} (U : Dn key p m) (h1 : 1 ≤ m) (h : Kp key p m < Kp key p (m - 1)) : Dn key p (m + 1) := fun i j hij hj => by
  rcases Nat.lt_or_ge j m with c | c
  · exact U i j hij c
  · have : j = m := by omega
    subst this
    rcases Nat.lt_or_ge i (j - 1) with d | d
    · exact Int.lt_trans h (U i (j - 1) d (by omega))
    · have : i = j - 1 := by omega
      rw [this]; exact h
theorem asc_spec {p : Array Nat} (P : Pm n p) (hi : Inj n key) : ∀ (f m : Nat), 1 ≤ m → m + f ≤ n → Up key p m →
    ∃ r, (runT (ltK key) (kas_asc p f m) = r ∧ okT n (ltK key) (kas_asc p f m)) ∧ m ≤ r ∧ r ≤ m + f ∧ Up key p r ∧ (r < m + f → Kp key p r < Kp key p (r - 1))
  | 0, m, _, _, U => ⟨m, ⟨rfl, trivial⟩, Nat.le_refl _, Nat.le_refl _, U, fun h => absurd h (Nat.lt_irrefl _)⟩
  | f + 1, m, h1, hn, U => by
    have b1 : p.getD m 0 < n := P.at (by omega)
    have b2 : p.getD (m - 1) 0 < n := P.at (by omega)
    unfold kas_asc runT okT
    by_cases c : Kp key p m < Kp key p (m - 1)
    · rw [show ltK key (p.getD m 0) (p.getD (m - 1) 0) = true from decide_eq_true c]
      simp only [if_true]
      exact ⟨m, ⟨rfl, b1, b2, trivial⟩, Nat.le_refl _, by omega, U, fun _ => c⟩
    · rw [show ltK key (p.getD m 0) (p.getD (m - 1) 0) = false from decide_eq_false c]
      simp only [Bool.false_eq_true, if_false]
      have up : Kp key p (m - 1) < Kp key p m := (P.tri hi (by omega) (by omega) (by omega)).resolve_right c
      obtain ⟨r, ⟨e, o⟩, a, b, u, d⟩ := asc_spec P hi f (m + 1) (by omega) (by omega) (U.snoc h1 up)
      exact ⟨r, ⟨e, b1, b2, o⟩, by omega, by omega, u, fun h => d (by omega)⟩
theorem desc_spec {p : Array Nat} (P : Pm n p) (hi : Inj n key) : ∀ (f m : Nat), 1 ≤ m → m + f ≤ n → Dn key p m →
    ∃ r, (runT (ltK key) (kas_desc f p m 0) = (p, r, 0) ∧ okT n (ltK key) (kas_desc f p m 0)) ∧ m ≤ r ∧ r ≤ m + f ∧ Dn key p r
  | 0, m, _, _, U => ⟨m, ⟨rfl, trivial⟩, Nat.le_refl _, Nat.le_refl _, U⟩
  | f + 1, m, h1, hn, U => by
    have b1 : p.getD m 0 < n := P.at (by omega)
    have b2 : p.getD (m - 1) 0 < n := P.at (by omega)
    unfold kas_desc runT okT
    by_cases c : Kp key p m < Kp key p (m - 1)
    · rw [show ltK key (p.getD m 0) (p.getD (m - 1) 0) = true from decide_eq_true c]
      simp only [if_true, Nat.lt_irrefl, gt_iff_lt, if_false]
      obtain ⟨r, ⟨e, o⟩, a, b, u⟩ := desc_spec P hi f (m + 1) (by omega) (by omega) (U.snoc h1 c)
      exact ⟨r, ⟨e, b1, b2, o⟩, by omega, by omega, u⟩
    · rw [show ltK key (p.getD m 0) (p.getD (m - 1) 0) = false from decide_eq_false c]
      simp only [Bool.false_eq_true, if_false]
      unfold runT okT
      have up : Kp key p (m - 1) < Kp key p m := (P.tri hi (by omega) (by omega) (by omega)).resolve_right c
      rw [show ltK key (p.getD (m - 1) 0) (p.getD m 0) = true from decide_eq_true up]
      simp only [if_true]
      exact ⟨m, ⟨rfl, b1, b2, b2, b1, trivial⟩, Nat.le_refl _, by omega, U⟩
theorem rev_at {p : Array Nat} {j k : Nat} (hj : j ≤ p.size) (hk : k < j) : (kas_rev p 0 j).getD k 0 = p.getD (j - 1 - k) 0 := by
  unfold kas_rev
  rw [Array.getD_eq_getD_getElem?, getElem?_mirror_all hj k, if_pos ⟨Nat.zero_le _, hk⟩, Array.getD_eq_getD_getElem?]
  congr 2
  omega
theorem rev_up {p : Array Nat} {m : Nat} (hm : m ≤ p.size) (D : Dn key p m) : Up key (kas_rev p 0 m) m := fun i j hij hj => by
  unfold Kp
  rw [rev_at hm (by omega), rev_at hm hj]
  exact D (m - 1 - j) (m - 1 - i) (by omega) (by omega)
theorem Pm.rev {p : Array Nat} (P : Pm n p) (j : Nat) : Pm n (kas_rev p 0 j) := P.perm (mirror_perm ..)
theorem count_spec {p : Array Nat} (P : Pm n p) (hi : Inj n key) (h1 : 1 ≤ n) :
    ∃ m q, (runT (ltK key) (kas_count n p) = (m, q) ∧ okT n (ltK key) (kas_count n p)) ∧ Pm n q ∧ 1 ≤ m ∧ m ≤ n ∧ Up key q m := by
  obtain ⟨r, ⟨e, o⟩, a, b, u, d⟩ := asc_spec P hi (n - 1) 1 (Nat.le_refl _) (by omega) (fun i j hij hj => by omega)
  have rest : ∃ m q, (runT (ltK key) (if (r == n) = true then KasT.ret (r, p) else if r > 1 then .ask (p.getD 0 0) (p.getD (r - 1) 0) fun c => if c = true then .ret (r, p) else kas_descPart r n (kas_rev p 0 r) else kas_descPart r n p) = (m, q) ∧
      okT n (ltK key) (if (r == n) = true then KasT.ret (r, p) else if r > 1 then .ask (p.getD 0 0) (p.getD (r - 1) 0) fun c => if c = true then .ret (r, p) else kas_descPart r n (kas_rev p 0 r) else kas_descPart r n p)) ∧ Pm n q ∧ 1 ≤ m ∧ m ≤ n ∧ Up key q m := by
    by_cases c : (r == n) = true
    · rw [if_pos c]
      exact ⟨r, p, ⟨rfl, trivial⟩, P, a, by omega, u⟩
    · rw [if_neg c]
      have hrn : r ≠ n := by simpa using c
      have dd := d (by omega)
      by_cases c2 : r > 1
      · rw [if_pos c2]
        unfold runT okT
        rw [show ltK key (p.getD 0 0) (p.getD (r - 1) 0) = true from decide_eq_true (u 0 (r - 1) (by omega) (by omega))]
        simp only [if_true]
        exact ⟨r, p, ⟨rfl, P.at (by omega), P.at (by omega), trivial⟩, P, a, by omega, u⟩
      · rw [if_neg c2]
        have hr1 : r = 1 := by omega
        subst hr1
        unfold kas_descPart
        rw [runT_bind]
        have D2 : Dn key p 2 := fun i j hij hj => by
          have e1 : i = 0 := by omega
          have e2 : j = 1 := by omega
          rw [e1, e2]; exact dd
        obtain ⟨x, ⟨e2, o2⟩, a2, b2, u2⟩ := desc_spec P hi (n - 2) 2 (by omega) (by omega) D2
        obtain ⟨y, ⟨e3, o3⟩, a3, b3, u3, _⟩ := asc_spec (P.rev x) hi (n - x) x (by omega) (by omega) (rev_up (by rw [P.sz]; omega) u2)
        rw [show n - (1 + 1) = n - 2 from rfl, show (1 + 1 : Nat) = 2 from rfl]
        have t3 : okT n (ltK key) (kas_tail3 x n p) := by
          unfold kas_tail3
          exact okT_bind o3 trivial
        refine ⟨y, kas_rev p 0 x, ⟨?_, okT_bind o2 ?_⟩, P.rev x, by omega, by omega, u3⟩
        · rw [e2]
          simp only [Nat.lt_irrefl, gt_iff_lt, if_false]
          unfold kas_tail3
          rw [runT_bind, e3]
          rfl
        · rw [e2]
          simp only [Nat.lt_irrefl, gt_iff_lt, if_false]
          exact t3
  obtain ⟨m, q, ⟨f1, f2⟩, f3⟩ := rest
  refine ⟨m, q, ⟨?_, ?_⟩, f3⟩
  · unfold kas_count
    rw [runT_bind, e]
    exact f1
  · unfold kas_count
    refine okT_bind o ?_
    rw [e]
    exact f2
theorem place_spec {p : Array Nat} {k : Nat} (P : Pm n p) (hi : Inj n key) (hk : k < n) (U : Up key p k) : ∀ (f l r : Nat), l ≤ r → r ≤ k → r - l ≤ f → (∀ i, i < l → Kp key p i < Kp key p k) → (∀ i, r ≤ i → i < k → Kp key p k < Kp key p i) →
    ∃ x, (runT (ltK key) (kas_place p k f l r) = x ∧ okT n (ltK key) (kas_place p k f l r)) ∧ x ≤ k ∧ (∀ i, i < x → Kp key p i < Kp key p k) ∧ (∀ i, x ≤ i → i < k → Kp key p k < Kp key p i)
  | 0, l, r, h1, h2, h3, a, b => ⟨l, ⟨rfl, trivial⟩, by omega, a, fun i hi => b i (by omega)⟩
  | f + 1, l, r, h1, h2, h3, a, b => by
    unfold kas_place
    by_cases c : l ≥ r
    · rw [if_pos c]
      exact ⟨l, ⟨rfl, trivial⟩, by omega, a, fun i hi => b i (by omega)⟩
    · rw [if_neg c]
      have b1 : p.getD k 0 < n := P.at hk
      have b2 : p.getD ((l + r) / 2) 0 < n := P.at (by omega)
      unfold runT okT
      by_cases d : Kp key p k < Kp key p ((l + r) / 2)
      · rw [show ltK key (p.getD k 0) (p.getD ((l + r) / 2) 0) = true from decide_eq_true d]
        simp only [if_true]
        have side : ∀ i, (l + r) / 2 ≤ i → i < k → Kp key p k < Kp key p i := fun i h1 h2 => by
          rcases Nat.lt_or_ge ((l + r) / 2) i with z | z
          · exact Int.lt_trans d (U _ _ z h2)
          · have : i = (l + r) / 2 := by omega
            rw [this]; exact d
        obtain ⟨x, ⟨e1, e2⟩, e3⟩ := place_spec P hi hk U f l ((l + r) / 2) (by omega) (by omega) (by omega) a side
        exact ⟨x, ⟨e1, b1, b2, e2⟩, e3⟩
      · rw [show ltK key (p.getD k 0) (p.getD ((l + r) / 2) 0) = false from decide_eq_false d]
        simp only [Bool.false_eq_true, if_false]
        have d' : Kp key p ((l + r) / 2) < Kp key p k := (P.tri hi (by omega) hk (by omega)).resolve_right d
        have side : ∀ i, i < (l + r) / 2 + 1 → Kp key p i < Kp key p k := fun i h => by
          rcases Nat.lt_or_ge i ((l + r) / 2) with z | z
          · exact Int.lt_trans (U _ _ z (by omega)) d'
          · have : i = (l + r) / 2 := by omega
            rw [this]; exact d'
        obtain ⟨x, ⟨e1, e2⟩, e3⟩ := place_spec P hi hk U f ((l + r) / 2 + 1) r (by omega) h2 (by omega) side b
        exact ⟨x, ⟨e1, b1, b2, e2⟩, e3⟩
theorem bub_at {p : Array Nat} {k l j : Nat} (hk : k < p.size) (hl : l ≤ k) : (bubble p k (k - l)).getD j 0 = if j = l then p.getD k 0 else if l < j ∧ j ≤ k then p.getD (j - 1) 0 else p.getD j 0 := by
  rw [Array.getD_eq_getD_getElem?, getElem?_bubble hk (k - l) (by omega) j, show k - (k - l) = l by omega]
  simp only [Array.getD_eq_getD_getElem?]
  split
  · rfl
  · split <;> rfl
theorem bin_spec (hi : Inj n key) : ∀ (f k : Nat) (p : Array Nat), Pm n p → 1 ≤ k → k + f = n → Up key p k → ∃ q, (runT (ltK key) (kas_bin f p k) = q ∧ okT n (ltK key) (kas_bin f p k)) ∧ Pm n q ∧ Up key q n
  | 0, k, p, P, _, e, U => ⟨p, ⟨rfl, trivial⟩, P, by rw [← e]; exact U⟩
  | f + 1, k, p, P, h1, e, U => by
    have hk : k < n := by omega
    obtain ⟨l, ⟨el, ol⟩, hl, a, b⟩ := place_spec P hi hk U k 0 k (Nat.zero_le _) (Nat.le_refl _) (by omega) (fun i h => by omega) (fun i h h' => by omega)
    have side : Up key (bubble p k (k - l)) (k + 1) := fun i j hij hj => by
      have hks : k < p.size := by rw [P.sz]; exact hk
      unfold Kp
      rw [bub_at hks hl, bub_at hks hl]
      by_cases i1 : i = l
      · rw [if_pos i1, if_neg (by omega)]
        by_cases j2 : l < j ∧ j ≤ k
        · rw [if_pos j2]; exact b _ (by omega) (by omega)
        · omega
      · rw [if_neg i1]
        by_cases i2 : l < i ∧ i ≤ k
        · rw [if_pos i2, if_neg (by omega), if_pos (by omega)]
          exact U _ _ (by omega) (by omega)
        · rw [if_neg i2]
          by_cases j1 : j = l
          · rw [if_pos j1]; exact a _ (by omega)
          · rw [if_neg j1]
            by_cases j2 : l < j ∧ j ≤ k
            · rw [if_pos j2]
              rcases Nat.lt_or_ge i (j - 1) with z | z
              · exact U _ _ z (by omega)
              · omega
            · rw [if_neg j2]; exact U _ _ hij (by omega)
    obtain ⟨q, ⟨q1, q2⟩, q3⟩ := bin_spec hi f (k + 1) (bubble p k (k - l)) (P.perm (bubble_perm ..)) (by omega) (by omega) side
    refine ⟨q, ⟨?_, ?_⟩, q3⟩
    · unfold kas_bin; rw [runT_bind, el]; exact q1
    · unfold kas_bin; refine okT_bind ol ?_; rw [el]; exact q2
/-- the tree sorts -/
theorem sort_spec (hi : Inj n key) (h2 : 2 ≤ n) : ∃ q, (runT (ltK key) (kas_sort n) = q ∧ okT n (ltK key) (kas_sort n)) ∧ Pm n q ∧ Up key q n := by
  obtain ⟨m, q, ⟨e, o⟩, P, a, b, u⟩ := count_spec (pm_range n) hi (by omega)
  by_cases c : m < n
  · obtain ⟨q', ⟨e1, o1⟩, r⟩ := bin_spec hi (n - m) m q P a (by omega) u
    refine ⟨q', ⟨?_, ?_⟩, r⟩
    · unfold kas_sort; rw [runT_bind, e]; dsimp only; rw [if_pos c, Nat.max_eq_left a]; exact e1
    · unfold kas_sort; refine okT_bind o ?_; rw [e]; dsimp only; rw [if_pos c, Nat.max_eq_left a]; exact o1
  · refine ⟨q, ⟨?_, ?_⟩, P, fun i j hij hj => u i j hij (by omega)⟩
    · unfold kas_sort; rw [runT_bind, e]; dsimp only; rw [if_neg c]; rfl
    · unfold kas_sort; refine okT_bind o ?_; rw [e]; dsimp only; rw [if_neg c]; trivial
/-- asked of the machine: the answers come without a change -/
theorem wp_run {α : Type} {n : Nat} {lt : Nat → Nat → Bool} {cmp : Nat → Nat → (Bool → Shared → Prop) → Shared → Prop} {Q : α → Shared → Prop} {s : Shared} :
    ∀ (t : KasT α), (∀ i j C, i < n → j < n → C (lt i j) s → cmp i j C s) → okT n lt t → Q (runT lt t) s → t.kasWp cmp Q s
  | .ret a, _, _, h => h
  | .ask i j k, hc, ho, h => hc i j _ ho.1 ho.2.1 (wp_run (k (lt i j)) hc ho.2.2 h)
end
end L2.SO

end

section
set_option linter.all false
set_option maxRecDepth 100000
set_option maxHeartbeats 1000000
namespace L2.ST
open PySem PySem.SetTable PySem.W PyProof.Rows
/-- a small pair as one number -/
def code (p : Pr) : Int := p.1 * 8 + p.2
theorem code_lt {p q : Pr} (h1 : Sm p) (h2 : Sm q) : code p < code q ↔ p.1 < q.1 ∨ (p.1 = q.1 ∧ p.2 < q.2) := by
  unfold code Sm at *; omega
theorem code_inj {p q : Pr} (h1 : Sm p) (h2 : Sm q) (e : code p = code q) : p = q := by
  unfold code Sm at *
  refine Prod.ext ?_ ?_ <;> omega
section
variable {prog : Program} {w : World} {A : Around} {E : Value → Shared → Prop} {s : Shared}
abbrev keyP (ps : List Pr) (i : Nat) : Int := code (ps.getD i (0, 0))
theorem keyP_inj {ps : List Pr} (nd : ps.Nodup) (hs : ∀ p, p ∈ ps → Sm p) : L2.SO.Inj ps.length (keyP ps) := fun i j hi hj e => by
  have a1 : ps.getD i (0, 0) = ps[i] := by simp [hi]
  have a2 : ps.getD j (0, 0) = ps[j] := by simp [hj]
  unfold keyP at e
  rw [a1, a2] at e
  have e' := code_inj (hs _ (List.getElem_mem hi)) (hs _ (List.getElem_mem hj)) e
  have q := List.pairwise_iff_getElem.mp nd
  rcases Nat.lt_trichotomy i j with c | c | c
  · exact absurd e' (q i j hi hj c)
  · exact c
  · exact absurd e'.symm (q j i hj hi c)

theorem pair_lt {a b : Addr} {p q : Pr} {Q : Bool → Shared → Prop} (ha : PairAt prog w s.heap p a) (hb : PairAt prog w s.heap q b) (hp : Sm p) (hq : Sm q) (h : Q (decide (code p < code q)) s) :
    wpAny (model prog w) A (keyLt' (tuples' true) (.ref a) (.ref b)) Q E s := by
  obtain ⟨oa, ia, na, hoa, hca, hda, hia⟩ := ha
  obtain ⟨ob, ib, nb, hob, hcb, hdb, hib⟩ := hb
  obtain ⟨l1, rfl⟩ : ∃ l, ia = List.toArray l := ⟨ia.toList, by simp⟩
  obtain ⟨l2, rfl⟩ : ∃ l, ib = List.toArray l := ⟨ib.toList, by simp⟩
  simp only [List.toList_toArray] at hia hib
  cases hia with
  | @cons _ v1 _ _ h1 hia =>
    cases hia with
    | @cons _ v2 _ _ h2 hia =>
      cases hia
      cases hib with
      | @cons _ u1 _ _ g1 hib =>
        cases hib with
        | @cons _ u2 _ _ g2 hib =>
          cases hib
          obtain ⟨t1, rfl⟩ := Value.isInt_shape h1
          obtain ⟨t2, rfl⟩ := Value.isInt_shape h2
          obtain ⟨t3, rfl⟩ := Value.isInt_shape g1
          obtain ⟨t4, rfl⟩ := Value.isInt_shape g2
          refine kat_lt hoa hda hob hdb ?_
          have hc := code_lt hp hq
          refine kat_cons (wpAny_eqBool_int ?_)
          by_cases e1 : p.1 = q.1
          · rw [show (p.1 == q.1) = true by simpa using e1]
            refine kat_yes (kat_cons (wpAny_eqBool_int ?_))
            by_cases e2 : p.2 = q.2
            · rw [show (p.2 == q.2) = true by simpa using e2]
              refine kat_yes (kat_nil ?_)
              have : decide (code p < code q) = false := decide_eq_false (by rw [hc]; omega)
              rw [this] at h
              simpa using h
            · rw [show (p.2 == q.2) = false by simpa using e2]
              refine kat_no ?_
              show wpAny _ _ (oneLt' false _ _) _ _ _
              refine kat_one _ _ (lt_int ?_)
              have : decide (code p < code q) = decide (p.2 < q.2) := by
                by_cases z : p.2 < q.2
                · rw [decide_eq_true z]; exact decide_eq_true (hc.mpr (.inr ⟨e1, z⟩))
                · rw [decide_eq_false z]; exact decide_eq_false (by rw [hc]; omega)
              rw [this] at h; exact h
          · rw [show (p.1 == q.1) = false by simpa using e1]
            refine kat_no ?_
            show wpAny _ _ (oneLt' true _ _) _ _ _
            refine oneLt_int ?_
            have : decide (code p < code q) = decide (p.1 < q.1) := by
              by_cases z : p.1 < q.1
              · rw [decide_eq_true z]; exact decide_eq_true (hc.mpr (.inl z))
              · rw [decide_eq_false z]; exact decide_eq_false (by rw [hc]; omega)
            rw [this] at h; exact h

theorem tups_of : ∀ {vs : List Value} {ps : List Pr}, PairsAt prog w s.heap vs ps → ∃ fs, KatTups s.heap vs fs ∧ fs.length = vs.length ∧ ∀ v ∈ fs, ∃ (i : Int) (t : Tok), v = .int i t
  | [], ps, _ => ⟨[], KatTups.nil, rfl, fun v hv => by cases hv⟩
  | v :: vs, [], h => by have := h.1; simp at this
  | v :: vs, p :: ps, h => by
    obtain ⟨a, rfl, ⟨o, items, n, ho, hc, hd, hi⟩, _⟩ := h.2 0 v p rfl rfl
    obtain ⟨fs, k, e, f⟩ := tups_of (vs := vs) (ps := ps) ⟨by simpa using h.1, fun i v p h1 h2 => h.2 (i + 1) v p (by simpa using h1) (by simpa using h2)⟩
    obtain ⟨l1, rfl⟩ : ∃ l, items = List.toArray l := ⟨items.toList, by simp⟩
    simp only [List.toList_toArray] at hi
    cases hi with
    | @cons _ v1 _ _ h1 hi =>
      obtain ⟨t1, rfl⟩ := Value.isInt_shape h1
      exact ⟨_ :: fs, KatTups.cons ho hc hd rfl k, by simp [e], fun v hv => by
        rcases List.mem_cons.mp hv with z | z
        · exact ⟨_, _, z⟩
        · exact f v z⟩

/-- list.sort() of a list of small pairs, each once -/
theorem lsort_pairs {a : Addr} {vs : List Value} {ps : List Pr} {n : Nat} {P : PySem.Fin → Shared → Prop} (ho : s.heap.get? a = some (seqObj "list" vs.toArray n)) (hps : PairsAt prog w s.heap vs ps) (nd : ps.Nodup) (h64 : vs.length < 64)
    (h : ∀ (h' : Heap) (c : Nat) (ix : Array Nat), L2.SO.Pm vs.length ix → L2.SO.Up (keyP ps) ix vs.length → (∀ b o, b ≠ a → s.heap.get? b = some o → h'.get? b = some o) →
      h'.get? a = some (seqObj "list" (ix.toList.map fun i => vs.getD i Value.none).toArray c) → P (.done (.ret .none)) { s with heap := h' }) :
    wpAny (model prog w) A (Builtin.«list.sort» ⟨[.ref a], []⟩) P E s := by
  have ha : a < s.heap.objs.size := Heap.lt_size ho
  obtain ⟨e1, ho1⟩ : ∃ e1, (s.heap.update a (Obj.mapSeq fun _ => (#[] : Array Value))).get? a = some (seqObj "list" #[] e1) := ⟨_, get?_update_seq ho fun _ => #[]⟩
  generalize hH1 : (s.heap.update a (Obj.mapSeq fun _ => (#[] : Array Value))) = H1 at ho1
  have sb1 : Heap.SameBut a s.heap H1 := by rw [← hH1]; exact Heap.SameBut.update ..
  have kp2 : ∀ b o, H1.get? b = some o → ((H1.push (seqObj "tuple" vs.toArray 0)).push (seqObj "list" #[] 0)).get? b = some o := fun b o e => Heap.get?_push_of_some _ (Heap.get?_push_of_some _ e)
  generalize hH2 : ((H1.push (seqObj "tuple" vs.toArray 0)).push (seqObj "list" #[] 0)) = H2 at kp2
  have kp : ∀ b o, b ≠ a → s.heap.get? b = some o → H2.get? b = some o := fun b o hb e => kp2 b o ((sb1.2 b hb).trans e)
  have ho2 := kp2 _ _ ho1
  have hps2 : PairsAt prog w H2 vs ps := ⟨hps.1, fun i v p h1 h2 => by
    obtain ⟨b, e, ⟨o, it, m, hb, hc, hd, r⟩, hs⟩ := hps.2 i v p h1 h2
    refine ⟨b, e, ⟨o, it, m, kp b o (fun z => ?_) hb, hc, hd, r⟩, hs⟩
    subst z
    rw [ho] at hb; cases hb
    exact absurd hc (by simp [seqObj])⟩
  have hz : vs.length ≤ sizeLine := by rw [sizeLine_eq]; omega
  rw [list_sort_plain]
  refine wpAny_bind (listItems_at ho rfl (wpAny_bind (listUpdate_at ho rfl ?_ (by simpa using hz) (Nat.zero_le _))))
  rw [hH1]
  refine wpAny_bind (seqEpoch_at (s := { s with heap := H1 }) ho1 rfl (wpAny_bind (wpAny_newTuple ?_ (by simpa using hz))))
  refine wpAny_bind (wpAny_newList ?_ (Nat.zero_le _))
  refine wpAny_holding ?_
  show wpAny (model prog w) A _ P E { s with heap := (H1.push (seqObj "tuple" vs.toArray 0)).push (seqObj "list" #[] 0) }
  rw [hH2]
  -- the end, for an order of the things
  have fin : ∀ (ix : Array Nat) (st : SortSt), L2.SO.Pm vs.length ix → L2.SO.Up (keyP ps) ix vs.length → (arrOf st).map (·.2) = List.toArray (ix.toList.map fun i => vs.getD i Value.none) → failedOf st = none →
      wpAny (model prog w) A (do
        let sorted := (arrOf st).map (·.2)
        let touched := (← seqEpoch a) != e1
        Builtin.List.listUpdate (.ref a) fun _ => sorted
        if let some e := failedOf st then rule "list.sort.comparison-raised"; throw e
        if touched then rule "list.sort.modified"; raiseError "ValueError" "list modified during sort"
        ret .none) P E { s with heap := H2 } := fun ix st P1 U1 hout hf => by
    dsimp only
    rw [hout]
    have hsz : (List.toArray (ix.toList.map fun i => vs.getD i Value.none)).size = vs.length := by simp [P1.sz]
    refine wpAny_bind (seqEpoch_at (s := { s with heap := H2 }) ho2 rfl ?_)
    refine wpAny_bind (listUpdate_at (s := { s with heap := H2 }) ho2 rfl ?_ (Nat.zero_le _) (Nat.le_trans (Nat.le_of_eq hsz) (Nat.le_succ_of_le hz)))
    rw [hf]
    simp only [bne_self_eq_false, Bool.false_eq_true, if_false]
    obtain ⟨c2, hc2⟩ : ∃ c2, (H2.update a (Obj.mapSeq fun _ => List.toArray (ix.toList.map fun i => vs.getD i Value.none))).get? a = some (seqObj "list" (List.toArray (ix.toList.map fun i => vs.getD i Value.none)) c2) := ⟨_, get?_update_seq ho2 fun _ => List.toArray (ix.toList.map fun i => vs.getD i Value.none)⟩
    exact wpAny_pure (h _ c2 ix P1 U1 (fun b o hb e => ((Heap.SameBut.update H2 a _).2 b hb).trans (kp b o hb e)) hc2)
  by_cases h2 : vs.length < 2
  · have h2' : vs.toArray.size < 2 := by simpa using h2
    dsimp only
    rw [if_pos h2', if_pos h2']
    refine wpAny_bind (wpAny_pure ?_)
    rw [StateT.run_pure]
    refine wpAny_bind (wpAny_pure ?_)
    refine fin (List.toArray (List.range vs.length)) (SortSt.mk' general' (vs.toArray.zip vs.toArray) #[] 7 none) (L2.SO.pm_range _) (fun i j hij hj => by omega) ?_ rfl
    have : ∀ {l : List Value}, l.length < 2 → ((l.toArray.zip l.toArray).map (·.2)) = List.toArray ((List.range l.length).map fun i => l.getD i Value.none) := fun {l} hl => by
      match l, hl with
      | [], _ => simp
      | [x], _ => simp
    exact (this h2).trans (by simp)
  · have h2' : ¬ vs.toArray.size < 2 := by simpa using h2
    dsimp only
    rw [if_neg h2', if_neg h2']
    obtain ⟨fs, kt, fl, ff⟩ := tups_of (s := { s with heap := H2 }) hps2
    refine wpAny_bind (kat_kind (s := { s with heap := H2 }) (T := .type "int") kt (by omega) (fun v hv => ?_) (by decide) ?_)
    · obtain ⟨i, t, rfl⟩ := ff v hv
      exact .now
    · rw [show ((Value.type "int" != Value.type "tuple") : Bool) = true by decide]
      have hinj : L2.SO.Inj vs.length (keyP ps) := by
        rw [hps.1]
        refine keyP_inj nd fun p hp => ?_
        obtain ⟨i, hi, e⟩ := List.mem_iff_getElem.mp hp
        have hi' : i < vs.length := by rw [hps.1]; exact hi
        obtain ⟨_, _, _, hs⟩ := hps.2 i vs[i] p (List.getElem?_eq_getElem hi') (by rw [List.getElem?_eq_getElem hi, e])
        exact hs
      obtain ⟨ix, ⟨er, ok⟩, P1, U1⟩ := L2.SO.sort_spec hinj (by omega)
      refine wpAny_bind (wpAny_mono (kat_run (s := { s with heap := H2 }) (κ := tuples' true) (ks := vs) (Q := fun st s' => s' = { s with heap := H2 } ∧ arrOf st = ix.map (kas_item (vs.toArray.zip vs.toArray)) ∧ failedOf st = none)
        (G := fun p s' => p = ix ∧ s' = { s with heap := H2 }) rfl (by omega) h64 (fun p st s' a1 a2 a3 a4 => ?_) (L2.SO.wp_run (n := vs.length) (lt := L2.SO.ltK (keyP ps)) _ (fun i j C hi hj hC => ?_) ok ⟨er, rfl⟩)) ?_ fun _ _ x => x)
      · obtain ⟨rfl, rfl⟩ := a4
        exact ⟨rfl, a2, a3⟩
      · unfold kas_ask
        have hi' : i < ps.length := by rw [← hps.1]; exact hi
        have hj' : j < ps.length := by rw [← hps.1]; exact hj
        obtain ⟨b1, eb1, hb1, s1⟩ := hps2.2 i vs[i] ps[i] (List.getElem?_eq_getElem hi) (List.getElem?_eq_getElem hi')
        obtain ⟨b2, eb2, hb2, s2⟩ := hps2.2 j vs[j] ps[j] (List.getElem?_eq_getElem hj) (List.getElem?_eq_getElem hj')
        have e1 : vs.getD i Value.none = .ref b1 := by rw [← eb1]; simp [hi]
        have e2 : vs.getD j Value.none = .ref b2 := by rw [← eb2]; simp [hj]
        rw [e1, e2]
        refine pair_lt (s := { s with heap := H2 }) hb1 hb2 s1 s2 ?_
        have : L2.SO.ltK (keyP ps) i j = decide (code ps[i] < code ps[j]) := by
          unfold L2.SO.ltK keyP; simp [hi', hj']
        rw [← this]; exact hC
      · rintro ⟨⟨⟩, st⟩ s' ⟨rfl, har, hf⟩
        exact fin ix st P1 U1 (kat_snds rfl har) hf
end
end L2.ST

end

section
set_option linter.all false
set_option maxRecDepth 100000
set_option maxHeartbeats 1000000
namespace L2.ST
open PySem PySem.SetTable PySem.W PyProof.Rows
theorem slot_setit_next : Slot "set_iterator" "__next__" "set_iterator.__next__" :=
  Slot.of (owner := "set_iterator") (n := "__next__") (by rw [typeLookup_type, builtinLookup_eq_fast]; kernel_rfl) (by decide +kernel) (by decide +kernel) (by decide +kernel) (by first | exact .inl (by decide +kernel) | exact .inr (by decide +kernel)) (by rw [isSubtype_type]; kernel_rfl)
theorem entry_setit_next : entryFor table "set_iterator.__next__" = some Builtin.«set_iterator.__next__» := entryFor_of_tree (by kernel_rfl)
theorem args_setit_next (a : Value) : argsOk "set_iterator.__next__" ⟨[a], []⟩ := by unfold argsOk; kernel_rfl
theorem entry_set_iter : entryFor table "set.__iter__" = some Builtin.«frozenset.__iter__» := entryFor_alias (id' := "frozenset.__iter__") (by kernel_rfl) rfl (by decide +kernel) (by kernel_rfl)
theorem slot_setit_iter : Slot "set_iterator" "__iter__" "set_iterator.__iter__" :=
  Slot.of (owner := "set_iterator") (n := "__iter__") (by rw [typeLookup_type, builtinLookup_eq_fast]; kernel_rfl) (by decide +kernel) (by decide +kernel) (by decide +kernel) (by first | exact .inl (by decide +kernel) | exact .inr (by decide +kernel)) (by rw [isSubtype_type]; kernel_rfl)
theorem entry_setit_iter : entryFor table "set_iterator.__iter__" = some Builtin.«dict_keyiterator.__iter__» := entryFor_alias (id' := "dict_keyiterator.__iter__") (by kernel_rfl) rfl (by decide +kernel) (by kernel_rfl)
theorem args_setit_iter (a : Value) : argsOk "set_iterator.__iter__" ⟨[a], []⟩ := by unfold argsOk; kernel_rfl
theorem next_eq (a : Addr) (slot given ep0 : Nat) : setNext a slot given ep0 = (do
    let (es, epoch, t) ← setState a
    if (← ask).params.followText "set-order" then
      if epoch != ep0 then unsupported "set_iterator.__next__:elements-changed"
      return ((← setWalk a)[given]?).map fun e => (e.2, slot)
    if !t.plain && es.size > 1 then unsupported "set_iterator.__next__:the-table-is-plain-no-more"
    let u : Unit ← (show Sem Unit from do if !t.led && !es.isEmpty then unsupported "set:maker-not-led")
    let i := SetTable.below t.place slot
    return match es[i]?, t.place[i]? with
      | some (_, x), some j => some (x, j + 1)
      | _, _ => none) := by
  unfold setNext setsByText
  simp only [bind_assoc, pure_bind]
  rfl
theorem walk_eq (a : Addr) : setWalk a = (do
    let (es, epoch, t) ← setState a
    if (← ask).params.followText "set-order" then return pickOrder ((← ask).params.setOrder a epoch) es
    if !t.plain && es.size > 1 then return (← drawOrder es.size es.toList).toArray
    let u : Unit ← (show Sem Unit from do if !t.led && es.size > 1 then unsupported "set:maker-not-led")
    return es) := by
  unfold setWalk setsByText
  simp only [bind_assoc, pure_bind]
  rfl
theorem drawn_eq (a : Addr) : setDrawn a = (do
    let (es, _, t) ← setState a
    let byText ← (do return (← ask).params.followText "set-order")
    return !byText && (!t.plain && es.size > 1)) := rfl

theorem erase_perm {α : Type} : ∀ (l : List α) (i : Nat) (h : i < l.length), (l[i] :: l.eraseIdx i).Perm l
  | a :: l, 0, _ => List.Perm.refl _
  | a :: l, i + 1, h => by
    have hi : i < l.length := by simpa using h
    show (l[i] :: a :: l.eraseIdx i).Perm (a :: l)
    exact (List.Perm.swap ..).trans ((erase_perm l i hi).cons a)
theorem pick_perm {α : Type} (next : Nat → Nat) : ∀ (fuel k : Nat) (left : List α) (out : Array α), left.length = fuel → (pickOrder.go next fuel k left out).toList.Perm (out.toList ++ left)
  | 0, k, left, out, h => by
    have : left = [] := List.length_eq_zero_iff.mp h
    subst this
    unfold pickOrder.go
    simp
  | fuel + 1, k, left, out, h => by
    unfold pickOrder.go
    have hlt : next k % left.length < left.length := Nat.mod_lt _ (by omega)
    rw [List.getElem?_eq_getElem hlt]
    dsimp only
    refine (pick_perm next fuel (k + 1) _ _ (by rw [List.length_eraseIdx_of_lt hlt]; omega)).trans ?_
    rw [Array.toList_push, List.append_assoc]
    refine List.Perm.append_left _ ?_
    exact erase_perm left _ hlt
theorem pickOrder_perm {α : Type} (next : Nat → Nat) (xs : Array α) : (pickOrder next xs).toList.Perm xs.toList := by
  have := pick_perm next xs.size 0 xs.toList #[] (by simp)
  simpa [pickOrder] using this

section
variable {prog : Program} {w : World} {A : Around} {E : Value → Shared → Prop} {s : Shared}
/-- the members in the order in which they are told -/
def told (w : World) (S : Addr) (ep : Nat) (es : Array (Int × Value)) : Array (Int × Value) := if w.params.followText "set-order" then pickOrder (w.params.setOrder S ep) es else es
theorem told_perm (w : World) (S : Addr) (ep : Nat) (es : Array (Int × Value)) : (told w S ep es).toList.Perm es.toList := by
  unfold told; split
  · exact pickOrder_perm _ _
  · exact List.Perm.refl _
abbrev setIt (S : Addr) (slot k n ep : Nat) : Obj := { cls := .type "set_iterator", data := .fields #[.int (slot : Int) 0, .int (k : Int) 0, .ref S, .int (n : Int) 0, .int (ep : Int) 0] }
/-- the walk over a set of pairs stands before its k-th member -/
structure SetWalk (w : World) (S : Addr) (o : Obj) (es : Array (Int × Value)) (ep : Nat) (t : SetTable) (I : Addr) (k : Nat) (h : Heap) : Prop where
  set : h.get? S = some o
  data : o.data = .set es ep t
  cls : o.cls = .type "set"
  tab : Tab t (es.toList.map (·.1))
  led : t.led = ledW w
  it : ∃ slot, h.get? I = some (setIt S slot k es.size ep) ∧ (ledW w = true → slot = if k = 0 then 0 else t.place.getD (k - 1) 0 + 1)
theorem SetWalk.fits {S I : Addr} {o : Obj} {es : Array (Int × Value)} {ep k : Nat} {t : SetTable} {h : Heap} (X : SetWalk w S o es ep t I k h) : t.fits es.size = true := fits_tab X.tab (by simp)

theorem next_wp {S I : Addr} {o : Obj} {es : Array (Int × Value)} {ep k slot : Nat} {t : SetTable} {Q : Option (Value × Nat) → Shared → Prop} (X : SetWalk w S o es ep t I k s.heap) (hk : k ≤ es.size) (hs : ledW w = true → slot = if k = 0 then 0 else t.place.getD (k - 1) 0 + 1)
    (h : ∀ (r : Option (Value × Nat)), (k < es.size → ∃ x nx, r = some (x, nx) ∧ (told w S ep es)[k]?.map (·.2) = some x ∧ (ledW w = true → nx = t.place.getD k 0 + 1)) → (k = es.size → r = none) → Q r s) :
    wpAny (model prog w) A (setNext S slot k ep) Q E s := by
  rw [next_eq]
  refine wpAny_bind (wpAny_setState_of X.set X.data X.fits ?_)
  dsimp only
  refine wpAny_bind (wpAny_askSetting ?_)
  dsimp only
  cases hb : w.params.followText "set-order" with
  | true =>
    rw [if_pos (show (model prog w).w.params.followText "set-order" = true from hb)]
    simp only [bne_self_eq_false, Bool.false_eq_true, if_false]
    rw [walk_eq]
    refine wpAny_bind (wpAny_bind (wpAny_setState_of X.set X.data X.fits ?_))
    dsimp only
    refine wpAny_bind (wpAny_askSetting ?_)
    dsimp only
    rw [if_pos (show (model prog w).w.params.followText "set-order" = true from hb)]
    refine wpAny_bind (wpAny_askSetting (wpAny_pure (wpAny_pure ?_)))
    have et : told w S ep es = pickOrder (w.params.setOrder S ep) es := by unfold told; rw [if_pos hb]
    have hsz : (pickOrder (w.params.setOrder S ep) es).size = es.size := by
      have := (pickOrder_perm (w.params.setOrder S ep) es).length_eq; simpa using this
    refine h _ (fun hlt => ?_) (fun e => ?_)
    · have hlt' : k < (pickOrder (w.params.setOrder S ep) es).size := by rw [hsz]; exact hlt
      refine ⟨(pickOrder (w.params.setOrder S ep) es)[k].2, slot, ?_, ?_, fun z => ?_⟩
      · show Option.map _ (pickOrder (w.params.setOrder S ep) es)[k]? = _
        rw [Array.getElem?_eq_getElem hlt']; rfl
      · rw [et, Array.getElem?_eq_getElem hlt']; rfl
      · unfold ledW at z; rw [hb] at z; cases z
    · show Option.map _ (pickOrder (w.params.setOrder S ep) es)[k]? = _
      rw [Array.getElem?_eq_none (by rw [hsz]; omega)]; rfl
  | false =>
    rw [if_neg (show ¬ (model prog w).w.params.followText "set-order" = true by intro z; rw [show (model prog w).w.params.followText "set-order" = false from hb] at z; cases z)]
    have hl : ledW w = true := by unfold ledW; rw [hb]; rfl
    rw [X.tab.plain, X.led, hl]
    simp only [Bool.not_true, Bool.false_and, Bool.false_eq_true, if_false]
    have et : told w S ep es = es := by unfold told; rw [hb]; simp
    have hps : t.place.size = es.size := by simpa using X.tab.size
    have hbl : below t.place slot = k := by
      rw [hs hl]
      obtain ⟨b1, b2, b3⟩ := below_spec X.tab.rise (if k = 0 then 0 else t.place.getD (k - 1) 0 + 1)
      by_cases k0 : k = 0
      · subst k0
        simp only [if_true] at b1 b2 b3 ⊢
        rcases Nat.eq_zero_or_pos (below t.place 0) with z | z
        · exact z
        · have := b2 0 z; omega
      · rw [if_neg k0] at b1 b2 b3 ⊢
        have hk1 : k - 1 < t.place.size := by omega
        rcases Nat.lt_trichotomy (below t.place (t.place.getD (k - 1) 0 + 1)) k with z | z | z
        · have q := b3 (k - 1) (by omega) hk1
          have e : t.place.getD (k - 1) (t.place.getD (k - 1) 0 + 1) = t.place.getD (k - 1) 0 := by simp [Array.getD, hk1]
          omega
        · exact z
        · have hks : k < t.place.size := by omega
          have q := b2 k z
          have e : t.place.getD k (t.place.getD (k - 1) 0 + 1) = t.place.getD k 0 := by simp [Array.getD, hks]
          have := rising_getD (d := 0) X.tab.rise (show k - 1 < k by omega) hks
          omega
    refine wpAny_pure ?_
    rw [hbl]
    refine h _ (fun hlt => ?_) (fun e => ?_)
    · have hlt2 : k < t.place.size := by omega
      refine ⟨es[k].2, t.place[k] + 1, ?_, ?_, fun _ => ?_⟩
      · rw [Array.getElem?_eq_getElem hlt, Array.getElem?_eq_getElem hlt2]
      · rw [et, Array.getElem?_eq_getElem hlt]; rfl
      · simp [Array.getD, hlt2]
    · rw [Array.getElem?_eq_none (by omega)]

theorem walks_set {S I : Addr} {o : Obj} {es : Array (Int × Value)} {ep : Nat} {t : SetTable} (hh : A.handled = none) (hne : S ≠ I) :
    Walks prog w A I [I, S] [I] es.size (fun i v => (told w S ep es)[i]?.map (·.2) = some v) (fun i h => SetWalk w S o es ep t I i h) where
  sub := fun b hb => List.mem_cons.mpr (.inl (List.mem_singleton.mp hb))
  frame := fun i h h' X k => by
    obtain ⟨slot, e, r⟩ := X.it
    exact ⟨k S (by simp) _ X.set, X.data, X.cls, X.tab, X.led, slot, k I (by simp) _ e, r⟩
  item := fun i s Q E hi X hQ => by
    obtain ⟨slot, e, r⟩ := X.it
    have hT : s.TypeIs (.ref I) "set_iterator" := ⟨_, e, rfl⟩
    unfold pyNext
    refine wpAny_bind (wpAny_attempt (wpAny_callSpecial?_slot (name := Str.ofString "__next__") hT slot_setit_next (wpAny_call_entry slot_setit_next hT entry_setit_next ?_ (args_setit_next _))))
    unfold Builtin.«set_iterator.__next__»
    refine wpAny_bind (m := slotArgs "__next__" 0 _) (wpAny_pure ?_)
    dsimp only
    unfold fieldsOf
    refine wpAny_bind (wpAny_bind (wpAny_load e (wpAny_pure ?_)))
    dsimp only
    unfold setEntries
    refine wpAny_bind (wpAny_bind (wpAny_setState_of X.set X.data X.fits (wpAny_pure ?_)))
    dsimp only
    rw [if_neg (by simp)]
    refine wpAny_bind ?_
    simp only [Int.toNat_natCast]
    refine next_wp X (Nat.le_of_lt hi) r fun rr h1 _ => ?_
    obtain ⟨x, nx, rfl, h2, h3⟩ := h1 hi
    dsimp only
    refine wpAny_bind (wpAny_setField e rfl (by simp) ?_)
    have e2 := Heap.get?_update_self (Obj.mapFields fun vs => vs.setIfInBounds 0 (rawInt (nx : Int))) e rfl
    refine wpAny_bind (wpAny_setField e2 rfl (by simp) ?_)
    refine wpAny_pure ⟨x, rfl, wpAny_pure ?_⟩
    have sb := (Heap.SameBut.update s.heap I (Obj.mapFields fun vs => vs.setIfInBounds 0 (rawInt (nx : Int)))).trans (Heap.SameBut.update _ I (Obj.mapFields fun vs => vs.setIfInBounds 1 (rawInt ((i : Int) + 1))))
    refine hQ x _ _ h2 ⟨(sb.2 S hne).trans X.set, X.data, X.cls, X.tab, X.led, nx, ?_, fun z => ?_⟩ fun b o hb eb => (sb.2 b (by simpa using hb)).trans eb
    · exact Heap.get?_update_self (Obj.mapFields fun vs => vs.setIfInBounds 1 (rawInt ((i : Int) + 1))) e2 rfl
    · rw [if_neg (by omega)]; exact h3 z
  done := fun s Q E X hQ => by
    obtain ⟨slot, e, r⟩ := X.it
    have hT : s.TypeIs (.ref I) "set_iterator" := ⟨_, e, rfl⟩
    unfold pyNext
    refine wpAny_bind (wpAny_attempt (wpAny_callSpecial?_slot (name := Str.ofString "__next__") hT slot_setit_next (wpAny_call_entry slot_setit_next hT entry_setit_next ?_ (args_setit_next _))))
    unfold Builtin.«set_iterator.__next__»
    refine wpAny_bind (m := slotArgs "__next__" 0 _) (wpAny_pure ?_)
    dsimp only
    unfold fieldsOf
    refine wpAny_bind (wpAny_bind (wpAny_load e (wpAny_pure ?_)))
    dsimp only
    unfold setEntries
    refine wpAny_bind (wpAny_bind (wpAny_setState_of X.set X.data X.fits (wpAny_pure ?_)))
    dsimp only
    rw [if_neg (by simp)]
    refine wpAny_bind ?_
    simp only [Int.toNat_natCast]
    refine next_wp X (Nat.le_refl _) r fun rr _ h1 => ?_
    rw [h1 rfl]
    dsimp only
    refine wpAny_bind (wpAny_setField e rfl (by simp) ?_)
    (show wpAny _ _ (newExc (.type "StopIteration") [] >>= fun x => raiseNew x) _ _ _)
    refine wpAny_bind ?_
    simp only [newExc, newTuple]
    (refine wpAny_bind (wpAny_newObj_type ?_ (by size_fits)))
    (refine wpAny_bind (m := firstArgMember _ _) (wpAny_of_eq (a := Value.none) (by first | rfl | (simp only [firstArgMember]; rfl)) ?_))
    (refine wpAny_newObj_type ?_ (by size_fits))
    simp only [raiseNew]
    refine wpAny_bind (wpAny_handled ?_)
    (rw [show A.in1.handled = none from hh])
    refine wpAny_bind (wpAny_pure (wpAny_throw ?_))
    refine wpAny_bind (wpAny_isInstance (T := "StopIteration") (b := true) ⟨_, Heap.get?_push_size _ rfl, rfl⟩ isSubtype_stop (wpAny_pure (hQ _ _ fun b o hb eb => ?_)))
    exact Heap.get?_push_of_some _ (Heap.get?_push_of_some _ (((Heap.SameBut.update ..).2 b (by simpa using hb)).trans eb))
  self := fun i s Q E X hQ => by
    obtain ⟨slot, e, r⟩ := X.it
    have hT : s.TypeIs (.ref I) "set_iterator" := ⟨_, e, rfl⟩
    refine wpAny_pyIter_slot hT slot_setit_iter (wpAny_call_entry slot_setit_iter hT entry_setit_iter ?_ (args_setit_iter _))
    show wpAny _ _ (ret (.ref I)) _ _ s
    exact wpAny_pure ⟨_, rfl, "set_iterator", _, hT, slot_setit_next.lookup, hQ⟩

theorem iter_set {S : Addr} {o : Obj} {es : Array (Int × Value)} {ep : Nat} {t : SetTable} {Q : Value → Shared → Prop} (ho : s.heap.get? S = some o) (hd : o.data = .set es ep t) (hc : o.cls = .type "set") (T : Tab t (es.toList.map (·.1))) (hl : t.led = ledW w)
    (h : Q (.ref s.heap.objs.size) { s with heap := s.heap.push (setIt S 0 0 es.size ep) }) : wpAny (model prog w) A (pyIter (.ref S)) Q E s := by
  have hT : s.TypeIs (.ref S) "set" := ⟨o, ho, hc⟩
  have hf : t.fits es.size = true := fits_tab T (by simp)
  refine wpAny_pyIter_slot hT F.slot_set_iter (wpAny_call_entry F.slot_set_iter hT entry_set_iter ?_ (F.args_set_iter_1 _))
  unfold Builtin.«frozenset.__iter__» Builtin.Frozenset.slot0
  refine wpAny_bind (wpAny_bind (m := slotArgs "__iter__" 0 _) (wpAny_pure (wpAny_pure ?_)))
  unfold Builtin.Frozenset.sizeOf setEntries
  refine wpAny_bind (wpAny_bind (wpAny_bind (wpAny_setState_of ho hd hf (wpAny_pure (wpAny_pure ?_)))))
  rw [drawn_eq]
  refine wpAny_bind (wpAny_bind (wpAny_setState_of ho hd hf ?_))
  dsimp only
  refine wpAny_bind (wpAny_bind (wpAny_askSetting (wpAny_pure (wpAny_pure ?_))))
  rw [T.plain]
  simp only [Bool.not_true, Bool.false_and, Bool.and_false, Bool.false_eq_true, if_false]
  refine wpAny_bind (wpAny_pure ?_)
  unfold setEpoch
  refine wpAny_bind (wpAny_bind (wpAny_setState_of ho hd hf (wpAny_pure ?_)))
  refine wpAny_bind (wpAny_newObj_type (wpAny_pure ⟨_, rfl, "set_iterator", _, ⟨_, Heap.get?_push_size _ rfl, rfl⟩, slot_setit_next.lookup, h⟩))

/-- the members of a set, gathered into a list -/
theorem collect_set {S : Addr} {o : Obj} {es : Array (Int × Value)} {ep : Nat} {t : SetTable} {Q : List Value → Shared → Prop} (hh : A.handled = none) (ho : s.heap.get? S = some o) (hd : o.data = .set es ep t) (hc : o.cls = .type "set") (T : Tab t (es.toList.map (·.1))) (hl : t.led = ledW w)
    (hn : es.size ≤ 64) (h : ∀ h' tk vs, vs = (told w S ep es).toList.map (·.2) → (∀ b o, s.heap.get? b = some o → h'.get? b = some o) → Q vs { s with heap := h', toks := tk }) : wpAny (model prog w) A (collect (.ref S)) Q E s := by
  have hz : es.size ≤ sizeLine := by rw [sizeLine_eq]; omega
  unfold collect
  (refine wpAny_bind (wpAny_runValue (codeAny_builtin F.entry_proto_collect ?_)))
  (rw [Around.under_plainId F.plain_proto_collect _])
  show wpAny _ A.in1 (newList [] >>= fun l => again (.builtin "list.__iadd__" ⟨[l, .ref S], []⟩)) _ _ s
  refine wpAny_bind (wpAny_newObj_type ?_)
  (refine wpAny_pure ⟨plainId_quiet F.plain_list_iadd _, codeAny_builtin F.entry_list_iadd ?_⟩)
  (rw [Around.under_plainId F.plain_list_iadd _])
  show wpAny _ A.in1 (Builtin.List.listExtendWith (.ref s.heap.objs.size) (.ref S) (.ref s.heap.objs.size)) _ _ { s with heap := s.heap.push (seqObj "list" #[] 0) }
  generalize hH : s.heap.push (seqObj "list" #[] 0) = H1
  have kp1 : ∀ b o, s.heap.get? b = some o → H1.get? b = some o := fun b o e => by rw [← hH]; exact Heap.get?_push_of_some _ e
  have hD : H1.get? s.heap.objs.size = some (seqObj "list" #[] 0) := by rw [← hH]; exact Heap.get?_push_size _ rfl
  have hHs : H1.objs.size = s.heap.objs.size + 1 := by rw [← hH]; exact Heap.size_push ..
  have hSD : S ≠ s.heap.objs.size := Nat.ne_of_lt (Heap.lt_size ho)
  have hT : Shared.TypeIs { s with heap := H1 } (.ref S) "set" := ⟨o, kp1 _ _ ho, hc⟩
  unfold Builtin.List.listExtendWith
  refine wpAny_bind (wpAny_typeOf hT ?_)
  have h1 : Builtin.List.listSameRef (.ref s.heap.objs.size) (.ref S) = false := by simp [Builtin.List.listSameRef, Ne.symm hSD]
  have h2 : (Value.type "set" == Value.type "list") = false := by decide
  have h3 : (Value.type "set" == Value.type "tuple") = false := by decide
  rw [h1, h2, h3]
  simp only [Bool.or_false, Bool.false_eq_true, if_false]
  refine wpAny_bind (iter_set (s := { s with heap := H1 }) (kp1 _ _ ho) hd hc T hl ?_)
  refine wpAny_bind (wpAny_holding ?_)
  unfold Builtin.List.listLengthHint
  have hT2 : Shared.TypeIs { s with heap := H1.push (setIt S 0 0 es.size ep) } (.ref S) "set" := ⟨o, Heap.get?_push_of_some _ (kp1 _ _ ho), hc⟩
  refine wpAny_bind (wpAny_specialOf hT2 F.slot_set_len.lookup ?_)
  wp_delta
  refine wpAny_bind (wpAny_isInstance hT2 (b := true) (by rw [isSubtype_type]; kernel_rfl) ?_)
  show wpAny _ A.in1 (typeOf (Value.ref S) >>= fun _ => _) _ _ _
  refine wpAny_bind (wpAny_typeOf hT2 ?_)
  refine wpAny_pure ?_
  show wpAny _ A.in1 (rule "list.extend.makes-room" >>= fun _ => Builtin.List.listTouch (.ref s.heap.objs.size) >>= fun _ => again (.builtin "list.extend.loop" ⟨[.ref s.heap.objs.size, .ref H1.objs.size, .ref s.heap.objs.size], []⟩)) _ _ _
  refine wpAny_bind (wpAny_rule (wpAny_bind ?_))
  generalize hH2 : H1.push (setIt S 0 0 es.size ep) = H2
  have kp2 : ∀ b o, H1.get? b = some o → H2.get? b = some o := fun b o e => by rw [← hH2]; exact Heap.get?_push_of_some _ e
  have hI : H2.get? H1.objs.size = some (setIt S 0 0 es.size ep) := by rw [← hH2]; exact Heap.get?_push_size _ rfl
  have hS0 := kp2 _ _ hD
  show wpAny _ A.in1 (updateSeq s.heap.objs.size (·.push .none) >>= fun _ => updateSeq s.heap.objs.size (·.pop)) _ _ _
  refine wpAny_bind (wpAny_updateSeq (s := { s with heap := H2 }) hS0 rfl ?_)
  have hS2 := Heap.get?_update_self (Obj.mapSeq (·.push Value.none)) hS0 rfl
  refine wpAny_updateSeq (hz := by seq_fits) hS2 rfl ?_
  have hS3 := Heap.get?_update_self (Obj.mapSeq (·.pop)) hS2 rfl
  have oth : ∀ b o, b ≠ s.heap.objs.size → H2.get? b = some o → ((H2.update s.heap.objs.size (Obj.mapSeq (·.push Value.none))).update s.heap.objs.size (Obj.mapSeq (·.pop))).get? b = some o := fun b o hb e =>
    ((Heap.SameBut.update _ s.heap.objs.size (Obj.mapSeq (·.pop))).2 b hb).trans (((Heap.SameBut.update H2 s.heap.objs.size (Obj.mapSeq (·.push Value.none))).2 b hb).trans e)
  have hIS : S ≠ H1.objs.size := by rw [hHs]; exact Nat.ne_of_lt (Nat.lt_succ_of_lt (Heap.lt_size ho))
  have hID : H1.objs.size ≠ s.heap.objs.size := by rw [hHs]; exact Nat.succ_ne_self _
  have hDf : s.heap.objs.size ∉ [H1.objs.size, S] := fun z => by
    rcases List.mem_cons.mp z with e | z
    · exact hID e.symm
    · exact hSD (List.mem_singleton.mp z).symm
  have X0 : SetWalk w S o es ep t H1.objs.size 0 ((H2.update s.heap.objs.size (Obj.mapSeq (·.push Value.none))).update s.heap.objs.size (Obj.mapSeq (·.pop))) :=
    ⟨oth _ _ hSD (kp2 _ _ (kp1 _ _ ho)), hd, hc, T, hl, 0, oth _ _ hID hI, fun _ => rfl⟩
  refine wpAny_pure ⟨plainId_quiet F.plain_extend_loop _, codeAny_extend_loopS (walks_set (A := A.in1) (o := o) (t := t) hh hIS).toS hz _ hDf _ es.size 0 _ _ _ rfl (Nat.zero_le _) X0 hS3 (ItemsOf.nil _) fun s' acc' c' hm hS' hacc => ?_⟩
  show wpAny _ A (load s.heap.objs.size >>= fun _ => _) _ _ s'
  refine wpAny_bind (wpAny_load hS' (wpAny_pure ?_))
  obtain ⟨h', g', d', tk', os'⟩ := s'
  have eg : g' = s.gens := hm.gens
  have ed : d' = s.drawn := hm.drawn
  have eo : os' = s.os := hm.os
  subst eg ed eo
  refine h h' tk' acc'.toList ?_ fun b ob e => hm.heap b ob (fun hb => ?_) (oth b ob (Nat.ne_of_lt (Heap.lt_size e)) (kp2 _ _ (kp1 _ _ e)))
  · have hts : (told w S ep es).size = es.size := by have := (told_perm w S ep es).length_eq; simpa using this
    apply List.ext_getElem?
    intro i
    rw [List.getElem?_map]
    by_cases hi : i < es.size
    · have hi1 : i < acc'.size := by rw [hacc.1]; exact hi
      have q := hacc.2 i acc'[i] (Array.getElem?_eq_getElem hi1)
      rw [Array.getElem?_toList, Array.getElem?_toList, Array.getElem?_eq_getElem hi1]
      exact q.symm
    · rw [Array.getElem?_toList, Array.getElem?_toList, Array.getElem?_eq_none (by rw [hacc.1]; omega), Array.getElem?_eq_none (by omega)]; rfl
  · have hlt := Heap.lt_size e
    rcases List.mem_cons.mp hb with z | z
    · rw [z] at hlt; exact Nat.lt_irrefl _ hlt
    · rw [List.mem_singleton.mp z, hHs] at hlt; exact absurd hlt (Nat.not_lt.mpr (Nat.le_succ _))
end
end L2.ST

end

section
/-! pairs, their closure, Warshall's table: plain mathematics -/
set_option linter.all false
namespace OM
abbrev Pr := Int × Int

/-! ### the rising order of pairs -/
def plt (p q : Pr) : Prop := p.1 < q.1 ∨ (p.1 = q.1 ∧ p.2 < q.2)
instance (p q : Pr) : Decidable (plt p q) := by unfold plt; infer_instance
theorem plt_irrefl (p : Pr) : ¬ plt p p := by unfold plt; omega
theorem plt_trans {p q r : Pr} (a : plt p q) (b : plt q r) : plt p r := by unfold plt at *; omega
theorem plt_tri (p q : Pr) : plt p q ∨ p = q ∨ plt q p := by
  unfold plt
  rcases p with ⟨a, b⟩
  rcases q with ⟨c, d⟩
  simp only [Prod.mk.injEq]
  omega
abbrev Ris (l : List Pr) : Prop := l.Pairwise plt
theorem ris_ext : ∀ {l m : List Pr}, Ris l → Ris m → (∀ x, x ∈ l ↔ x ∈ m) → l = m
  | [], [], _, _, _ => rfl
  | [], b :: m, _, _, h => absurd ((h b).mpr (List.mem_cons_self ..)) (by simp)
  | a :: l, [], _, _, h => absurd ((h a).mp (List.mem_cons_self ..)) (by simp)
  | a :: l, b :: m, hl, hm, h => by
    have hl' := List.pairwise_cons.mp hl
    have hm' := List.pairwise_cons.mp hm
    have e : a = b := by
      rcases List.mem_cons.mp ((h a).mp (List.mem_cons_self ..)) with e | e
      · exact e
      · rcases List.mem_cons.mp ((h b).mpr (List.mem_cons_self ..)) with e' | e'
        · exact e'.symm
        · exact absurd (plt_trans (hm'.1 a e) (hl'.1 b e')) (plt_irrefl _)
    subst e
    congr 1
    refine ris_ext hl'.2 hm'.2 fun x => ⟨fun hx => ?_, fun hx => ?_⟩
    · rcases List.mem_cons.mp ((h x).mp (List.mem_cons_of_mem _ hx)) with e | e
      · subst e; exact absurd (hl'.1 x hx) (plt_irrefl _)
      · exact e
    · rcases List.mem_cons.mp ((h x).mpr (List.mem_cons_of_mem _ hx)) with e | e
      · subst e; exact absurd (hm'.1 x hx) (plt_irrefl _)
      · exact e
theorem ris_nodup {l : List Pr} (h : Ris l) : l.Nodup := h.imp fun {a b} hab e => by subst e; exact plt_irrefl _ hab
theorem ris_filter {l : List Pr} (p : Pr → Bool) (h : Ris l) : Ris (l.filter p) := h.sublist List.filter_sublist

/-! ### all pairs of n things, rising -/
def grid (n : Nat) : List Pr := (List.range (n * n)).map fun k => (((k / n : Nat) : Int), ((k % n : Nat) : Int))
theorem mem_grid {n : Nat} {p : Pr} : p ∈ grid n ↔ (0 ≤ p.1 ∧ p.1 < n) ∧ (0 ≤ p.2 ∧ p.2 < n) := by
  unfold grid
  rw [List.mem_map]
  constructor
  · rintro ⟨k, hk, rfl⟩
    have hk := List.mem_range.mp hk
    have hn : 0 < n := by
      rcases Nat.eq_zero_or_pos n with e | e
      · subst e; omega
      · exact e
    have h1 : k / n < n := Nat.div_lt_of_lt_mul hk
    have h2 : k % n < n := Nat.mod_lt _ hn
    generalize k / n = q at h1
    generalize k % n = r at h2
    exact ⟨⟨Int.natCast_nonneg _, by dsimp only; omega⟩, ⟨Int.natCast_nonneg _, by dsimp only; omega⟩⟩
  · rintro ⟨⟨a0, a1⟩, ⟨b0, b1⟩⟩
    have hn : 0 < n := by omega
    refine ⟨p.1.toNat * n + p.2.toNat, List.mem_range.mpr ?_, ?_⟩
    · have h1 : p.1.toNat + 1 ≤ n := by omega
      have h2 : p.2.toNat < n := by omega
      have := Nat.mul_le_mul_right n h1
      rw [Nat.add_mul] at this
      omega
    · have h2 : p.2.toNat < n := by omega
      have e1 : (p.1.toNat * n + p.2.toNat) / n = p.1.toNat := by
        rw [Nat.mul_comm, Nat.mul_add_div hn, Nat.div_eq_of_lt h2]; rfl
      have e2 : (p.1.toNat * n + p.2.toNat) % n = p.2.toNat := by
        rw [Nat.mul_comm, Nat.mul_add_mod, Nat.mod_eq_of_lt h2]
      rw [e1, e2]
      refine Prod.ext ?_ ?_ <;> dsimp only <;> omega
theorem ris_grid (n : Nat) : Ris (grid n) := by
  unfold grid
  refine List.pairwise_map.mpr (List.Pairwise.imp_of_mem ?_ List.pairwise_lt_range)
  intro a b ha hb hab
  have ha := List.mem_range.mp ha
  have hb := List.mem_range.mp hb
  have hn : 0 < n := by
    rcases Nat.eq_zero_or_pos n with e | e
    · subst e; omega
    · exact e
  have h1 : a / n ≤ b / n := Nat.div_le_div_right (Nat.le_of_lt hab)
  have e1 := Nat.div_add_mod a n
  have e2 := Nat.div_add_mod b n
  unfold plt
  dsimp only
  rcases Nat.lt_or_ge (a / n) (b / n) with c | c
  · left; omega
  · right
    have e : a / n = b / n := by omega
    rw [e] at e1
    omega

open Classical in
/-- the pairs of n things that stand in R, rising -/
noncomputable def filt (n : Nat) (R : Int → Int → Prop) : List Pr := (grid n).filter fun p => decide (R p.1 p.2)
theorem mem_filt {n : Nat} {R : Int → Int → Prop} {p : Pr} : p ∈ filt n R ↔ ((0 ≤ p.1 ∧ p.1 < n) ∧ (0 ≤ p.2 ∧ p.2 < n)) ∧ R p.1 p.2 := by
  unfold filt
  rw [List.mem_filter, mem_grid]
  simp
theorem ris_filt (n : Nat) (R : Int → Int → Prop) : Ris (filt n R) := ris_filter _ (ris_grid n)
theorem filt_congr {n : Nat} {R S : Int → Int → Prop} (h : ∀ a b : Int, 0 ≤ a → a < n → 0 ≤ b → b < n → (R a b ↔ S a b)) : filt n R = filt n S := by
  refine ris_ext (ris_filt n R) (ris_filt n S) fun x => ?_
  rw [mem_filt, mem_filt]
  constructor
  · rintro ⟨⟨⟨a, b⟩, c, d⟩, r⟩; exact ⟨⟨⟨a, b⟩, c, d⟩, (h _ _ a b c d).mp r⟩
  · rintro ⟨⟨⟨a, b⟩, c, d⟩, r⟩; exact ⟨⟨⟨a, b⟩, c, d⟩, (h _ _ a b c d).mpr r⟩
/-- within the things -/
def Wn (n : Nat) (l : List Pr) : Prop := ∀ p, p ∈ l → (0 ≤ p.1 ∧ p.1 < n) ∧ (0 ≤ p.2 ∧ p.2 < n)
abbrev Mem (l : List Pr) (a b : Int) : Prop := (a, b) ∈ l
theorem filt_self {n : Nat} {l : List Pr} (w : Wn n l) (r : Ris l) : filt n (Mem l) = l := by
  refine ris_ext (ris_filt n _) r fun x => ?_
  rw [mem_filt]
  exact ⟨fun h => h.2, fun h => ⟨w x h, h⟩⟩
theorem filt_wn (n : Nat) (R : Int → Int → Prop) : Wn n (filt n R) := fun _ h => (mem_filt.mp h).1
theorem filt_len (n : Nat) (R : Int → Int → Prop) : (filt n R).length ≤ n * n := by
  unfold filt
  refine Nat.le_trans (List.length_filter_le ..) ?_
  unfold grid; simp

/-! ### the transitive closure -/
inductive Tr (R : Int → Int → Prop) : Int → Int → Prop
  | one {a b} : R a b → Tr R a b
  | more {a b c} : R a b → Tr R b c → Tr R a c
theorem Tr.trans {R : Int → Int → Prop} {a b c : Int} (h : Tr R a b) (k : Tr R b c) : Tr R a c := by
  induction h with
  | one r => exact .more r k
  | more r _ ih => exact .more r (ih k)
theorem Tr.mono {R S : Int → Int → Prop} (f : ∀ a b, R a b → S a b) {a b : Int} (h : Tr R a b) : Tr S a b := by
  induction h with
  | one r => exact .one (f _ _ r)
  | more r _ ih => exact .more (f _ _ r) ih
theorem Tr.least {R S : Int → Int → Prop} (f : ∀ a b, R a b → S a b) (t : ∀ a b c, S a b → S b c → S a c) {a b : Int} (h : Tr R a b) : S a b := by
  induction h with
  | one r => exact f _ _ r
  | more r _ ih => exact t _ _ _ (f _ _ r) ih
theorem Tr.wn {n : Nat} {l : List Pr} (w : Wn n l) {a b : Int} (h : Tr (Mem l) a b) : (0 ≤ a ∧ a < n) ∧ (0 ≤ b ∧ b < n) := by
  induction h with
  | one r => exact w _ r
  | more r _ ih => exact ⟨(w _ r).1, ih.2⟩

/-! ### an order -/
structure Ord (n : Nat) (l : List Pr) : Prop where
  lo : 1 ≤ n
  hi : n ≤ 8
  wn : Wn n l
  ris : Ris l
  irr : ∀ a, (a, a) ∉ l
  tr : ∀ a b c, (a, b) ∈ l → (b, c) ∈ l → (a, c) ∈ l
theorem Ord.tr_mem {n : Nat} {l : List Pr} (O : Ord n l) {a b : Int} : Tr (Mem l) a b ↔ (a, b) ∈ l :=
  ⟨fun h => h.least (fun _ _ r => r) fun a b c => O.tr a b c, fun h => .one h⟩
/-- closed, an order is itself -/
theorem Ord.closed {n : Nat} {l : List Pr} (O : Ord n l) : filt n (Tr (Mem l)) = l := by
  rw [filt_congr (S := Mem l) fun a b _ _ _ _ => O.tr_mem, filt_self O.wn O.ris]
/-- what is closed and has no ring is an order -/
theorem ord_of {n : Nat} {l : List Pr} (h1 : 1 ≤ n) (h8 : n ≤ 8) (w : Wn n l) (hr : ∀ a, ¬ Tr (Mem l) a a) : Ord n (filt n (Tr (Mem l))) :=
  ⟨h1, h8, filt_wn n _, ris_filt n _, fun a h => hr a (mem_filt.mp h).2, fun a b c h k => mem_filt.mpr ⟨⟨(mem_filt.mp h).1.1, (mem_filt.mp k).1.2⟩, (mem_filt.mp h).2.trans (mem_filt.mp k).2⟩⟩
theorem len_le {l m : List Pr} (hl : l.Nodup) (h : ∀ x, x ∈ l → x ∈ m) : l.length ≤ m.length := by
  induction l generalizing m with
  | nil => exact Nat.zero_le _
  | cons a l ih =>
    have ha := h a (List.mem_cons_self ..)
    have hl' := List.nodup_cons.mp hl
    have := ih (m := m.erase a) hl'.2 fun x hx => by
      refine (List.mem_erase_of_ne ?_).mpr (h x (List.mem_cons_of_mem _ hx))
      rintro rfl; exact hl'.1 hx
    rw [List.length_erase_of_mem ha] at this
    have : 0 < m.length := List.length_pos_of_mem ha
    simp only [List.length_cons]; omega
theorem sub_eq {l m : List Pr} (hl : Ris l) (hm : Ris m) (h : ∀ x, x ∈ l → x ∈ m) (e : l.length = m.length) : l = m := by
  refine ris_ext hl hm fun x => ⟨h x, fun hx => Classical.byContradiction fun hn => ?_⟩
  have := len_le (l := x :: l) (m := m) (List.nodup_cons.mpr ⟨hn, ris_nodup hl⟩) fun y hy => by
    rcases List.mem_cons.mp hy with e | e
    · subst e; exact hx
    · exact h y e
  simp only [List.length_cons] at this
  omega

/-! ### the law's own closing: a step puts in what two pairs lead to -/
def more (l : List Pr) : List Pr := l.flatMap fun p => (l.filter fun q => decide (q.1 = p.2)).map fun q => (p.1, q.2)
theorem mem_more {l : List Pr} {x : Pr} : x ∈ more l ↔ ∃ b, (x.1, b) ∈ l ∧ (b, x.2) ∈ l := by
  unfold more
  rw [List.mem_flatMap]
  constructor
  · rintro ⟨p, hp, hx⟩
    obtain ⟨q, hq, rfl⟩ := List.mem_map.mp hx
    obtain ⟨hq, e⟩ := List.mem_filter.mp hq
    have e : q.1 = p.2 := by simpa using e
    exact ⟨p.2, hp, by rw [← e]; exact hq⟩
  · rintro ⟨b, h1, h2⟩
    exact ⟨(x.1, b), h1, List.mem_map.mpr ⟨(b, x.2), List.mem_filter.mpr ⟨h2, by simp⟩, rfl⟩⟩
noncomputable def stepC (n : Nat) (l : List Pr) : List Pr := filt n (Mem (l ++ more l))
/-- between the pairs and their closure -/
structure Btw (n : Nat) (ps l : List Pr) : Prop where
  wn : Wn n l
  ris : Ris l
  sub : ∀ x, x ∈ ps → x ∈ l
  sup : ∀ x, x ∈ l → Tr (Mem ps) x.1 x.2
theorem btw_start {n : Nat} {ps : List Pr} (w : Wn n ps) : Btw n ps (filt n (Mem ps)) :=
  ⟨filt_wn n _, ris_filt n _, fun x hx => mem_filt.mpr ⟨w x hx, hx⟩, fun _ hx => .one (mem_filt.mp hx).2⟩
theorem btw_more {n : Nat} {ps l : List Pr} (B : Btw n ps l) : Wn n (l ++ more l) := fun x hx => by
  rcases List.mem_append.mp hx with h | h
  · exact B.wn x h
  · obtain ⟨b, h1, h2⟩ := mem_more.mp h
    exact ⟨(B.wn _ h1).1, (B.wn _ h2).2⟩
theorem btw_step {n : Nat} {ps l : List Pr} (B : Btw n ps l) : Btw n ps (stepC n l) ∧ ∀ x, x ∈ l → x ∈ stepC n l := by
  have hs : ∀ x, x ∈ l → x ∈ stepC n l := fun x hx => mem_filt.mpr ⟨B.wn x hx, List.mem_append_left _ hx⟩
  refine ⟨⟨filt_wn n _, ris_filt n _, fun x hx => hs x (B.sub x hx), fun x hx => ?_⟩, hs⟩
  rcases List.mem_append.mp (mem_filt.mp hx).2 with h | h
  · exact B.sup _ h
  · obtain ⟨b, h1, h2⟩ := mem_more.mp h
    exact (B.sup _ h1).trans (B.sup _ h2)
theorem btw_done {n : Nat} {ps l : List Pr} (B : Btw n ps l) (e : (stepC n l).length = l.length) : stepC n l = filt n (Tr (Mem ps)) := by
  obtain ⟨B2, hs⟩ := btw_step B
  have q : l = stepC n l := sub_eq B.ris B2.ris hs e.symm
  refine ris_ext B2.ris (ris_filt n _) fun x => ⟨fun h => mem_filt.mpr ⟨B2.wn x h, B2.sup x h⟩, fun h => ?_⟩
  rw [← q]
  have tr : ∀ a b c : Int, (a, b) ∈ l → (b, c) ∈ l → (a, c) ∈ l := fun a b c h1 h2 => by
    rw [q]
    exact mem_filt.mpr ⟨⟨(B.wn _ h1).1, (B.wn _ h2).2⟩, List.mem_append_right _ (mem_more.mpr ⟨b, h1, h2⟩)⟩
  exact (mem_filt.mp h).2.least (S := Mem l) (fun a b r => B.sub _ r) tr

/-! ### Warshall's table -/
abbrev Tb := Nat → Nat → Bool
def Tb.set (M : Tb) (a b : Nat) : Tb := fun x y => if x = a ∧ y = b then true else M x y
/-- all k below m are passed through -/
def Thru (M : Tb) (m : Nat) : Prop := ∀ k a b, k < m → M a k = true → M k b = true → M a b = true
/-- in the phase m, behind the corners that are done (D) -/
def Phase (M0 M : Tb) (m : Nat) (D : Nat → Nat → Prop) : Prop := ∀ a b, M a b = true ↔ M0 a b = true ∨ (D a b ∧ M0 a m = true ∧ M0 m b = true)
theorem Phase.start (M : Tb) (m : Nat) : Phase M M m fun _ _ => False := fun a b => by simp
theorem Phase.row {M0 M : Tb} {m : Nat} {D : Nat → Nat → Prop} (P : Phase M0 M m D) (a : Nat) : M a m = true ↔ M0 a m = true := by
  rw [P]
  exact ⟨fun h => h.elim id fun h => h.2.1, .inl⟩
theorem Phase.col {M0 M : Tb} {m : Nat} {D : Nat → Nat → Prop} (P : Phase M0 M m D) (b : Nat) : M m b = true ↔ M0 m b = true := by
  rw [P]
  exact ⟨fun h => h.elim id fun h => h.2.2, .inl⟩
theorem Phase.step {M0 M : Tb} {m : Nat} {D : Nat → Nat → Prop} (P : Phase M0 M m D) (x y : Nat) :
    Phase M0 (if M x m = true ∧ M m y = true then M.set x y else M) m (fun a b => D a b ∨ (a = x ∧ b = y)) := fun a b => by
  have r := P.row x
  have c := P.col y
  by_cases h : M x m = true ∧ M m y = true
  · rw [if_pos h]
    unfold Tb.set
    by_cases e : a = x ∧ b = y
    · rw [if_pos e]
      obtain ⟨rfl, rfl⟩ := e
      simp only [true_iff]
      exact .inr ⟨.inr (by simp), r.mp h.1, c.mp h.2⟩
    · rw [if_neg e, P]
      constructor
      · rintro (q | ⟨d, q⟩)
        · exact .inl q
        · exact .inr ⟨.inl d, q⟩
      · rintro (q | ⟨d | d, q⟩)
        · exact .inl q
        · exact .inr ⟨d, q⟩
        · exact absurd d e
  · rw [if_neg h, P]
    constructor
    · rintro (q | ⟨d, q⟩)
      · exact .inl q
      · exact .inr ⟨.inl d, q⟩
    · rintro (q | ⟨d | ⟨rfl, rfl⟩, q1, q2⟩)
      · exact .inl q
      · exact .inr ⟨d, q1, q2⟩
      · exact absurd ⟨r.mpr q1, c.mpr q2⟩ h
theorem Phase.done {M0 M : Tb} {m n : Nat} {D : Nat → Nat → Prop} (P : Phase M0 M m D) (hD : ∀ a b, a < n → b < n → D a b) (hM : ∀ a b, M0 a b = true → a < n ∧ b < n) (T : Thru M0 m) :
    Thru M (m + 1) ∧ ∀ a b, M a b = true → a < n ∧ b < n := by
  have hM' : ∀ a b, M a b = true → a < n ∧ b < n := fun a b h => by
    rcases (P a b).mp h with q | ⟨_, q1, q2⟩
    · exact hM a b q
    · exact ⟨(hM _ _ q1).1, (hM _ _ q2).2⟩
  have put : ∀ a b, M0 a m = true → M0 m b = true → M a b = true := fun a b h1 h2 => (P a b).mpr (.inr ⟨hD a b (hM _ _ h1).1 (hM _ _ h2).2, h1, h2⟩)
  refine ⟨fun k a b hk h1 h2 => ?_, hM'⟩
  rcases Nat.lt_or_ge k m with c | c
  · rcases (P a k).mp h1 with q1 | ⟨_, q1, q1'⟩
    · rcases (P k b).mp h2 with q2 | ⟨_, q2, q2'⟩
      · exact (P a b).mpr (.inl (T k a b c q1 q2))
      · exact put a b (T k a m c q1 q2) q2'
    · rcases (P k b).mp h2 with q2 | ⟨_, q2, q2'⟩
      · exact put a b q1 (T k m b c q1' q2)
      · exact put a b q1 q2'
  · have e : k = m := by omega
    subst e
    exact put a b ((P.row a).mp h1) ((P.col b).mp h2)
/-- the table holds the pairs and nothing beyond their closure -/
structure Tab (n : Nat) (ps : List Pr) (M : Tb) : Prop where
  inn : ∀ a b, M a b = true → a < n ∧ b < n
  sub : ∀ a b : Nat, ((a : Int), (b : Int)) ∈ ps → M a b = true
  sup : ∀ a b : Nat, M a b = true → Tr (Mem ps) a b
theorem Tab.phase {n : Nat} {ps : List Pr} {M0 M : Tb} {m : Nat} {D : Nat → Nat → Prop} (T : Tab n ps M0) (P : Phase M0 M m D) : Tab n ps M :=
  ⟨fun a b h => by
    rcases (P a b).mp h with q | ⟨_, q1, q2⟩
    · exact T.inn a b q
    · exact ⟨(T.inn _ _ q1).1, (T.inn _ _ q2).2⟩,
   fun a b h => (P a b).mpr (.inl (T.sub a b h)),
   fun a b h => by
    rcases (P a b).mp h with q | ⟨_, q1, q2⟩
    · exact T.sup a b q
    · exact (T.sup _ _ q1).trans (T.sup _ _ q2)⟩
theorem Tab.all {n : Nat} {ps : List Pr} {M : Tb} (w : Wn n ps) (T : Tab n ps M) (H : Thru M n) (a b : Nat) : M a b = true ↔ Tr (Mem ps) a b := by
  refine ⟨T.sup a b, fun h => ?_⟩
  have key : ∀ {x y : Int}, Tr (Mem ps) x y → M x.toNat y.toNat = true := fun {x y} h => by
    induction h with
    | @one x y r =>
      have := w _ r
      refine T.sub _ _ ?_
      have e1 : ((x.toNat : Nat) : Int) = x := by simp only at this; omega
      have e2 : ((y.toNat : Nat) : Int) = y := by simp only at this; omega
      rw [e1, e2]; exact r
    | @more x y z r _ ih =>
      have := w _ r
      have e1 : ((x.toNat : Nat) : Int) = x := by simp only at this; omega
      have e2 : ((y.toNat : Nat) : Int) = y := by simp only at this; omega
      have q : M x.toNat y.toNat = true := T.sub _ _ (by rw [e1, e2]; exact r)
      exact H y.toNat _ _ (T.inn _ _ q).2 q ih
  have := key h
  simpa using this

/-! ### next pairs -/
def isNext (l : List Pr) (p : Pr) : Prop := ∀ c, ¬ ((p.1, c) ∈ l ∧ (c, p.2) ∈ l)
open Classical in
noncomputable def nexts (l : List Pr) : List Pr := l.filter fun p => decide (isNext l p)
theorem mem_nexts {l : List Pr} {p : Pr} : p ∈ nexts l ↔ p ∈ l ∧ isNext l p := by
  unfold nexts; rw [List.mem_filter]; simp
open Classical in
/-- how many stand between -/
noncomputable def btwn (l : List Pr) (p : Pr) : List Pr := l.filter fun q => decide (q.1 = p.1 ∧ (q.2, p.2) ∈ l)
theorem Ord.next_leads {n : Nat} {l : List Pr} (O : Ord n l) : ∀ (k : Nat) (p : Pr), p ∈ l → (btwn l p).length ≤ k → Tr (Mem (nexts l)) p.1 p.2 := by
  classical
  intro k
  induction k with
  | zero =>
    intro p hp hk
    refine .one (mem_nexts.mpr ⟨hp, fun c hc => ?_⟩)
    have : (p.1, c) ∈ btwn l p := List.mem_filter.mpr ⟨hc.1, by simp [hc.2]⟩
    have := List.length_pos_of_mem this
    omega
  | succ k ih =>
    intro p hp hk
    by_cases h : isNext l p
    · exact .one (mem_nexts.mpr ⟨hp, h⟩)
    · obtain ⟨c, hc⟩ : ∃ c, (p.1, c) ∈ l ∧ (c, p.2) ∈ l := Classical.byContradiction fun z => h fun c hc => z ⟨c, hc⟩
      have mem : (p.1, c) ∈ btwn l p := List.mem_filter.mpr ⟨hc.1, by simp [hc.2]⟩
      have nd : (btwn l p).Nodup := (ris_nodup O.ris).sublist List.filter_sublist
      -- fewer between p.1 and c
      have l1 : (btwn l (p.1, c)).length ≤ k := by
        have := len_le (l := (p.1, c) :: btwn l (p.1, c)) (m := btwn l p) (List.nodup_cons.mpr ⟨fun z => ?_, (ris_nodup O.ris).sublist List.filter_sublist⟩) fun x hx => ?_
        · simp only [List.length_cons] at this; omega
        · have := (List.mem_filter.mp z).2
          simp at this
          exact O.irr c this
        · rcases List.mem_cons.mp hx with e | e
          · rw [e]; exact mem
          · obtain ⟨e1, e2⟩ := List.mem_filter.mp e
            simp at e2
            exact List.mem_filter.mpr ⟨e1, by simp [e2.1]; exact O.tr _ _ _ e2.2 hc.2⟩
      have l2 : (btwn l (c, p.2)).length ≤ k := by
        have := len_le (l := (p.1, c) :: (btwn l (c, p.2)).map fun q => (p.1, q.2)) (m := btwn l p) (List.nodup_cons.mpr ⟨fun z => ?_, ?_⟩) fun x hx => ?_
        · simp only [List.length_cons, List.length_map] at this; omega
        · obtain ⟨q, hq, e⟩ := List.mem_map.mp z
          have e' : q.2 = c := by injection e
          obtain ⟨e1, e2⟩ := List.mem_filter.mp hq
          simp at e2
          have : q = (c, c) := Prod.ext e2.1 e'
          rw [this] at e1
          exact O.irr c e1
        · refine List.pairwise_map.mpr (List.Pairwise.imp_of_mem ?_ ((ris_nodup O.ris).sublist List.filter_sublist))
          intro x y hx hy hxy e
          have e2 : x.2 = y.2 := by injection e
          have a1 := (List.mem_filter.mp hx).2
          have a2 := (List.mem_filter.mp hy).2
          simp at a1 a2
          exact hxy (Prod.ext (a1.1.trans a2.1.symm) e2)
        · rcases List.mem_cons.mp hx with e | e
          · rw [e]; exact mem
          · obtain ⟨q, hq, rfl⟩ := List.mem_map.mp e
            obtain ⟨e1, e2⟩ := List.mem_filter.mp hq
            simp at e2
            have q1 : (c, q.2) ∈ l := by rw [← e2.1]; exact e1
            exact List.mem_filter.mpr ⟨O.tr _ _ _ hc.1 q1, by simp [e2.2]⟩
      exact (ih (p.1, c) hc.1 l1).trans (ih (c, p.2) hc.2 l2)
/-- closed, the next pairs are the order -/
theorem Ord.nexts_closed {n : Nat} {l : List Pr} (O : Ord n l) : filt n (Tr (Mem (nexts l))) = l := by
  refine ris_ext (ris_filt n _) O.ris fun x => ?_
  rw [mem_filt]
  constructor
  · rintro ⟨_, h⟩
    exact O.tr_mem.mp (h.mono fun a b r => (mem_nexts.mp r).1)
  · intro h
    exact ⟨O.wn x h, O.next_leads _ x h (Nat.le_refl _)⟩
theorem Ord.nexts_wn {n : Nat} {l : List Pr} (O : Ord n l) : Wn n (nexts l) := fun p h => O.wn p (mem_nexts.mp h).1
/-- turned about -/
theorem Ord.turned {n : Nat} {l : List Pr} (O : Ord n l) : Ord n (filt n fun a b => (b, a) ∈ l) :=
  ⟨O.lo, O.hi, filt_wn n _, ris_filt n _, fun a h => O.irr a (mem_filt.mp h).2, fun a b c h k => mem_filt.mpr ⟨⟨(mem_filt.mp h).1.1, (mem_filt.mp k).1.2⟩, O.tr _ _ _ (mem_filt.mp k).2 (mem_filt.mp h).2⟩⟩
theorem Ord.turned_turned {n : Nat} {l : List Pr} (O : Ord n l) : (filt n fun a b => (b, a) ∈ filt n fun a b => (b, a) ∈ l) = l := by
  refine ris_ext (ris_filt n _) O.ris fun x => ?_
  rw [mem_filt]
  constructor
  · rintro ⟨_, h⟩; exact (mem_filt.mp h).2
  · intro h; exact ⟨O.wn x h, mem_filt.mpr ⟨⟨(O.wn x h).2, (O.wn x h).1⟩, h⟩⟩
end OM

end

section
set_option linter.all false
set_option maxRecDepth 100000
set_option maxHeartbeats 1000000
namespace L2.ST
open PySem PySem.SetTable PySem.W PyProof.Rows
section
variable {prog : Program} {w : World} {A : Around} {E : Value → Shared → Prop} {s : Shared}

/-- the things by an order of their places: values and pairs -/
theorem up_ris {ps : List Pr} (hs : ∀ p, p ∈ ps → Sm p) {ix : Array Nat} (P : L2.SO.Pm ps.length ix) (U : L2.SO.Up (keyP ps) ix ps.length) : OM.Ris (ix.toList.map fun i => ps.getD i (0, 0)) := by
  refine List.pairwise_map.mpr (List.pairwise_iff_getElem.mpr fun i j hi hj hij => ?_)
  have hi' : i < ix.size := by simpa using hi
  have hj' : j < ix.size := by simpa using hj
  have q := U i j hij (by rw [← P.sz]; exact hj')
  unfold L2.SO.Kp keyP at q
  have ei : ix.getD i 0 = ix.toList[i] := by simp [Array.getD, hi']
  have ej : ix.getD j 0 = ix.toList[j] := by simp [Array.getD, hj']
  rw [ei, ej] at q
  have ai : ix.toList[i] < ps.length := P.lt _ (by simp)
  have aj : ix.toList[j] < ps.length := P.lt _ (by simp)
  have bi : Sm (ps.getD ix.toList[i] (0, 0)) := by rw [List.getD_eq_getElem?_getD, List.getElem?_eq_getElem ai]; exact hs _ (List.getElem_mem ai)
  have bj : Sm (ps.getD ix.toList[j] (0, 0)) := by rw [List.getD_eq_getElem?_getD, List.getElem?_eq_getElem aj]; exact hs _ (List.getElem_mem aj)
  exact (code_lt bi bj).mp q
theorem pm_mem {n : Nat} {ix : Array Nat} (P : L2.SO.Pm n ix) {k : Nat} (hk : k < n) : k ∈ ix.toList := by
  refine Classical.byContradiction fun hn => ?_
  have := nodup_len (l := k :: ix.toList) (m := List.range n) (List.nodup_cons.mpr ⟨hn, P.nd⟩) fun x hx => by
    rcases List.mem_cons.mp hx with e | e
    · rw [e]; exact List.mem_range.mpr hk
    · exact List.mem_range.mpr (P.lt x (by simpa using e))
  simp [P.sz] at this
  omega
theorem by_ix {h : Heap} {vs : List Value} {ps : List Pr} (hps : PairsAt prog w h vs ps) {ix : Array Nat} (P : L2.SO.Pm vs.length ix) :
    PairsAt prog w h (ix.toList.map fun i => vs.getD i Value.none) (ix.toList.map fun i => ps.getD i (0, 0)) := by
  refine ⟨by simp, fun i v p h1 h2 => ?_⟩
  rw [List.getElem?_map] at h1 h2
  cases e : ix.toList[i]? with
  | none => rw [e] at h1; cases h1
  | some k =>
    rw [e] at h1 h2
    have hk : k < vs.length := P.lt k (by simpa using List.mem_of_getElem? e)
    have hk' : k < ps.length := by rw [← hps.1]; exact hk
    simp [hk, hk'] at h1 h2
    exact hps.2 k v p (by rw [List.getElem?_eq_getElem hk, h1]) (by rw [List.getElem?_eq_getElem hk', h2])

/-- sorted(v), where v yields the pairs ps, each once -/
theorem sorted_of {v : Value} {vs : List Value} {ps : List Pr} {Q : Value → Shared → Prop} (hps : PairsAt prog w s.heap vs ps) (nd : ps.Nodup) (h64 : vs.length < 64)
    (hcol : ∀ (Q' : List Value → Shared → Prop), (∀ h' tk, (∀ b o, s.heap.get? b = some o → h'.get? b = some o) → Q' vs { s with heap := h', toks := tk }) → wpAny (model prog w) A.in1 (collect v) Q' (fun e s' => E e s') s)
    (h : ∀ (h1 h' : Heap) (tk : Nat) (D : Addr) (out : List Value) (qs : List Pr) (c : Nat), (∀ b o, s.heap.get? b = some o → h1.get? b = some o) → D = h1.objs.size → (∀ b o, h1.get? b = some o → h'.get? b = some o) → h'.get? D = some (seqObj "list" out.toArray c) → PairsAt prog w h' out qs → (∀ u, u ∈ out → u ∈ vs) → OM.Ris qs → (∀ p, p ∈ qs ↔ p ∈ ps) →
      Q (.ref D) { s with heap := h', toks := tk }) : wpAny (model prog w) A (call (.builtin "sorted") [v]) Q E s := by
  have hsm : ∀ p, p ∈ ps → Sm p := fun p hp => by
    obtain ⟨i, hi, e⟩ := List.mem_iff_getElem.mp hp
    have hi' : i < vs.length := by rw [hps.1]; exact hi
    obtain ⟨_, _, _, hs⟩ := hps.2 i vs[i] p (List.getElem?_eq_getElem hi') (by rw [List.getElem?_eq_getElem hi, e])
    exact hs
  (refine Calls.call_function_entry kind_sorted plain_sorted entry_sorted (args_sorted1 _) ?_)
  unfold Builtin.«sorted»
  refine wpAny_bind (m := checkCount "sorted" 1 1 ([v] : List Value).length) (wpAny_pure ?_)
  refine wpAny_bind (hcol _ fun h1 tk1 k1 => ?_)
  have hz : vs.length ≤ sizeLine := by rw [sizeLine_eq]; omega
  refine wpAny_bind (wpAny_newList ?_ hz)
  show wpAny _ _ _ _ _ { s with heap := h1.push (seqObj "list" vs.toArray 0), toks := tk1 }
  have hoL : (h1.push (seqObj "list" vs.toArray 0)).get? h1.objs.size = some (seqObj "list" vs.toArray 0) := Heap.get?_push_size _ rfl
  have kp : ∀ b o, s.heap.get? b = some o → (h1.push (seqObj "list" vs.toArray 0)).get? b = some o := fun b o e => Heap.get?_push_of_some _ (k1 b o e)
  have hp1 : PairsAt prog w (h1.push (seqObj "list" vs.toArray 0)) vs ps := ⟨hps.1, fun i v p a b => by
    obtain ⟨c, e, ⟨o, it, n, ho, r⟩, hs⟩ := hps.2 i v p a b
    exact ⟨c, e, ⟨o, it, n, kp _ _ ho, r⟩, hs⟩⟩
  have hne : ∀ b o, s.heap.get? b = some o → b ≠ h1.objs.size := fun b o e => Nat.ne_of_lt (Heap.lt_size (k1 b o e))
  refine wpAny_bind (wpAny_holding (wpAny_call_entry slot_list_sort ⟨_, hoL, rfl⟩ entry_list_sort ?_ (args_list_sort _)))
  refine lsort_pairs (s := { s with heap := h1.push (seqObj "list" vs.toArray 0), toks := tk1 }) hoL hp1 nd h64 fun h' c ix P U hk ho => ?_
  refine ⟨_, rfl, wpAny_pure ⟨_, rfl, ?_⟩⟩
  have kk : ∀ b o, s.heap.get? b = some o → h'.get? b = some o := fun b o e => hk b o (hne b o e) (kp b o e)
  have P' : L2.SO.Pm ps.length ix := by rw [← hps.1]; exact P
  have k2 : ∀ b o, h1.get? b = some o → h'.get? b = some o := fun b o e => hk b o (Nat.ne_of_lt (Heap.lt_size e)) (Heap.get?_push_of_some _ e)
  refine h h1 h' tk1 h1.objs.size _ (ix.toList.map fun i => ps.getD i (0, 0)) c k1 rfl k2 ho (by_ix ⟨hps.1, fun i v p a b => ?_⟩ P) (fun u hu => ?_) (up_ris hsm P' (by rw [← hps.1]; exact U)) fun p => ⟨fun hp => ?_, fun hp => ?_⟩
  · obtain ⟨c, e, ⟨o, it, n, ho, r⟩, hs⟩ := hps.2 i v p a b
    exact ⟨c, e, ⟨o, it, n, kk _ _ ho, r⟩, hs⟩
  · obtain ⟨i, hi, rfl⟩ := List.mem_map.mp hu
    have : i < vs.length := P.lt i (by simpa using hi)
    rw [List.getD_eq_getElem?_getD, List.getElem?_eq_getElem this]
    exact List.getElem_mem this
  · obtain ⟨i, hi, rfl⟩ := List.mem_map.mp hp
    have : i < ps.length := P'.lt i (by simpa using hi)
    rw [List.getD_eq_getElem?_getD, List.getElem?_eq_getElem this]
    exact List.getElem_mem this
  · obtain ⟨i, hi, e⟩ := List.mem_iff_getElem.mp hp
    refine List.mem_map.mpr ⟨i, pm_mem P' hi, ?_⟩
    rw [List.getD_eq_getElem?_getD, List.getElem?_eq_getElem hi, e]; rfl
end
end L2.ST

end

section
set_option linter.all false
set_option maxRecDepth 100000
set_option maxHeartbeats 1000000
namespace L2
open PySem PySem.Spec PyProof.Rows
abbrev Pr := Int × Int
abbrev Sm := L2.ST.Sm
section
variable {X : Cx} {pins : List (Addr × Obj)} {σ : St} {H H' : Hp} {s : Shared}

/-! ### what stays read -/
/-- all tuples and frozen things are kept -/
def Grow (H H' : Hp) : Prop := (∀ b xs, H b = some (.tup xs) → H' b = some (.tup xs)) ∧ ∀ b o u, H b = some (.frz o u) → H' b = some (.frz o u)
theorem Grow.refl (H : Hp) : Grow H H := ⟨fun _ _ h => h, fun _ _ _ h => h⟩
theorem Grow.trans {H H1 H2 : Hp} (a : Grow H H1) (b : Grow H1 H2) : Grow H H2 := ⟨fun c xs h => b.1 c xs (a.1 c xs h), fun c o u h => b.2 c o u (a.2 c o u h)⟩
theorem Same.grow {H H' : Hp} (e : Same H H') : Grow H H' := ⟨fun b xs h => e b _ h, fun b o u h => e b _ h⟩
theorem Grow.new {H : Hp} {l : Addr} {o : HO} (h : H l = none) : Grow H (upd H l o) := ⟨fun b xs e => by rw [upd_ne (ne_of_none e h)]; exact e, fun b o' u e => by rw [upd_ne (ne_of_none e h)]; exact e⟩
theorem Same.new {H : Hp} {l : Addr} {o : HO} (h : H l = none) : Same H (upd H l o) := fun b u e => by rw [upd_ne (ne_of_none e h)]; exact e
theorem SqT.grow {K : PySem.W.Frag} {a : Addr} {xs : List V} (h : SqT K H a xs) (g : Grow H H') : SqT K H' a xs := by
  rcases h with (h | ⟨o, h⟩) | h
  · exact .inl (.inl (g.1 _ _ h))
  · exact .inl (.inr ⟨o, g.2 _ _ _ h⟩)
  · exact .inr h
theorem Grow.list {a : Addr} {ys : List V} {o : HO} (h : H a = some (.lst ys)) : Grow H (upd H a o) :=
  ⟨fun b xs e => by rw [upd_ne (ne_of e h (by intro z; cases z))]; exact e, fun b o' u e => by rw [upd_ne (ne_of e h (by intro z; cases z))]; exact e⟩

/-- what rearranges a mapped list rearranges the list -/
theorem perm_map_back {α β : Type} {f : α → β} : ∀ {l : List α} {m : List β}, m.Perm (l.map f) → ∃ l' : List α, m = l'.map f ∧ l'.Perm l := by
  intro l m h
  generalize hk : l.map f = k at h
  induction h generalizing l with
  | nil =>
    have : l = [] := by simpa using hk
    exact ⟨[], rfl, by rw [this]⟩
  | @cons x m1 m2 _ ih =>
    cases l with
    | nil => cases hk
    | cons a l =>
      simp only [List.map_cons, List.cons.injEq] at hk
      obtain ⟨l', e, p⟩ := ih hk.2
      exact ⟨a :: l', by rw [List.map_cons, hk.1, e], p.cons a⟩
  | swap x y m1 =>
    cases l with
    | nil => cases hk
    | cons a l =>
      cases l with
      | nil => simp at hk
      | cons b l =>
        simp only [List.map_cons, List.cons.injEq] at hk
        exact ⟨b :: a :: l, by rw [List.map_cons, List.map_cons, hk.1, hk.2.1, hk.2.2], List.Perm.swap ..⟩
  | trans _ _ ih1 ih2 =>
    obtain ⟨l1, e1, p1⟩ := ih2 hk
    obtain ⟨l2, e2, p2⟩ := ih1 e1.symm
    exact ⟨l2, e2, p2.trans p1⟩
/-! ### pairs -/
/-- values that are tuples of two ints -/
def PairsV (K : PySem.W.Frag) (H : Hp) : List V → List Pr → Prop := Paired fun v p => ∃ a, v = .ref a ∧ SqT K H a [.int p.1, .int p.2]
theorem PairsV.grow {K : PySem.W.Frag} {vs : List V} {ps : List Pr} (h : PairsV K H vs ps) (g : Grow H H') : PairsV K H' vs ps := Paired.mapP h fun v p ⟨a, e, q⟩ => ⟨a, e, q.grow g⟩
theorem Paired.getP {α β : Type} {F : α → β → Prop} : ∀ {l : List α} {m : List β} {i : Nat} {x : α}, Paired F l m → l[i]? = some x → ∃ y, m[i]? = some y ∧ F x y
  | _, _, _, _, .nil, e => by simp at e
  | _, _, 0, _, .cons r _, e => by simp at e; subst e; exact ⟨_, rfl, r⟩
  | _, _, i + 1, x, .cons _ t, e => by
    obtain ⟨u, h1, h2⟩ := Paired.getP (i := i) (x := x) t (by simpa using e)
    exact ⟨u, by simpa using h1, h2⟩
theorem Paired.getQ {α β : Type} {F : α → β → Prop} : ∀ {l : List α} {m : List β} {i : Nat} {y : β}, Paired F l m → m[i]? = some y → ∃ x, l[i]? = some x ∧ F x y
  | _, _, _, _, .nil, e => by simp at e
  | _, _, 0, _, .cons r _, e => by simp at e; subst e; exact ⟨_, rfl, r⟩
  | _, _, i + 1, x, .cons _ t, e => by
    obtain ⟨u, h1, h2⟩ := Paired.getQ (i := i) (y := x) t (by simpa using e)
    exact ⟨u, by simpa using h1, h2⟩
theorem pair_at (I : Inv X pins σ H s) {a : Addr} {p : Pr} (h : SqT X.K H a [.int p.1, .int p.2]) : L2.ST.PairAt X.prog X.w s.heap p a := by
  obtain ⟨its, r, ⟨o, ho, hc, n, hd⟩, _⟩ := I.tuple h
  cases r with
  | cons r1 r =>
    cases r with
    | cons r2 r =>
      cases r
      obtain ⟨t1, rfl⟩ := r1
      obtain ⟨t2, rfl⟩ := r2
      exact ⟨o, _, n, ho, hc, hd, .cons (intKind_is ..) (.cons (intKind_is ..) .nil)⟩
theorem pairs_at (I : Inv X pins σ H s) {vs : List V} {us : List Value} {ps : List Pr} (hv : Vals vs us) (h : PairsV X.K H vs ps) (hs : ∀ p, p ∈ ps → Sm p) : L2.ST.PairsAt X.prog X.w s.heap us ps := by
  refine ⟨by rw [← hv.length]; exact Paired.length h, fun i u p e1 e2 => ?_⟩
  obtain ⟨v, ev, a, rfl, q⟩ := Paired.getQ h e2
  obtain ⟨u', eu, ru⟩ := hv.get ev
  rw [e1] at eu; cases eu
  cases ru
  exact ⟨a, rfl, pair_at I q, hs p (List.mem_of_getElem? e2)⟩
/-- values that stand among known ones -/
theorem pairs_back (I : Inv X pins σ H s) {vs : List V} {us : List Value} {ps : List Pr} (hv : Vals vs us) (h : PairsV X.K H vs ps) {h' : Heap} (k : ∀ b o, s.heap.get? b = some o → h'.get? b = some o) : ∀ {out : List Value} {qs : List Pr},
    (∀ u, u ∈ out → u ∈ us) → L2.ST.PairsAt X.prog X.w h' out qs → ∃ ws, Vals ws out ∧ PairsV X.K H ws qs
  | [], [], _, _ => ⟨[], .nil, .nil⟩
  | [], _ :: _, _, hp => by have := hp.1; simp at this
  | _ :: _, [], _, hp => by have := hp.1; simp at this
  | u :: out, q :: qs, hm, hp => by
    obtain ⟨ws, a1, a2⟩ := pairs_back I hv h k (out := out) (qs := qs) (fun x hx => hm x (List.mem_cons_of_mem _ hx)) ⟨by have := hp.1; simpa using this, fun i v p e1 e2 => hp.2 (i + 1) v p (by simpa using e1) (by simpa using e2)⟩
    obtain ⟨i, hi, e⟩ := List.mem_iff_getElem.mp (hm u (List.mem_cons_self ..))
    have hi' : i < vs.length := by rw [hv.length]; exact hi
    obtain ⟨u', eu, ru⟩ := hv.get (List.getElem?_eq_getElem hi')
    rw [List.getElem?_eq_getElem hi, e] at eu
    cases eu
    obtain ⟨p, ep, a, ea, qa⟩ := Paired.getP h (List.getElem?_eq_getElem hi')
    rw [ea] at ru
    cases ru
    obtain ⟨b, eb, hb, _⟩ := hp.2 0 (.ref a) q rfl rfl
    cases eb
    have pa : L2.ST.PairAt X.prog X.w h' p a := by
      obtain ⟨o, it, n, ho, r⟩ := pair_at I qa
      exact ⟨o, it, n, k _ _ ho, r⟩
    have : p = q := L2.ST.PairAt.inj pa hb
    subst this
    exact ⟨.ref a :: ws, .cons rfl a1, .cons ⟨a, rfl, qa⟩ a2⟩

/-- sorted(xs), xs a list or a tuple of small pairs, each once -/
def rSorted (K : PySem.W.Frag) : List V → Hp → VK → Prop := fun xs H Q => ∃ a vs ps, xs = [.ref a] ∧ SqL K H a vs ∧ PairsV K H vs ps ∧ (∀ p, p ∈ ps → Sm p) ∧ ps.Nodup ∧ ps.length < 64 ∧
  ∀ l ws qs, H l = none → PairsV K H ws qs → OM.Ris qs → (∀ p, p ∈ qs ↔ p ∈ ps) → Q (.ref l) (upd H l (.lst ws))
theorem sorted_end (I : Inv X pins σ H s) {vs : List V} {us : List Value} {ps : List Pr} (hv : Vals vs us) (hp : PairsV X.K H vs ps) (hlen : ps.length < 64) {Q : VK}
    (q : ∀ l ws qs, H l = none → PairsV X.K H ws qs → OM.Ris qs → (∀ p, p ∈ qs ↔ p ∈ ps) → Q (.ref l) (upd H l (.lst ws)))
    {h1 h' : Heap} {tk : Nat} {D : Addr} {out : List Value} {qs : List Pr} {c : Nat} (k1 : ∀ b o, s.heap.get? b = some o → h1.get? b = some o) (eD : D = h1.objs.size) (k2 : ∀ b o, h1.get? b = some o → h'.get? b = some o)
    (ho : h'.get? D = some (seqObj "list" out.toArray c)) (hpq : L2.ST.PairsAt X.prog X.w h' out qs) (hm : ∀ u, u ∈ out → u ∈ us) (hr : OM.Ris qs) (hmem : ∀ p, p ∈ qs ↔ p ∈ ps) : EP X pins σ Q (.ref D) { s with heap := h', toks := tk } := by
  obtain ⟨ws, r1, r2⟩ := pairs_back I hv hp (fun b o e => k2 b o (k1 b o e)) hm hpq
  have I1 : Inv X pins σ H { s with heap := h1, toks := tk } := I.kept k1
  have hf : H D = none := by rw [eD]; exact I1.hok.fresh (Nat.le_refl _)
  have hz : ws.length ≤ sizeLine := by
    have e1 := r1.length
    have e2 : out.length = qs.length := hpq.1
    have e3 := OM.len_le (OM.ris_nodup hr) fun x hx => (hmem x).mp hx
    rw [sizeLine_eq]; omega
  have I2 : Inv X pins σ (upd H D (.lst ws)) { s with heap := h', toks := tk } := I1.laid (t' := tk) k2 (by rw [eD]; exact Nat.le_refl _) (show ObjOk X.prog X.w _ h' _ (.lst ws) from ⟨hz, out, c, r1, ho⟩)
  exact ⟨.ref D, _, I2, rfl, q D ws qs hf r2 hr hmem⟩
theorem call_sorted : CallR X (.builtin "sorted") (rSorted X.K) := by
  intro pins s σ H xs us Q I r h
  obtain ⟨a, vs, ps, rfl, hq, hp, hs, nd, hl, q⟩ := h
  obtain ⟨u, rfl, rx⟩ := vals1 r
  cases rx
  obtain ⟨its, rv, pl, hz⟩ := I.list hq
  have hpa := pairs_at I rv hp hs
  have h64 : its.length < 64 := by rw [hpa.1]; exact hl
  refine L2.ST.sorted_of (v := .ref a) hpa nd h64 (fun Q' hQ' => collect_list pl.isList ?_ (by rw [sizeLine_eq]; omega)) fun h1 h' tk D out qs c k1 eD k2 ho hpq hm hr hmem => ?_
  · exact hQ' _ s.toks fun b o e => by
      rw [Heap.get?_update_ne _ _ _ _ (Nat.ne_of_lt (Heap.lt_size e)), Heap.get?_push_ne _ _ _ (Nat.ne_of_lt (Heap.lt_size e))]; exact e
  · exact sorted_end I rv hp hl q k1 eD k2 ho hpq hm hr hmem

/-- a set of pairs, as an object -/
abbrev vq (qs : List (Addr × Pr)) : List V := qs.map fun q => V.ref q.1
abbrev pq (qs : List (Addr × Pr)) : List Pr := qs.map (·.2)
def SetIs (prog : Program) (w : World) (S : Addr) (qs : List (Addr × Pr)) (h : Heap) : Prop := ∃ o ep t, h.get? S = some o ∧ o.ExactSet ∧ o.data = .set (qs.map fun q => (L2.ST.hpK prog w q.2, Value.ref q.1)).toArray ep t ∧ L2.ST.Tab t (qs.map fun q => L2.ST.hpK prog w q.2) ∧ t.led = L2.ST.ledW w
def SetO (prog : Program) (w : World) (S : Addr) (qs : List (Addr × Pr)) : HO := .ext (SetIs prog w S qs)
def rSet (P : Program) (w : World) (K : PySem.W.Frag) : List V → Hp → VK → Prop := fun xs H Q => ∃ a vs ps, xs = [.ref a] ∧ (SqL K H a vs ∨ SqT K H a vs) ∧ PairsV K H vs ps ∧ (∀ p, p ∈ ps → Sm p) ∧
  ∀ S qs, H S = none → PairsV K H (vq qs) (pq qs) → (pq qs).Nodup → (∀ p, p ∈ pq qs ↔ p ∈ ps) → Q (.ref S) (upd H S (SetO P w S qs))
theorem call_set (hc : X.calm = true) (hu : X.A.units + 64 < cLine) : CallR X (.type "set") (rSet X.prog X.w X.K) := by
  intro pins s σ H xs us Q I r h
  obtain ⟨a, vs, ps, rfl, hq, hp, hs, q⟩ := h
  obtain ⟨u, rfl, rx⟩ := vals1 r
  cases rx
  have hh := I.ok.hd hc
  have core : ∀ {its : List Value} {T : String} {itO : Obj} {St : Addr → Nat → Heap → Prop}, Vals vs its → L2.ST.Src X.prog X.w s.heap a its T itO St → wpAny (model X.prog X.w) X.A (call (.type "set") [.ref a]) (EP X pins σ Q) X.xe s := fun {its T itO St} rv src => by
    refine L2.ST.call_set_pairs src hh hu (pairs_at I rv hp hs) fun h' tk F k => ?_
    obtain ⟨qs, P1, P2, P3⟩ := F
    have hlen : its.length = vs.length := rv.length.symm
    have back : ∀ qv : Addr × Pr, qv ∈ qs → ∃ b, b = qv.1 ∧ SqT X.K H b [.int qv.2.1, .int qv.2.2] := fun qv hqv => by
      obtain ⟨i, hi, e⟩ := List.mem_iff_getElem.mp (List.mem_of_mem_take (P2 qv hqv).1)
      have hi' : i < vs.length := by rw [← hlen]; exact hi
      obtain ⟨u', eu, ru⟩ := rv.get (List.getElem?_eq_getElem hi')
      rw [List.getElem?_eq_getElem hi, e] at eu
      cases eu
      obtain ⟨p, ep, b, eb, qb⟩ := Paired.getP hp (List.getElem?_eq_getElem hi')
      rw [eb] at ru
      cases ru
      have pa : L2.ST.PairAt X.prog X.w h' p qv.1 := by
        obtain ⟨o, it, n, ho, r⟩ := pair_at I qb
        exact ⟨o, it, n, k _ _ ho, r⟩
      have : p = qv.2 := L2.ST.PairAt.inj pa (P1.at' qv hqv).1
      subst this
      exact ⟨_, rfl, qb⟩
    have hpv : ∀ {l : List (Addr × Pr)}, (∀ x, x ∈ l → x ∈ qs) → PairsV X.K H (vq l) (pq l) := fun {l} => by
      induction l with
      | nil => intro _; exact .nil
      | cons y l ih =>
        intro hl
        obtain ⟨b, eb, qb⟩ := back y (hl y (List.mem_cons_self ..))
        subst eb
        exact .cons ⟨_, rfl, qb⟩ (ih fun x hx => hl x (List.mem_cons_of_mem _ hx))
    have hmem : ∀ p, p ∈ pq qs ↔ p ∈ ps := fun p => by
      have hpl : ps.length = its.length := by rw [hlen]; exact (Paired.length hp).symm
      constructor
      · intro hx
        obtain ⟨qv, hqv, rfl⟩ := List.mem_map.mp hx
        exact List.mem_of_mem_take (P2 qv hqv).2
      · intro hx
        exact P3 p (by rw [← hpl, List.take_of_length_le (Nat.le_refl _)]; exact hx)
    have hf : H s.heap.objs.size = none := I.hok.fresh (Nat.le_refl _)
    obtain ⟨o, ep, t, ho, r1⟩ := P1.ex
    have new : ObjOk X.prog X.w (upd H s.heap.objs.size (SetO X.prog X.w s.heap.objs.size qs)) h' s.heap.objs.size (SetO X.prog X.w s.heap.objs.size qs) :=
      ⟨⟨o, ep, t, ho, r1⟩, ⟨o, ho⟩, fun h1 h2 ⟨o1, ep1, t1, g1, g2⟩ kk => ⟨o1, ep1, t1, kk _ g1, g2⟩⟩
    exact ⟨.ref _, _, I.laid (t' := tk) k (Nat.le_refl _) new, rfl, q _ qs hf (hpv fun x hx => hx) P1.nd hmem⟩
  rcases hq with hq | hq
  · obtain ⟨its, rv, pl, hz⟩ := I.list hq
    exact core rv (L2.ST.Src.list pl.isList)
  · obtain ⟨its, rv, pl, hz⟩ := I.tuple hq
    exact core rv (L2.ST.Src.tuple pl)
/-- sorted(s), s a set of pairs -/
def rSortSet (P : Program) (w : World) (K : PySem.W.Frag) : List V → Hp → VK → Prop := fun xs H Q => ∃ S qs, xs = [.ref S] ∧ H S = some (SetO P w S qs) ∧ PairsV K H (vq qs) (pq qs) ∧ (∀ p, p ∈ pq qs → Sm p) ∧ (pq qs).Nodup ∧ qs.length < 64 ∧
  ∀ l ws rs, H l = none → PairsV K H ws rs → OM.Ris rs → (∀ p, p ∈ rs ↔ p ∈ pq qs) → Q (.ref l) (upd H l (.lst ws))
theorem call_sortset (hc : X.calm = true) : CallR X (.builtin "sorted") (rSortSet X.prog X.w X.K) := by
  intro pins s σ H xs us Q I r h
  obtain ⟨S, qs, rfl, hS, hp, hs, nd, hl, q⟩ := h
  obtain ⟨u, rfl, rx⟩ := vals1 r
  cases rx
  have hh := I.ok.hd hc
  obtain ⟨⟨o, ep, t, ho, hex, hd, T, hled⟩, _, _⟩ : SetIs X.prog X.w S qs s.heap ∧ _ := I.hok S _ hS
  have T' : L2.ST.Tab t ((qs.map fun q => (L2.ST.hpK X.prog X.w q.2, Value.ref q.1)).toArray.toList.map (·.1)) := by
    rw [List.toList_toArray, List.map_map]; exact T
  have htp := L2.ST.told_perm X.w S ep (qs.map fun q => (L2.ST.hpK X.prog X.w q.2, Value.ref q.1)).toArray
  -- the members in the order told
  have hmem : ∀ x, x ∈ (L2.ST.told X.w S ep (qs.map fun q => (L2.ST.hpK X.prog X.w q.2, Value.ref q.1)).toArray).toList → ∃ q, q ∈ qs ∧ x = (L2.ST.hpK X.prog X.w q.2, Value.ref q.1) := fun x hx => by
    have := htp.mem_iff.mp hx
    simp only [List.toList_toArray] at this
    obtain ⟨q, hq, e⟩ := List.mem_map.mp this
    exact ⟨q, hq, e.symm⟩
  obtain ⟨q2, e2, p2⟩ : ∃ q2 : List (Addr × Pr), (L2.ST.told X.w S ep (qs.map fun q => (L2.ST.hpK X.prog X.w q.2, Value.ref q.1)).toArray).toList = q2.map (fun q => (L2.ST.hpK X.prog X.w q.2, Value.ref q.1)) ∧ q2.Perm qs := by
    have := htp
    simp only [List.toList_toArray] at this
    exact perm_map_back this
  have hp2 : PairsV X.K H (vq q2) (pq q2) := by
    have key : ∀ {l : List (Addr × Pr)}, (∀ x, x ∈ l → x ∈ qs) → PairsV X.K H (vq l) (pq l) := fun {l} => by
      induction l with
      | nil => intro _; exact .nil
      | cons y l ih =>
        intro hl
        obtain ⟨i, hi, e⟩ := List.mem_iff_getElem.mp (hl y (List.mem_cons_self ..))
        obtain ⟨p, ep', a, ea, qa⟩ := Paired.getP (l := vq qs) (m := pq qs) (i := i) (x := .ref y.1) hp (by simp [hi, e])
        have : p = y.2 := by simp [hi, e] at ep'; exact ep'.symm
        subst this
        exact .cons ⟨a, ea, qa⟩ (ih fun x hx => hl x (List.mem_cons_of_mem _ hx))
    exact key fun x hx => p2.mem_iff.mp hx
  have hv2 : Vals (vq q2) (q2.map fun q => Value.ref q.1) := by
    induction q2 with
    | nil => exact .nil
    | cons y l ih => exact .cons rfl (by
        clear ih e2 p2 hp2
        induction l with
        | nil => exact .nil
        | cons z l ih2 => exact .cons rfl ih2)
  have hm2 : ∀ p, p ∈ pq q2 ↔ p ∈ pq qs := fun p => (p2.map (·.2)).mem_iff
  have hpa := pairs_at I hv2 hp2 fun p hpp => hs p ((hm2 p).mp hpp)
  have hl2 : q2.length < 64 := by rw [p2.length_eq]; exact hl
  refine L2.ST.sorted_of (v := .ref S) hpa ((p2.map (·.2)).nodup_iff.mpr nd) (by simpa using hl2) (fun Q' hQ' => L2.ST.collect_set (by simpa using hh) ho hd hex.1 T' hled (by simp; omega) fun h' tk vs ev k => ?_) fun h1 h' tk D out qs' c k1 eD k2 ho' hpq hm hr hmem' => ?_
  · rw [ev, e2]
    rw [List.map_map]
    exact hQ' h' tk k
  · exact sorted_end I hv2 hp2 (by simpa using hl2) (fun l ws rs a1 a2 a3 a4 => q l ws rs a1 a2 a3 fun p => (a4 p).trans (hm2 p)) k1 eD k2 ho' hpq hm hr hmem'
end
end L2

end

section
set_option linter.all false
set_option maxRecDepth 100000
set_option maxHeartbeats 1000000
namespace L2
open PySem PySem.Spec PyProof.Rows
/-! ### list comprehensions -/
def clOf (cells : List (Str × Addr)) : List (Str × NameKind) → List (Str × Addr) → List (Str × Addr)
  | [], cs => cs
  | (n, k) :: r, cs => clOf cells r (if k == .free then (n, (cells.lookup n).getD 0) :: cs else cs)
theorem closure_eq {scope : Scope} {env : Env} (h : ∀ y ∈ scope.names, y.2 = .free → ∃ c, env.cells.lookup y.1 = some c) : closureFor scope env = pure (clOf env.cells scope.names []) := by
  unfold closureFor
  have key : ∀ (l : List (Str × NameKind)) (cs : List (Str × Addr)), (∀ y ∈ l, y.2 = .free → ∃ c, env.cells.lookup y.1 = some c) →
      (forIn l cs (fun (x : Str × NameKind) (r : List (Str × Addr)) => if (x.2 == NameKind.free) = true then (do let a ← cellOf env x.1; pure (ForInStep.yield ((x.1, a) :: r)) : Sem _) else pure (ForInStep.yield r)) : Sem (List (Str × Addr))) = pure (clOf env.cells l cs) := by
    intro l
    induction l with
    | nil => intro cs _; rfl
    | cons y l ih =>
      intro cs hy
      obtain ⟨n, k⟩ := y
      rw [List.forIn_cons]
      unfold clOf
      by_cases hk : (k == NameKind.free) = true
      · have hk' : k = .free := by simpa using hk
        obtain ⟨c, hc⟩ := hy (n, k) (List.mem_cons_self ..) hk'
        have hce : cellOf env n = pure c := by unfold cellOf; rw [hc]
        simp only [hk, if_true]
        have hc' : env.cells.lookup n = some c := hc
        rw [hce, hc']
        simp only [pure_bind, Option.getD_some]
        exact ih _ fun z hz => hy z (List.mem_cons_of_mem _ hz)
      · simp only [hk, if_false, Bool.false_eq_true]
        simp only [pure_bind]
        exact ih _ fun z hz => hy z (List.mem_cons_of_mem _ hz)
  have := key scope.names [] h
  simp only [bind_pure_comp] at this ⊢
  first
    | exact this
    | (rw [this]; rfl)
    | (simpa using this)
theorem clOf_some {cells : List (Str × Addr)} {x : Str} : ∀ {l : List (Str × NameKind)} {cs : List (Str × Addr)}, ((x, NameKind.free) ∈ l ∨ cs.lookup x = some ((cells.lookup x).getD 0)) → (clOf cells l cs).lookup x = some ((cells.lookup x).getD 0)
  | [], cs, h => by
    rcases h with h | h
    · cases h
    · exact h
  | (n, k) :: r, cs, h => by
    unfold clOf
    refine clOf_some ?_
    by_cases hk : (k == NameKind.free) = true
    · rw [if_pos hk]
      by_cases hx : x = n
      · subst hx; right; simp
      · rcases h with h | h
        · rcases List.mem_cons.mp h with e | e
          · injection e with e1 _; exact absurd e1 hx
          · exact .inl e
        · right
          rw [List.lookup_cons, show (x == n) = false by simpa using hx]
          exact h
    · rw [if_neg hk]
      rcases h with h | h
      · rcases List.mem_cons.mp h with e | e
        · injection e with _ e2; exact absurd (by rw [← e2]; rfl) hk
        · exact .inl e
      · exact .inr h
theorem clOf_back {cells : List (Str × Addr)} {x : Str} {c : Addr} : ∀ {l : List (Str × NameKind)} {cs : List (Str × Addr)}, (clOf cells l cs).lookup x = some c → ((x, NameKind.free) ∈ l ∧ c = (cells.lookup x).getD 0) ∨ cs.lookup x = some c
  | [], cs, h => .inr h
  | (n, k) :: r, cs, h => by
    unfold clOf at h
    rcases clOf_back h with ⟨a, b⟩ | a
    · exact .inl ⟨List.mem_cons_of_mem _ a, b⟩
    · by_cases hk : (k == NameKind.free) = true
      · rw [if_pos hk, List.lookup_cons] at a
        by_cases hx : x = n
        · subst hx
          simp at a
          have : k = .free := by simpa using hk
          subst this
          exact .inl ⟨List.mem_cons_self .., a.symm⟩
        · rw [show (x == n) = false by simpa using hx] at a
          exact .inr a
      · rw [if_neg hk] at a
        exact .inr a
theorem lookup_mapK {f : Str → NameKind → NameKind} {x : Str} : ∀ (l : List (Str × NameKind)), (l.map fun y => (y.1, f y.1 y.2)).lookup x = (l.lookup x).map (f x)
  | [] => rfl
  | (n, k) :: l => by
    rw [List.map_cons, List.lookup_cons, List.lookup_cons]
    by_cases hx : x = n
    · subst hx; simp
    · have hb : (x == n) = false := by simpa using hx
      simp only [hb]
      exact lookup_mapK l
theorem relabel_lookup (scope : Scope) (env : Env) (x : Str) : (relabel scope env).names.lookup x = (scope.names.lookup x).map fun k => if (k == .free && env.scope.kind == .function && env.kindOf x == some .cell) then .cell else k := by
  have e : (relabel scope env).names = scope.names.map fun y => (y.1, if (y.2 == .free && env.scope.kind == .function && env.kindOf y.1 == some .cell) then .cell else y.2) := by
    unfold relabel
    dsimp only
    refine List.map_congr_left fun y _ => ?_
    obtain ⟨n, k⟩ := y
    dsimp only
    split <;> rfl
  rw [e]
  exact lookup_mapK (f := fun n k => if (k == .free && env.scope.kind == .function && env.kindOf n == some .cell) then .cell else k) scope.names

/-- the context of a comprehension's block -/
def blk (X : Cx) (NB : List Str) (scope : Scope) (C : Addr) (ex : List Addr) (s3 : Shared) (H3 : Hp) (pn : List (Addr × Obj)) : Cx :=
  { X with N := NB, s₀ := s3, H₀ := H3, env := compEnvC scope (clOf X.env.cells scope.names []) C X.env, outer := X.stack, ex := ex, fn := fun _ => false, pn := pn, xe := fun _ _ => False }
/-- the block's values at its start: its own names empty, the others as they stand -/
def stB (own : Nat) (ixs : List Nat) (σ : St) : St := List.replicate own none ++ ixs.map fun i => (σ[i]?).join

structure CompScope (X : Cx) (NB : List Str) (own : Nat) (ixs : List Nat) (scope : Scope) : Prop where
  kind : scope.kind = .function
  nocell : ∀ y ∈ scope.names, y.2 ≠ .cell
  names : ∀ y ∈ scope.names, scope.names.lookup y.1 = some y.2
  frees : ∀ y ∈ scope.names, y.2 = .free → X.env.kindOf y.1 = some .cell ∨ X.env.kindOf y.1 = some .free
  nd : NB.Nodup
  len : NB.length = own + ixs.length
  at' : ∀ k, k < ixs.length → NB[own + k]? = X.N[ixs.getD k 0]? ∧ ∀ x, NB[own + k]? = some x → (x, NameKind.free) ∈ scope.names
section
variable {X : Cx} {NB : List Str} {own : Nat} {ixs : List Nat} {scope : Scope} {pins : List (Addr × Obj)} {σ : St} {H : Hp} {s : Shared}

theorem blk_start (S : CompScope X NB own ixs scope) (I : Inv X pins σ H s) {fp : List Addr} (hfp : ∀ b ∈ fp, FpOk X pins H b) (hob : ∀ b ∈ fp, ∃ o, s.heap.get? b = some o) {h1 : Heap} {tk : Nat}
    (hn : h1.Ns s.heap.objs.size (fun _ => none)) (hk : ∀ b o, s.heap.get? b = some o → h1.get? b = some o) :
    Inv (blk X NB scope s.heap.objs.size fp s H (X.pn ++ pins)) [] (stB own ixs σ) H { s with heap := h1, toks := tk } := by
  have stk := I.stack
  have frees : ∀ {x : Str}, (x, NameKind.free) ∈ scope.names → ∃ c, X.env.cells.lookup x = some c := fun {x} hx => I.ok.has x (S.frees _ hx rfl)
  have clE : ∀ {x : Str} {c : Addr}, (clOf X.env.cells scope.names []).lookup x = some c → (x, NameKind.free) ∈ scope.names ∧ X.env.cells.lookup x = some c := fun {x c} h => by
    rcases clOf_back h with ⟨a, b⟩ | a
    · obtain ⟨c', e⟩ := frees a
      rw [e] at b
      exact ⟨a, by rw [e, b]; rfl⟩
    · simp at a
  have kindB : ∀ x, (blk X NB scope s.heap.objs.size fp s H (X.pn ++ pins)).env.kindOf x = (scope.names.lookup x).map fun k => if (k == .free && X.env.scope.kind == .function && X.env.kindOf x == some .cell) then .cell else k := fun x => relabel_lookup scope X.env x
  have isFree : ∀ {x : Str}, ((blk X NB scope s.heap.objs.size fp s H (X.pn ++ pins)).env.kindOf x = some .cell ∨ (blk X NB scope s.heap.objs.size fp s H (X.pn ++ pins)).env.kindOf x = some .free) → (x, NameKind.free) ∈ scope.names := fun {x} h => by
    rw [kindB] at h
    cases e : scope.names.lookup x with
    | none => rw [e] at h; simp at h
    | some k =>
      have hm := PySem.mem_of_lookup e
      cases k with
      | free => exact hm
      | cell => exact absurd rfl (S.nocell _ hm)
      | _ => rw [e] at h; simp at h
  have neN : ∀ b o, s.heap.get? b = some o → b ≠ s.heap.objs.size := fun b o e => Nat.ne_of_lt (Heap.lt_size e)
  have cellN : ∀ {x : Str} {c : Addr}, X.env.cells.lookup x = some c → c < s.heap.objs.size := fun {x c} e => by
    obtain ⟨v, o, ho, _⟩ := I.cell x c e
    exact Heap.lt_size ho
  have ok : (blk X NB scope s.heap.objs.size fp s H (X.pn ++ pins)).Ok := by
    refine ⟨I.ok.mod, S.kind, I.ok.glob, I.ok.blt, Nat.le_refl _, fun x y c h1 h2 => I.ok.inj x y c (clE h1).2 (clE h2).2, fun x hx => ?_, fun x c h => (by cases h), I.ok.hd, I.ok.frames, .inl rfl, fun b hb => ?_, I.bs, Nat.le_trans I.ok.bsz I.sz, fun b o e hb => ?_, fun b hb hs => ?_, stk, I.stkFree⟩
    · have hm := isFree hx
      exact ⟨_, clOf_some (.inl hm)⟩
    · obtain ⟨_, f1, f2, f3, f4, f5⟩ := hfp b hb
      refine ⟨?_, fun x c h z => f4 x c (clE h).2 z⟩
      obtain ⟨o, ho⟩ := hob b hb
      exact neN b o ho
    · obtain ⟨_, f1, f2, f3, f4, f5⟩ := hfp b hb
      rcases f3 with f3 | f3
      · exact I.ok.noex b o e f3
      · exact absurd (Nat.lt_of_lt_of_le (Heap.lt_size e) (Nat.le_trans I.ok.bsz f3)) (Nat.lt_irrefl _)
    · obtain ⟨_, f1, f2, f3, f4, f5⟩ := hfp b hb
      rcases List.mem_cons.mp (I.stkSub b hs) with z | z
      · exact f1 z
      · exact f2 z
  refine ⟨ok, rfl, I.bare, Un.kept hk, ⟨_, hn, fun i x v h1' h2' h3' => ?_⟩, fun x c h => ?_, I.hok.fresh (Nat.le_refl _), fun x c h => I.freeC x c (clE h).2, fun p hp => ?_, I.hok.kept hk, ?_⟩
  · -- a name that stands outside
    have h1' : NB[i]? = some x := h1'
    have hown : own ≤ i := by
      refine Classical.byContradiction fun hc => ?_
      have hlt : i < own := Nat.lt_of_not_le hc
      unfold stB at h2'
      rw [List.getElem?_append_left (by simpa using hlt), List.getElem?_replicate, if_pos hlt] at h2'
      cases h2'
    obtain ⟨k, rfl⟩ : ∃ k, i = own + k := ⟨i - own, by omega⟩
    have hk' : k < ixs.length := by
      have := (List.getElem?_eq_some_iff.mp h1').1
      rw [S.len] at this; omega
    obtain ⟨e1, e2⟩ := S.at' k hk'
    have hm := e2 x h1'
    unfold stB at h2'
    rw [List.getElem?_append_right (by simp), List.length_replicate, Nat.add_sub_cancel_left, List.getElem?_map, List.getElem?_eq_getElem hk'] at h2'
    simp only [Option.map_some, Option.some.injEq] at h2'
    have hix : ixs.getD k 0 = ixs[k] := by simp [hk']
    have hσ : σ[ixs[k]]? = some (some v) := by
      cases e : σ[ixs[k]]? with
      | none => rw [e] at h2'; cases h2'
      | some o => rw [e] at h2'; simp at h2'; rw [h2']
    rw [e1, hix] at h1'
    have hkind := S.frees _ hm rfl
    have hvis : Vis X.env.scope x := hkind.elim (fun z => .inr (.inl z)) (fun z => .inr (.inr z))
    obtain ⟨m, hm', hl⟩ := I.loc
    obtain ⟨u, r, look⟩ := hl _ x v h1' hσ hvis
    refine ⟨u, r, .inr ⟨?_, ?_⟩⟩
    · rw [kindB]
      -- x is free in the block
      have hfr : scope.names.lookup x = some .free := S.names _ hm
      rw [hfr]
      simp only [Option.map_some]
      split
      · exact .inl rfl
      · exact .inr rfl
    · rcases look with ⟨z, _⟩ | ⟨_, c, hc, hcell⟩
      · rcases hkind with q | q
        · rw [q] at z; cases z
        · rw [q] at z; cases z
      · refine ⟨c, ?_, ?_⟩
        · have := clOf_some (cells := X.env.cells) (cs := []) (.inl hm)
          rw [hc] at this
          exact this
        · obtain ⟨o, ho, hd⟩ := hcell
          exact ⟨o, hk _ _ ho, hd⟩
  · obtain ⟨v, o, ho, hd⟩ := I.cell x c (clE h).2
    exact ⟨v, o, hk _ _ ho, hd⟩
  · have hp' : p ∈ X.pn ++ pins := by
      rcases List.mem_append.mp hp with z | z
      · exact z
      · cases z
    obtain ⟨e, n, ne, nf, d⟩ := I.pin p hp'
    refine ⟨hk _ _ e, n, neN _ _ e, fun z => ?_, d⟩
    rcases List.mem_cons.mp (I.stkSub _ z) with q | q
    · exact ne q
    · exact nf q
  · show (stB own ixs σ).length = NB.length
    unfold stB
    rw [S.len]; simp
end
end L2

end

section
set_option linter.all false
set_option maxRecDepth 100000
set_option maxHeartbeats 1000000
namespace L2
open PySem PySem.Spec PyProof.Rows
/-! ### the loop of a comprehension -/
abbrev testsOf (ifs : List Expr) (env : Env) : Sem Bool := forIn ifs true fun c r => if r = true then do let ok ← isTrue c env (eval c env); pure (ForInStep.yield ok) else pure (ForInStep.yield r)
theorem comp_loop {prog : Program} {w : World} {A : Around} {R : Result → Shared → Prop} {s : Shared} {elt target iter : Expr} {ifs : List Expr} {scope : Scope} {pos : Pos} {it acc : Value} {env : Env} (I : Nat → Shared → Prop)
    (turn : ∀ n s, I n s → wpAny (model prog w) A (pyNext it) (fun r s1 => match r with
      | none => R (.ok .next) s1
      | some v => wpAny (model prog w) A (letOwnedTupleGo target it v) (fun _ s1' => wpAny (model prog w) A (assign target env v) (fun _ s2 =>
          wpAny (model prog w) A (testsOf ifs env) (fun ok s3 =>
            if ok = true then wpAny (model prog w) A (eval elt env) (fun x s4 => wpAny (model prog w) A (call (.builtin "list.append") [acc, x]) (fun _ s5 => ∃ m, m < n ∧ I m s5) (fun _ _ => False) s4) (fun _ _ => False) s3
            else ∃ m, m < n ∧ I m s3) (fun _ _ => False) s2) (fun _ _ => False) s1') (fun _ _ => False) s1) (fun _ _ => False) s)
    (n : Nat) (h : I n s) : codeAny (model prog w) A (.compLoop (.ListComp elt [⟨target, iter, ifs, 0⟩] scope pos) 0 it acc env) R s := by
  refine codeAny_loop rfl I (fun n s hI => ?_) n h
  (show wpAny _ A ((compTurn (.ListComp elt [⟨target, iter, ifs, 0⟩] scope pos) 0 it acc env).onRaise (fun x => do (noteFrame x env); theTreesLotGoes x)) _ _ s)
  refine wpAny_noted ?_
  rw [compTurn_list]
  refine wpAny_bind (wpAny_standAt (wpAny_bind (wpAny_mono (turn n s hI) (fun r s1 h1 => ?_) fun _ _ z => z.elim)))
  cases r with
  | none => exact wpAny_pure h1
  | some v =>
    refine wpAny_bind (wpAny_mono h1 (fun _ s1' h1' => ?_) fun _ _ z => z.elim)
    refine wpAny_bind (wpAny_mono h1' (fun _ s2 h2 => wpAny_bind (wpAny_mono h2 (fun ok s3 h3 => ?_) fun _ _ z => z.elim)) fun _ _ z => z.elim)
    cases ok with
    | false => exact wpAny_pure ⟨rfl, h3⟩
    | true => exact wpAny_bind (wpAny_bind (wpAny_mono h3 (fun x s4 h4 => wpAny_bind (wpAny_mono h4 (fun _ s5 h5 => wpAny_pure (wpAny_pure ⟨rfl, h5⟩)) fun _ _ z => z.elim)) fun _ _ z => z.elim))

/-- the tests of a clause -/
def PTs (X : Cx) (ifs : List Expr) (t : TT) : Prop :=
  ∀ (pins : List (Addr × Obj)) (s : Shared) (σ : St) (H : Hp) (Q : Bool → Hp → Prop), Inv X pins σ H s → t σ H Q → wpAny (model X.prog X.w) X.A (testsOf ifs X.env) (TP X pins σ Q) X.xe s
def tYes : TT := fun _ H Q => Q true H
theorem pts_nil {X : Cx} : PTs X [] tYes := fun pins s σ H Q I h => wpAny_pure ⟨H, I, h⟩
theorem pts_one {X : Cx} {c : Expr} {t : TT} (h : PT X c t) : PTs X [c] t := fun pins s σ H Q I q => wpAny_tests_one (h pins s σ H Q I q)

/-- what a comprehension wants: W the invariant by the turn and a measure over the block's values and the heap; the list grows at D -/
def tCompW (own : Nat) (ixs : List Nat) (wi : TI) (g : TG) (tt : TT) (te : TE) (σ : St) (H : Hp) (Q : VK) : Prop := wi σ H fun J H1 => ∀ D, H1 D = none → ∃ W : Nat → Nat → St → Hp → Prop, (∃ m, W 0 m (stB own ixs σ) (upd H1 D (.lst []))) ∧ ∀ i m σ' H', W i m σ' H' →
  (J.stop i H' ∧ (∃ acc, H' D = some (.lst acc)) ∧ Q (.ref D) H') ∨
  (J.go i H' ∧ ∃ N : St → Hp → Prop, (∀ σ2 H2, N σ2 H2 → ∃ m', m' < m ∧ W (i + 1) m' σ2 H2) ∧ ∀ x H2, J.yld i H' x H2 → g x σ' H2 fun σ3 H3 => tt σ3 H3 fun b H4 =>
    if b = true then te σ3 H4 fun v H5 => ∃ acc, H5 D = some (.lst acc) ∧ acc.length < sizeLine ∧ N σ3 (upd H5 D (.lst (acc ++ [v]))) else N σ3 H4)

section
variable {X : Cx} {NB : List Str} {own : Nat} {ixs : List Nat} {scope : Scope} {elt tg iter : Expr} {ifs : List Expr} {pos : Pos} {wi : TI} {g : TG} {tt : TT} {te : TE}

/-- the block runs, from the iterator on -/
theorem comp_core (hc : X.calm = true) (S : CompScope X NB own ixs scope)
    (hg : ∀ C ex s3 H3 pn, PG (blk X NB scope C ex s3 H3 pn) tg g) (ht : ∀ C ex s3 H3 pn, PTs (blk X NB scope C ex s3 H3 pn) ifs tt) (he : ∀ C ex s3 H3 pn, PE (blk X NB scope C ex s3 H3 pn) elt te)
    {pins : List (Addr × Obj)} {σ : St} {H1 : Hp} {s2 : Shared} {it : Addr} {fp : List Addr} {tn : Nat → Heap → Prop} {J : It} {Q : VK} (I2 : Inv X pins σ H1 s2) (T : Turn X.prog X.w X.K tg J fp it tn) (st2 : tn 0 s2.heap) (f2 : ∀ b ∈ fp, FpOk X pins H1 b)
    (hQ : ∀ D, H1 D = none → ∃ W : Nat → Nat → St → Hp → Prop, (∃ m, W 0 m (stB own ixs σ) (upd H1 D (.lst []))) ∧ ∀ i m σ' H', W i m σ' H' →
      (J.stop i H' ∧ (∃ acc, H' D = some (.lst acc)) ∧ Q (.ref D) H') ∨
      (J.go i H' ∧ ∃ N : St → Hp → Prop, (∀ σ2 H2, N σ2 H2 → ∃ m', m' < m ∧ W (i + 1) m' σ2 H2) ∧ ∀ x H2, J.yld i H' x H2 → g x σ' H2 fun σ3 H3 => tt σ3 H3 fun b H4 =>
        if b = true then te σ3 H4 fun v H5 => ∃ acc, H5 D = some (.lst acc) ∧ acc.length < sizeLine ∧ N σ3 (upd H5 D (.lst (acc ++ [v]))) else N σ3 H4))
    {E : Value → Shared → Prop} {RR : Value → Addr → Result → Shared → Prop}
    (fin : ∀ D C H' s' m, Inv X pins σ H' s' → Q (.ref D) H' → s'.heap.Ns C m → H' C = none → C ≠ X.env.locals → (∀ x c, X.env.cells.lookup x = some c → c ≠ C) → X.s₀.heap.objs.size ≤ C → (∀ p ∈ X.pn ++ pins, p.1 ≠ C) → RR (.ref D) C (.ok .next) s') :
    wpAny (model X.prog X.w) X.A (newList []) (fun acc s3 => wpAny (model X.prog X.w) X.A (newFunctionEnv scope X.env.globals (clOf X.env.cells scope.names []) [] X.env.qual none .none (some X.env)) (fun cenv s4 =>
      codeAny (model X.prog X.w) X.A (.compStart (.ListComp elt [⟨tg, iter, ifs, 0⟩] scope pos) 0 (.ref it) acc { cenv with scope := relabel scope X.env }) (RR acc cenv.locals) s4) E s3) E s2 := by
  refine wpAny_newList ?_ (Nat.zero_le _)
  have hD : H1 s2.heap.objs.size = none := I2.hok.fresh (Nat.le_refl _)
  obtain ⟨W, ⟨m0, w0⟩, turn⟩ := hQ s2.heap.objs.size hD
  generalize hs3 : ({ s2 with heap := s2.heap.push (seqObj "list" ([] : List Value).toArray 0) } : Shared) = s3
  have I3 : Inv X pins σ (upd H1 s2.heap.objs.size (.lst [])) s3 := by
    rw [← hs3]
    exact I2.lnew (ys := []) (its := []) (t' := s2.toks) .nil (Nat.zero_le _)
  have k3 : ∀ b o, s2.heap.get? b = some o → s3.heap.get? b = some o := fun b o e => by rw [← hs3]; exact Heap.get?_push_of_some _ e
  have sz3 : s3.heap.objs.size = s2.heap.objs.size + 1 := by rw [← hs3]; exact Heap.size_push ..
  have ob2 : ∀ b ∈ fp, ∃ o, s2.heap.get? b = some o := fun b hb => let ⟨o, e, _⟩ := T.obj 0 _ st2 b hb; ⟨o, e⟩
  have neD : ∀ b ∈ fp, b ≠ s2.heap.objs.size := fun b hb => let ⟨o, e⟩ := ob2 b hb; Nat.ne_of_lt (Heap.lt_size e)
  have f3 : ∀ b ∈ fp, FpOk X pins (upd H1 s2.heap.objs.size (.lst [])) b := fun b hb => by
    obtain ⟨a1, a2⟩ := f2 b hb
    exact ⟨by rw [upd_ne (neD b hb)]; exact a1, a2⟩
  have st3 : tn 0 s3.heap := T.keep _ _ _ st2 fun b _ o e => k3 b o e
  refine wpAny_newFunctionEnv S.nocell (fun y hy => by simp at hy) (fun h4 hn4 sb4 => ?_) S.kind
  have k4 : ∀ b o, s3.heap.get? b = some o → h4.get? b = some o := fun b o e => sb4.extBut b o (Nat.ne_of_lt (Heap.lt_size e)) (Heap.get?_push_of_some _ e)
  have I4 : Inv (blk X NB scope s3.heap.objs.size fp s3 (upd H1 s2.heap.objs.size (.lst [])) (X.pn ++ pins)) [] (stB own ixs σ) (upd H1 s2.heap.objs.size (.lst [])) { s3 with heap := h4, toks := s3.toks + ([] : List (Str × Value)).length } :=
    blk_start S I3 f3 (fun b hb => let ⟨o, e⟩ := ob2 b hb; ⟨o, k3 _ _ e⟩) (by simpa using hn4) k4
  have st4 : tn 0 h4 := T.keep _ _ _ st3 fun b _ o e => k4 b o e
  generalize hB : blk X NB scope s3.heap.objs.size fp s3 (upd H1 s2.heap.objs.size (.lst [])) (X.pn ++ pins) = B at I4
  have hgB : PG B tg g := by rw [← hB]; exact hg _ _ _ _ _
  have htB : PTs B ifs tt := by rw [← hB]; exact ht _ _ _ _ _
  have heB : PE B elt te := by rw [← hB]; exact he _ _ _ _ _
  have eP : B.prog = X.prog := by rw [← hB]; rfl
  have eW : B.w = X.w := by rw [← hB]; rfl
  have eK : B.K = X.K := by rw [← hB]; rfl
  have eA : B.A = X.A := by rw [← hB]; rfl
  have eC : B.calm = true := by rw [← hB]; exact hc
  have eX : B.xe = fun _ _ => False := by rw [← hB]; rfl
  have eE : B.env = compEnvC scope (clOf X.env.cells scope.names []) s3.heap.objs.size X.env := by rw [← hB]; rfl
  have ex : B.ex = fp := by rw [← hB]; rfl
  have eL : B.env.locals = s3.heap.objs.size := by rw [eE]; rfl
  -- the iterator's objects in the block
  have stat : ∀ {H' : Hp}, (∀ b ∈ fp, H' b = none) → ∀ b ∈ fp, FpOk B [] H' b := fun {H'} hn b hb => by
    obtain ⟨a1, a2, a3, a4, a5, a6⟩ := f3 b hb
    obtain ⟨o, eo⟩ := ob2 b hb
    refine ⟨hn b hb, ?_, fun z => ?_, .inl (by rw [ex]; exact hb), fun x c e z => ?_, fun p hp z => ?_⟩
    · rw [eL]; exact Nat.ne_of_lt (Heap.lt_size (k3 _ _ eo))
    · have hz : b ∈ frs X.stack := by rw [← hB] at z; exact z
      rcases List.mem_cons.mp (I3.stkSub b hz) with q | q
      · exact a2 q
      · exact a3 q
    · rw [eE] at e
      rcases clOf_back e with ⟨m1, m2⟩ | m1
      · obtain ⟨c', e'⟩ := I3.ok.has x (S.frees _ m1 rfl)
        rw [e'] at m2
        exact a5 x c' e' (by rw [← z, m2]; rfl)
      · simp at m1
    · have hp' : p ∈ X.pn ++ pins := by
        rw [← hB] at hp
        rcases List.mem_append.mp hp with q | q
        · exact q
        · cases q
      exact a6 p hp' z
  have back : ∀ {σ' : St} {H' : Hp} {s' : Shared}, Inv B [] σ' H' s' → Inv X pins σ H' s' := fun {σ' H' s'} J' => by
    have u := J'.base
    have os := J'.os
    have bare := J'.bare
    have hok := J'.hok
    subst hB
    exact I3.call' (ch := fp) os u hok bare fun b hb => by
      obtain ⟨a1, a2, a3, a4, a5, a6⟩ := f3 b hb
      exact ⟨a4, a2, a5, a6⟩
  have loop : ∀ s5 : Shared, s5 = { s3 with heap := h4, toks := s3.toks + ([] : List (Str × Value)).length } →
      codeAny (model X.prog X.w) X.A (.compLoop (.ListComp elt [⟨tg, iter, ifs, 0⟩] scope pos) 0 (.ref it) (.ref s2.heap.objs.size) (compEnvC scope (clOf X.env.cells scope.names []) s3.heap.objs.size X.env)) (RR (.ref s2.heap.objs.size) s3.heap.objs.size) s5 := by
    rintro s5 rfl
    refine comp_loop (fun n s' => ∃ i σ' H', Inv B [] σ' H' s' ∧ tn i s'.heap ∧ (∀ b ∈ fp, H' b = none) ∧ W i n σ' H') ?_ m0 ⟨0, _, _, I4, st4, fun b hb => (f3 b hb).1, w0⟩
    rintro n s6 ⟨i, σ6, H6, I6, st6, fr6, w6⟩
    rcases turn i n σ6 H6 w6 with ⟨stop, ⟨acc, hacc⟩, qn⟩ | ⟨go, N, hN, step⟩
    · have := T.done B eP eW eK eC i [] s6 σ6 H6 (fun _ _ => False) I6 (stat fr6) st6 stop
      rw [eA] at this
      refine thn this fun r s7 ⟨hr, I7⟩ => ?_
      subst hr
      obtain ⟨m7, hn7, _⟩ := I7.loc
      rw [eL] at hn7
      have J7 := back I7
      refine fin _ _ H6 s7 m7 J7 qn hn7 (by rw [← eL]; exact I7.free) (fun z => ?_) (fun x c e z => ?_) ?_ fun p hp z => ?_
      · have := I3.lt
        rw [← z] at this
        exact Nat.lt_irrefl _ this
      · obtain ⟨v, o, ho, _⟩ := I3.cell x c e
        exact absurd (Heap.lt_size ho) (by rw [z]; exact Nat.lt_irrefl _)
      · exact I3.sz
      · have := Heap.lt_size (I3.pin p hp).1
        rw [z] at this
        exact Nat.lt_irrefl _ this
    · have hitem := T.item B eP eW eK eC i [] s6 σ6 H6 (fun _ _ => False) I6 (stat fr6) st6 go
      rw [eA] at hitem
      refine thn hitem fun r s7 ⟨u, hr, h7⟩ => ?_
      subst hr
      refine thn h7 fun _ s8 ⟨x, H8, I8, r8, y8, st8, fr8⟩ => ?_
      have I8' := I8.pinned (stat fr8) (T.obj _ _ st8)
      have ha := hgB _ s8 σ6 H8 x u _ I8' r8 (step x H8 y8)
      rw [eP, eW, eA, eE, eX] at ha
      refine thn ha fun _ s9 ⟨σ9, H9, I9, q9⟩ => ?_
      have hb := htB _ s9 σ9 H9 _ I9 q9
      rw [eP, eW, eA, eE, eX] at hb
      refine thn hb fun ok s10 ⟨H10, I10, q10⟩ => ?_
      have again : ∀ {σ7 : St} {H7 : Hp} {s7 : Shared}, Inv B ([] ++ pinsAt fp s8.heap) σ7 H7 s7 → N σ7 H7 → ∃ m, m < n ∧ ∃ i σ' H', Inv B [] σ' H' s7 ∧ tn i s7.heap ∧ (∀ b ∈ fp, H' b = none) ∧ W i m σ' H' := fun {σ7 H7 s7} I7 n7 => by
        obtain ⟨m', hm, w7⟩ := hN σ7 H7 n7
        refine ⟨m', hm, i + 1, σ7, H7, I7.unpinned, T.keep _ _ _ st8 fun b hb o e => (I7.pin (b, o) (List.mem_append_right _ (List.mem_append_right _ (mem_pinsAt hb e)))).1, fun b hb => ?_, w7⟩
        obtain ⟨o, e, d⟩ := T.obj _ _ st8 b hb
        exact (I7.pin (b, o) (List.mem_append_right _ (List.mem_append_right _ (mem_pinsAt hb e)))).2.1
      cases ok with
      | false =>
        simp only [Bool.false_eq_true, if_false] at q10 ⊢
        exact again I10 q10
      | true =>
        simp only [if_true] at q10 ⊢
        have hv := heB _ s10 σ9 H10 _ I10 q10
        rw [eP, eW, eA, eE, eX] at hv
        refine thn hv fun y s11 ⟨v, H11, I11, r11, acc, hacc, hz, q11⟩ => ?_
        have hap := mt_append (X := B) _ s11 σ9 H11 (.ref s2.heap.objs.size) [v] (.ref s2.heap.objs.size) [y] (fun z H' => z = .non ∧ N σ9 H') I11 rfl (.cons r11 .nil) ⟨_, acc, v, rfl, rfl, hacc, hz, rfl, q11⟩
        rw [eP, eW, eA, eX] at hap
        exact thn hap fun _ s12 ⟨_, H12, I12, _, _, q12⟩ => again I12 q12
  exact codeAny_compStart_list (loop _ rfl) (T.self X.A 0 _ _ _ st4 (loop _ rfl))

/-- [elt for tg in iter if ..] -/
theorem pe_lcomp (hc : X.calm = true) (S : CompScope X NB own ixs scope) (hi : PI X tg iter wi)
    (hg : ∀ C ex s3 H3 pn, PG (blk X NB scope C ex s3 H3 pn) tg g) (ht : ∀ C ex s3 H3 pn, PTs (blk X NB scope C ex s3 H3 pn) ifs tt) (he : ∀ C ex s3 H3 pn, PE (blk X NB scope C ex s3 H3 pn) elt te)
    (hs : ∀ x, foldedSetIterable iter X.env x = pure x := by intro _; rfl) :
    PE X (.ListComp elt [⟨tg, iter, ifs, 0⟩] scope pos) (tCompW own ixs wi g tt te) := by
  intro pins s σ H Q I h
  rw [eval_ListComp]
  refine wpAny_comprehension_free (use := none) rfl hs (closure_eq fun y hy e => I.ok.has _ (S.frees y hy e)) S.kind (fun y hy e => by rw [S.names y hy, e]) ?_
  refine thn (hi pins s σ H _ I h) fun v s1 h1 => thn h1 fun itv s2 h2 => ?_
  obtain ⟨it, fp, tn, J, H2, e, I2, T, st2, f2, q2⟩ := h2
  subst e
  refine comp_core hc S hg ht he I2 T st2 f2 q2 (RR := fun acc C => compPost (model X.prog X.w) X.A X.xe none (EP X pins σ Q) acc C) fun D C H' s' m J' q hn hC n1 n2 n3 n4 => ?_
  refine ⟨m, hn, fun h'' sb => ⟨.ref D, H', ?_, rfl, q⟩⟩
  exact J'.turned (t' := s'.toks) (it := C) (fun b o hb e => sb.extBut b o hb e) hC n1 (.inr n3) n2 n4
/-- x = [elt for tg in iter if ..], x a plain local -/
theorem ps_lcomp {i : Nat} {y : Str} {py spos : Pos} (hc : X.calm = true) (S : CompScope X NB own ixs scope) (hi : PI X tg iter wi)
    (hg : ∀ C ex s3 H3 pn, PG (blk X NB scope C ex s3 H3 pn) tg g) (ht : ∀ C ex s3 H3 pn, PTs (blk X NB scope C ex s3 H3 pn) ifs tt) (he : ∀ C ex s3 H3 pn, PE (blk X NB scope C ex s3 H3 pn) elt te)
    (hN : X.N.Nodup) (hy : X.N[i]? = some y) (hl : X.env.scope.names.lookup y = some .local)
    (hsw : swapsWith (.ListComp elt [⟨tg, iter, ifs, 0⟩] scope pos) (some (.Name y py)) spos.line X.env = pure true)
    (hs : ∀ x, foldedSetIterable iter X.env x = pure x := by intro _; rfl) :
    PS X (.Assign [.Name y py] (.ListComp elt [⟨tg, iter, ifs, 0⟩] scope pos) spos) (fun D σ H => tCompW own ixs wi g tt te σ H fun v H' => D.nx (σ.set i (some v)) H') := by
  intro pins s σ H D I h
  rw [exec_Assign_Name_used _ _ _ _ hsw]
  refine wpAny_bind (wpAny_standAt (wpAny_bind ?_))
  show wpAny _ X.A (comprehension (.ListComp elt [⟨tg, iter, ifs, 0⟩] scope pos) scope X.env _ (newList []) false (eval iter X.env) (some (assign (.Name y py) X.env)) >>= fun _ => pure ()) _ _ s
  refine wpAny_bind (wpAny_mono (wpAny_comprehension_free (use := some (assign (.Name y py) X.env)) (Q := fun _ s' => SP X pins D .next s') rfl hs (closure_eq fun y hy e => I.ok.has _ (S.frees y hy e)) S.kind (fun y hy e => by rw [S.names y hy, e]) ?_)
    (fun _ s' hq => wpAny_pure (wpAny_pure hq)) fun _ _ e => e)
  refine thn (hi pins s σ H _ I h) fun v s1 h1 => thn h1 fun itv s2 h2 => ?_
  obtain ⟨it, fp, tn, J, H2, e, I2, T, st2, f2, q2⟩ := h2
  subst e
  refine comp_core hc S hg ht he I2 T st2 f2 q2 (Q := fun v H' => D.nx (σ.set i (some v)) H') (RR := fun acc C => compPost (model X.prog X.w) X.A X.xe (some (assign (.Name y py) X.env)) (fun _ s' => SP X pins D .next s') acc C) fun D' C H' s' m J' q hn hC n1 n2 n3 n4 => ?_
  show wpAny _ X.A (assign (.Name y py) X.env (.ref D')) _ _ s'
  refine wpAny_assign_Name (store_ok2 J' hN hy (.inl hl) (v := .ref D') rfl (fun s'' I'' ⟨a, sb, ha⟩ => ?_) (.inr hl))
  have hCa : C ≠ a := by
    rcases ha with z | z
    · rw [z]; exact n1
    · exact (n2 _ _ z).symm
  refine ⟨m, hn.sameBut sb hCa, fun h3 sb3 => ⟨_, H', ?_, q⟩⟩
  exact I''.turned (t' := s''.toks) (it := C) (fun b o hb e => sb3.extBut b o hb e) hC n1 (.inr n3) n2 n4
end

/-! ### the forms one uses: over a list, a tuple, a range; the list at D holds what Pv says -/
section
variable {own : Nat} {ixs : List Nat} {g : TG} {tt : TT} {te : TE} {σ : St} {H : Hp} {Q : VK} {K : PySem.W.Frag} {D a : Addr} {xs : List V}
abbrev CompTurn (g : TG) (tt : TT) (te : TE) (D : Addr) (x : V) (σ : St) (H : Hp) (N : St → Hp → Prop) : Prop := g x σ H fun σ3 H3 => tt σ3 H3 fun b H4 =>
    if b = true then te σ3 H4 fun v H5 => ∃ acc, H5 D = some (.lst acc) ∧ acc.length < sizeLine ∧ N σ3 (upd H5 D (.lst (acc ++ [v]))) else N σ3 H4
theorem comp_tup (Pv : Nat → St → Hp → Prop) (h0 : Pv 0 (stB own ixs σ) (upd H D (.lst []))) (hl : ∀ i σ H, i ≤ xs.length → Pv i σ H → SqT K H a xs)
    (hs : ∀ i x σ H, xs[i]? = some x → Pv i σ H → CompTurn g tt te D x σ H (Pv (i + 1))) (hd : ∀ σ H, Pv xs.length σ H → (∃ acc, H D = some (.lst acc)) ∧ Q (.ref D) H) :
    ∃ W : Nat → Nat → St → Hp → Prop, (∃ m, W 0 m (stB own ixs σ) (upd H D (.lst []))) ∧ ∀ i m σ' H', W i m σ' H' →
      ((Itt K a).stop i H' ∧ (∃ acc, H' D = some (.lst acc)) ∧ Q (.ref D) H') ∨
      ((Itt K a).go i H' ∧ ∃ N : St → Hp → Prop, (∀ σ2 H2, N σ2 H2 → ∃ m', m' < m ∧ W (i + 1) m' σ2 H2) ∧ ∀ x H2, (Itt K a).yld i H' x H2 → CompTurn g tt te D x σ' H2 N) := by
  refine ⟨fun i m σ H => m = xs.length - i ∧ i ≤ xs.length ∧ Pv i σ H, ⟨xs.length, by simp, Nat.zero_le _, h0⟩, ?_⟩
  rintro i m σ H ⟨rfl, hi, p⟩
  have q := hl i σ H hi p
  by_cases hlt : i < xs.length
  · refine .inr ⟨⟨xs, xs[i], q, by simp [hlt]⟩, Pv (i + 1), fun σ' H' p' => ⟨xs.length - (i + 1), by omega, rfl, hlt, p'⟩, fun x H' y => ?_⟩
    obtain ⟨e, y⟩ := y
    subst e
    exact hs i x σ _ (y xs q) p
  · have e : i = xs.length := by omega
    subst e
    exact .inl ⟨⟨xs, q, Nat.le_refl _⟩, hd σ H p⟩
theorem comp_list (Pv : Nat → St → Hp → Prop) (h0 : Pv 0 (stB own ixs σ) (upd H D (.lst []))) (hl : ∀ i σ H, i ≤ xs.length → Pv i σ H → SqL K H a xs)
    (hs : ∀ i x σ H, xs[i]? = some x → Pv i σ H → CompTurn g tt te D x σ H (Pv (i + 1))) (hd : ∀ σ H, Pv xs.length σ H → (∃ acc, H D = some (.lst acc)) ∧ Q (.ref D) H) :
    ∃ W : Nat → Nat → St → Hp → Prop, (∃ m, W 0 m (stB own ixs σ) (upd H D (.lst []))) ∧ ∀ i m σ' H', W i m σ' H' →
      ((Itl K a).stop i H' ∧ (∃ acc, H' D = some (.lst acc)) ∧ Q (.ref D) H') ∨
      ((Itl K a).go i H' ∧ ∃ N : St → Hp → Prop, (∀ σ2 H2, N σ2 H2 → ∃ m', m' < m ∧ W (i + 1) m' σ2 H2) ∧ ∀ x H2, (Itl K a).yld i H' x H2 → CompTurn g tt te D x σ' H2 N) := by
  refine ⟨fun i m σ H => m = xs.length - i ∧ i ≤ xs.length ∧ Pv i σ H, ⟨xs.length, by simp, Nat.zero_le _, h0⟩, ?_⟩
  rintro i m σ H ⟨rfl, hi, p⟩
  have q := hl i σ H hi p
  by_cases hlt : i < xs.length
  · refine .inr ⟨⟨xs, xs[i], q, by simp [hlt]⟩, Pv (i + 1), fun σ' H' p' => ⟨xs.length - (i + 1), by omega, rfl, hlt, p'⟩, fun x H' y => ?_⟩
    obtain ⟨e, y⟩ := y
    subst e
    exact hs i x σ _ (y xs q) p
  · have e : i = xs.length := by omega
    subst e
    exact .inl ⟨⟨xs, q, Nat.le_refl _⟩, hd σ H p⟩
theorem comp_range {lo : Int} {n : Nat} (Pv : Nat → St → Hp → Prop) (h0 : Pv 0 (stB own ixs σ) (upd H D (.lst [])))
    (hs : ∀ i σ H, i < n → Pv i σ H → CompTurn g tt te D (.int (lo + i)) σ H (Pv (i + 1))) (hd : ∀ σ H, Pv n σ H → (∃ acc, H D = some (.lst acc)) ∧ Q (.ref D) H) :
    ∃ W : Nat → Nat → St → Hp → Prop, (∃ m, W 0 m (stB own ixs σ) (upd H D (.lst []))) ∧ ∀ i m σ' H', W i m σ' H' →
      ((Itr lo n).stop i H' ∧ (∃ acc, H' D = some (.lst acc)) ∧ Q (.ref D) H') ∨
      ((Itr lo n).go i H' ∧ ∃ N : St → Hp → Prop, (∀ σ2 H2, N σ2 H2 → ∃ m', m' < m ∧ W (i + 1) m' σ2 H2) ∧ ∀ x H2, (Itr lo n).yld i H' x H2 → CompTurn g tt te D x σ' H2 N) := by
  refine ⟨fun i m σ H => m = n - i ∧ i ≤ n ∧ Pv i σ H, ⟨n, by simp, Nat.zero_le _, h0⟩, ?_⟩
  rintro i m σ H ⟨rfl, hi, p⟩
  by_cases hlt : i < n
  · refine .inr ⟨hlt, Pv (i + 1), fun σ' H' p' => ⟨n - (i + 1), by omega, rfl, hlt, p'⟩, fun x H' y => ?_⟩
    obtain ⟨e, y⟩ := y
    subst e y
    exact hs i σ _ hlt p
  · have e : i = n := by omega
    subst e
    exact .inl ⟨Nat.le_refl _, hd σ H p⟩
end
end L2

end

section
set_option linter.all false
set_option maxRecDepth 100000
set_option maxHeartbeats 1000000
namespace L2
open PySem PySem.Spec PyProof.Rows
/-! ### deep data -/
mutual
/-- the value x stands for the data d -/
inductive Rep (K : PySem.W.Frag) (H : Hp) : V → PyData → Prop
  | non : Rep K H .non .none
  | bl (b : Bool) : Rep K H (.bl b) (.bool b)
  | int (i : Int) : Rep K H (.int i) (.int i)
  | str (x : Str) : Rep K H (.str x) (.str x)
  | tup {a : Addr} {xs : List V} {ds : List PyData} : SqT K H a xs → Reps K H xs ds → Rep K H (.ref a) (.tuple ds)
  | lst {a : Addr} {xs : List V} {ds : List PyData} : SqL K H a xs → Reps K H xs ds → Rep K H (.ref a) (.list ds)
inductive Reps (K : PySem.W.Frag) (H : Hp) : List V → List PyData → Prop
  | nil : Reps K H [] []
  | cons {x : V} {xs : List V} {d : PyData} {ds : List PyData} : Rep K H x d → Reps K H xs ds → Reps K H (x :: xs) (d :: ds)
end
section
variable {X : Cx} {pins : List (Addr × Obj)} {σ : St} {H H' : Hp} {s : Shared}
mutual
theorem Rep.reads (I : Inv X pins σ H s) : ∀ {x : V} {d : PyData} {u : Value}, Rep X.K H x d → RelV x u → ∃ as, Reads s.heap u d as
  | _, _, _, .non, r => by cases r; exact ⟨_, .none⟩
  | _, _, _, .bl b, r => by cases r; exact ⟨_, .bool b⟩
  | _, _, _, .int i, r => by obtain ⟨t, rfl⟩ := r; exact ⟨_, .int i t⟩
  | _, _, _, .str x, r => by obtain ⟨t, rfl⟩ := r; exact ⟨_, .str x t⟩
  | _, _, _, .tup h hs, r => by
    cases r
    obtain ⟨its, rv, ⟨o, ho, hc, n, hd⟩, _⟩ := I.tuple h
    obtain ⟨as, q⟩ := Reps.reads I hs rv
    exact ⟨_, .tuple ho hc hd (by simpa using q)⟩
  | _, _, _, .lst h hs, r => by
    cases r
    obtain ⟨its, rv, pl, _⟩ := I.list h
    obtain ⟨o, ho, hc, n, hd⟩ := pl.isList
    obtain ⟨as, q⟩ := Reps.reads I hs rv
    exact ⟨_, .list ho hc hd (by simpa using q)⟩
theorem Reps.reads (I : Inv X pins σ H s) : ∀ {xs : List V} {ds : List PyData} {us : List Value}, Reps X.K H xs ds → Vals xs us → ∃ as, ReadsAll s.heap us ds as
  | _, _, _, .nil, r => by cases r; exact ⟨_, .nil⟩
  | _, _, _, .cons h hs, r => by
    cases r with
    | cons r1 r2 =>
      obtain ⟨as, q⟩ := Rep.reads I h r1
      obtain ⟨bs, q'⟩ := Reps.reads I hs r2
      exact ⟨_, .cons q q'⟩
end
/-- == and != of data -/
def rEqD (K : PySem.W.Frag) (neg : Bool) : R2 := fun x y H Q => ∃ d e, Rep K H x d ∧ Rep K H y e ∧ SeqAt.shaped d = true ∧ SeqAt.shaped e = true ∧ Q (.bl (if neg then !PyData.eqv d e else PyData.eqv d e)) H
theorem op_eqD (hu : X.A.units + 64 < cLine) : OpR X (compareOp .Eq) (rEqD X.K false) := by
  intro pins s σ H x y v u Q I rx ry h
  obtain ⟨d, e, h1, h2, s1, s2, q⟩ := h
  obtain ⟨as, r1⟩ := h1.reads I rx
  obtain ⟨bs, r2⟩ := h2.reads I ry
  exact SeqAt.compareEq_shaped r1 r2 s1 s2 hu ⟨.bl _, H, I, rfl, q⟩
theorem op_neD (hu : X.A.units + 64 < cLine) : OpR X (compareOp .NotEq) (rEqD X.K true) := by
  intro pins s σ H x y v u Q I rx ry h
  obtain ⟨d, e, h1, h2, s1, s2, q⟩ := h
  obtain ⟨as, r1⟩ := h1.reads I rx
  obtain ⟨bs, r2⟩ := h2.reads I ry
  exact SeqAt.compareNe_shaped r1 r2 s1 s2 hu ⟨.bl _, H, I, rfl, q⟩
/-- x in xs, of data -/
def rInD (K : PySem.W.Frag) (neg : Bool) : R2 := fun x y H Q => ∃ p xs d ds, y = .ref p ∧ (SqL K H p xs ∨ SqT K H p xs) ∧ Reps K H xs ds ∧ Rep K H x d ∧ SeqAt.shaped d = true ∧ (∀ e, e ∈ ds → SeqAt.shaped e = true) ∧
  Q (.bl (if neg then !(ds.any fun e => PyData.eqv e d) else ds.any fun e => PyData.eqv e d)) H
theorem Reps.at' {K : PySem.W.Frag} : ∀ {xs : List V} {ds : List PyData} {i : Nat} {x : V}, Reps K H xs ds → xs[i]? = some x → ∃ d, ds[i]? = some d ∧ Rep K H x d
  | _, _, _, _, .nil, e => by simp at e
  | _, _, 0, _, .cons r _, e => by simp at e; subst e; exact ⟨_, rfl, r⟩
  | _, _, i + 1, x, .cons _ t, e => by
    obtain ⟨u, h1, h2⟩ := Reps.at' (i := i) (x := x) t (by simpa using e)
    exact ⟨u, by simpa using h1, h2⟩
theorem Reps.len {K : PySem.W.Frag} : ∀ {xs : List V} {ds : List PyData}, Reps K H xs ds → xs.length = ds.length
  | _, _, .nil => rfl
  | _, _, .cons _ t => by simp [Reps.len t]
open Classical in
theorem any_data (I : Inv X pins σ H s) (d : PyData) : ∀ {xs : List V} {us : List Value} {ds : List PyData}, Vals xs us → Reps X.K H xs ds → (∀ e, e ∈ ds → SeqAt.shaped e = true) → ∃ f : Value → Bool, us.any f = (ds.any fun e => PyData.eqv e d) ∧ ∀ u, u ∈ us → ∃ e as, e ∈ ds ∧ Reads s.heap u e as ∧ f u = PyData.eqv e d := by
  intro xs us ds hv hr hs
  -- the data that a value reads is one alone
  let f : Value → Bool := fun u => if h : ∃ e as, SeqAt.shaped e = true ∧ Reads s.heap u e as then PyData.eqv (Classical.choose h) d else false
  have hf : ∀ {u : Value} {e : PyData} {as : List Addr}, SeqAt.shaped e = true → Reads s.heap u e as → f u = PyData.eqv e d := fun {u e as} h1 h2 => by
    have hx : ∃ e as, SeqAt.shaped e = true ∧ Reads s.heap u e as := ⟨e, as, h1, h2⟩
    show (if h : ∃ e as, SeqAt.shaped e = true ∧ Reads s.heap u e as then PyData.eqv (Classical.choose h) d else false) = _
    rw [dif_pos hx]
    obtain ⟨bs, q1, q2⟩ := Classical.choose_spec hx
    rw [SeqAt.Reads.unique _ _ _ _ _ (SeqAt.canLay_of_shaped q1) q2 h2]
  refine ⟨f, ?_, ?_⟩
  · induction hv generalizing ds with
    | nil => cases hr; rfl
    | @cons x u xs us r1 r2 ih =>
      cases hr with
      | @cons _ _ e es h1 h2 =>
        obtain ⟨as, q⟩ := h1.reads I r1
        rw [List.any_cons, List.any_cons, hf (hs e (List.mem_cons_self ..)) q, ih h2 fun z hz => hs z (List.mem_cons_of_mem _ hz)]
  · intro u hu
    obtain ⟨i, hi, e0⟩ := List.mem_iff_getElem.mp hu
    have hi' : i < xs.length := by rw [hv.length]; exact hi
    obtain ⟨u', eu, ru⟩ := hv.get (List.getElem?_eq_getElem hi')
    rw [List.getElem?_eq_getElem hi, e0] at eu
    cases eu
    obtain ⟨e, ee, re⟩ := Reps.at' hr (List.getElem?_eq_getElem hi')
    obtain ⟨as, q⟩ := re.reads I ru
    have hm := List.mem_of_getElem? ee
    exact ⟨e, as, hm, q, hf (hs e hm) q⟩
theorem op_inD (hu : X.A.units + 100 < cLine) : OpR X (compareOp .In) (rInD X.K false) := by
  intro pins s σ H x y v u Q I rx ry h
  obtain ⟨p, xs, d, ds, rfl, hq, hs, hx, s1, s2, q⟩ := h
  cases ry
  obtain ⟨bs, r2⟩ := hx.reads I rx
  have key : ∀ {e : PyData} {as : List Addr} {u : Value}, SeqAt.shaped e = true → Reads s.heap u e as → SeqAt.EqAt X.A.in1 s u v (PyData.eqv e d) := fun {e as u} h1 h2 => by
    refine SeqAt.eqAt_reads _ _ _ _ _ _ _ _ h2 r2 (SeqAt.canLay_of_shaped h1) (SeqAt.canLay_of_shaped s1) ?_
    have := SeqAt.depth_of_shaped h1
    show X.A.units + 1 + _ < _
    omega
  rcases hq with hq | hq
  · obtain ⟨its, r, pl, hz⟩ := I.list hq
    obtain ⟨f, e1, e2⟩ := any_data I d r hs s2
    refine SeqAt.in_listAt f pl.isList (fun w hw => ?_) ⟨.bl _, H, I, rfl, ?_⟩
    · obtain ⟨e, as, hm, rd, ef⟩ := e2 w (by simpa using hw)
      rw [ef]; exact key (s2 e hm) rd
    · rw [show its.toArray.any f = its.any f by simp, e1]; exact q
  · obtain ⟨its, r, pl, hz⟩ := I.tuple hq
    obtain ⟨f, e1, e2⟩ := any_data I d r hs s2
    refine SeqAt.in_tupleAt f pl (fun w hw => ?_) ⟨.bl _, H, I, rfl, ?_⟩
    · obtain ⟨e, as, hm, rd, ef⟩ := e2 w (by simpa using hw)
      rw [ef]; exact key (s2 e hm) rd
    · rw [show its.toArray.any f = its.any f by simp, e1]; exact q
/-- repr(x) of a list or a tuple -/
def rRepr (K : PySem.W.Frag) : List V → Hp → VK → Prop := fun xs H Q => ∃ a d, xs = [.ref a] ∧ Rep K H (.ref a) d ∧ d.showable = true ∧ d.hasDict = false ∧ d.depth ≤ 64 ∧ d.shown.length ≤ sizeLine ∧ Q (.str d.shown) H
theorem call_repr (hg : X.A.guards = some []) (hu : X.A.units + 100 < cLine) : CallR X (.builtin "repr") (rRepr X.K) := by
  intro pins s σ H xs us Q I r h
  obtain ⟨a, d, rfl, hd, h1, h2, h3, h4, q⟩ := h
  obtain ⟨u, rfl, rx⟩ := vals1 r
  have rx' := rx
  cases rx
  obtain ⟨as, rd⟩ := hd.reads I rx'
  exact repr_of_reads' rd h1 (PyData.noDict_hsm h2) hg (by omega) (fun b o e => e) (fun h' u tk k => ⟨.str _, H, I.kept (t' := tk) k, ⟨u, rfl⟩, q⟩) h4

/-! ### isinstance -/
inductive TyD (K : PySem.W.Frag) (H : Hp) : V → String → Prop
  | non : TyD K H .non "NoneType"
  | bl (b : Bool) : TyD K H (.bl b) "bool"
  | int (i : Int) : TyD K H (.int i) "int"
  | str (x : Str) : TyD K H (.str x) "str"
  | tup {a : Addr} {xs : List V} : SqT K H a xs → TyD K H (.ref a) "tuple"
  | lst {a : Addr} {xs : List V} : SqL K H a xs → TyD K H (.ref a) "list"
  | dic {a : Addr} {kvs : List (Key × V)} : H a = some (.dK kvs) → TyD K H (.ref a) "dict"
def rIsi (K : PySem.W.Frag) : List V → Hp → VK → Prop := fun xs H Q => ∃ x T t b, xs = [x, .ty T] ∧ TyD K H x t ∧ PySem.W.kitOne K (.type t) (.type T) = some b ∧ Q (.bl b) H
theorem call_isi : CallR X (.builtin "isinstance") (rIsi X.K) := by
  intro pins s σ H xs us Q I r h
  obtain ⟨x, T, t, b, rfl, ty, e, q⟩ := h
  obtain ⟨u, c, rfl, rx, rc⟩ := vals2 r
  cases rc
  have fin : ∀ tk, EP X pins σ Q (.bool b) { s with toks := tk } := fun tk => ⟨.bl b, H, I.tok tk, rfl, q⟩
  cases ty with
  | non => exact isinst_ok I rx .non e fin
  | bl b => exact isinst_ok I rx (.bl b) e fin
  | int i => exact isinst_ok I rx (.int i) e fin
  | str z => exact isinst_ok I rx (.str z) e fin
  | dic hk => exact isinst_ok I rx (.dK hk) e fin
  | tup hq =>
    cases rx
    obtain ⟨its, rv, ⟨o, h1, h2, _⟩, _⟩ := I.tuple hq
    exact PySem.W.kia_one PySem.W.kitx_tuple I.kIn ⟨o, h1, h2⟩ e (fun z => nomatch z) fin
  | lst hq =>
    cases rx
    obtain ⟨its, rv, pl, _⟩ := I.list hq
    obtain ⟨o, h1, h2, _⟩ := pl.isList
    exact PySem.W.kia_one PySem.W.kitx_list I.kIn ⟨o, h1, h2⟩ e (fun z => nomatch z) fin

/-! ### all, any of a list of bools -/
theorem truth_bools {A : Around} {its : List Value} {bs : List Bool} (hv : Vals (bs.map V.bl) its) : TruthOf X.prog X.w A (fun i v => its[i]? = some v) (fun i => bs.getD i false) := fun i v s Q E hi hq => by
  have hl := hv.length
  have hi2 : i < bs.length := by
    have := (List.getElem?_eq_some_iff.mp hi).1
    rw [← hl] at this; simpa using this
  obtain ⟨u, eu, ru⟩ := hv.get (i := i) (x := .bl bs[i]) (by simp [hi2])
  rw [hi] at eu; cases eu
  cases ru
  refine wpAny_truthy_bool ?_
  have : bs.getD i false = bs[i] := by simp [hi2]
  rw [← this]; exact hq
theorem range_all (bs : List Bool) : (List.range bs.length).all (fun i => bs.getD i false) = bs.all id := by
  induction bs with
  | nil => rfl
  | cons b bs ih =>
    rw [List.length_cons, List.range_succ_eq_map, List.all_cons, List.all_map, List.all_cons, ← ih]
    rfl
theorem range_any (bs : List Bool) : (List.range bs.length).any (fun i => bs.getD i false) = bs.any id := by
  induction bs with
  | nil => rfl
  | cons b bs ih =>
    rw [List.length_cons, List.range_succ_eq_map, List.any_cons, List.any_map, List.any_cons, ← ih]
    rfl
def rBools (K : PySem.W.Frag) (f : List Bool → Bool) : List V → Hp → VK → Prop := fun xs H Q => ∃ a bs, xs = [.ref a] ∧ SqL K H a (bs.map V.bl) ∧ Q (.bl (f bs)) H
theorem bools_core (hc : X.calm = true) {a : Addr} {bs : List Bool} {Q : VK} (I : Inv X pins σ H s) (hq : SqL X.K H a (bs.map V.bl)) {f : List Bool → Bool} {g : (Nat → Bool) → Nat → Bool} (hfg : g (fun i => bs.getD i false) bs.length = f bs) (q : Q (.bl (f bs)) H) :
    wpAny (model X.prog X.w) X.A.in1 (pyIter (.ref a)) (fun it s2 => ∃ Ii fp wr n P St tr, it = .ref Ii ∧ Walks X.prog X.w X.A.in1 Ii fp wr n P St ∧ St 0 s2.heap ∧ TruthOf X.prog X.w X.A.in1 P tr ∧
      ∀ h' tk, (∀ b o, b ∉ wr → s2.heap.get? b = some o → h'.get? b = some o) → EP X pins σ Q (.bool (g tr n)) { s2 with heap := h', toks := tk }) X.xe s := by
  obtain ⟨its, rv, pl, hz⟩ := I.list hq
  have hh : X.A.in1.handled = none := I.ok.hd hc
  have hlen : its.length = bs.length := by rw [← rv.length]; simp
  obtain ⟨o, ho, _⟩ := id pl.isList
  refine wpAny_pyIter_list pl.isList ?_
  have W := Walks.list (prog := X.prog) (w := X.w) hh s.heap.objs.size a (Nat.ne_of_lt (Heap.lt_size ho)) its.toArray
  refine ⟨s.heap.objs.size, _, _, _, _, _, fun i => bs.getD i false, rfl, W, ⟨⟨_, Heap.get?_push_size _ rfl, rfl, rfl⟩, pl.isList.push _⟩, ?_, fun h' tk k => ?_⟩
  · have := truth_bools (X := X) (A := X.A.in1) rv
    simpa using this
  · have e : its.toArray.size = bs.length := by simpa using hlen
    rw [e, hfg]
    have I1 : Inv X pins σ H { s with heap := s.heap.push { cls := .type "list_iterator", data := .fields #[.ref a, .int 0 0] } } := I.kept (t' := s.toks) fun b o e => Heap.get?_push_of_some _ e
    have hf : H s.heap.objs.size = none := I.hok.fresh (Nat.le_refl _)
    have fp := I.fpOk (H' := H) (b := s.heap.objs.size) (Nat.le_refl _) hf
    refine ⟨.bl _, H, I1.turned (it := s.heap.objs.size) (t' := tk) (fun b o hb e => k b o (by simpa using hb) e) hf fp.2.1 fp.2.2.2.1 fp.2.2.2.2.1 fp.2.2.2.2.2, rfl, q⟩
theorem call_all (hc : X.calm = true) : CallR X (.builtin "all") (rBools X.K fun bs => bs.all id) := by
  intro pins s σ H xs us Q I r h
  obtain ⟨a, bs, rfl, hq, q⟩ := h
  obtain ⟨u, rfl, rx⟩ := vals1 r
  cases rx
  exact call_all_walk (bools_core hc I hq (f := fun bs => bs.all id) (g := fun tr n => (List.range n).all tr) (range_all bs) q)
theorem call_any (hc : X.calm = true) : CallR X (.builtin "any") (rBools X.K fun bs => bs.any id) := by
  intro pins s σ H xs us Q I r h
  obtain ⟨a, bs, rfl, hq, q⟩ := h
  obtain ⟨u, rfl, rx⟩ := vals1 r
  cases rx
  exact call_any_walk (bools_core hc I hq (f := fun bs => bs.any id) (g := fun tr n => (List.range n).any tr) (range_any bs) q)

/-! ### range(n) as a thing, list(range(n)) -/
theorem call_rng : CallR X (.type "range") (fun xs H Q => ∃ n : Int, xs = [.int n] ∧ ∀ p, H p = none → Q (.ref p) (upd H p (.rng 0 n))) := by
  intro pins s σ H xs us Q I r h
  obtain ⟨n, rfl, q⟩ := h
  obtain ⟨u, rfl, rx⟩ := vals1 r
  obtain ⟨t, rfl⟩ := rx
  refine call_range_1 ⟨.ref s.heap.objs.size, upd H s.heap.objs.size (.rng 0 n), ?_, rfl, q _ (I.hok.fresh (Nat.le_refl _))⟩
  exact I.laid (fun b o e => Heap.get?_push_of_some _ e) (Nat.le_refl _) ⟨_, _, _, Heap.get?_push_size _ rfl⟩
theorem call_list_rng (hc : X.calm = true) : CallR X (.type "list") (fun xs H Q => ∃ p n, xs = [.ref p] ∧ H p = some (.rng 0 n) ∧ 0 ≤ n ∧ n ≤ 1000 ∧ ∀ l, H l = none → Q (.ref l) (upd H l (.lst ((List.range n.toNat).map fun (i : Nat) => V.int (i : Int))))) := by
  intro pins s σ H xs us Q I r h
  obtain ⟨p, n, rfl, hp, h0, h1, q⟩ := h
  obtain ⟨u, rfl, rx⟩ := vals1 r
  cases rx
  obtain ⟨t, u, v, hr⟩ : ∃ t u v, s.heap.get? p = some { cls := .type "range", data := .fields #[.int 0 t, .int n u, .int 1 v] } := I.hok p _ hp
  have hsz : Builtin.Range.rangeSize 0 n 1 = (n.toNat : Int) := by rw [rangeSize_one]; split <;> omega
  refine call_list_range (I.ok.hd hc) hr (small_one (by omega) (by omega) (by omega) (by omega)) hsz (by omega) fun h' tk acc c k hS hacc => ?_
  have hv : Vals ((List.range n.toNat).map fun (i : Nat) => V.int (i : Int)) acc.toList := by
    have key : ∀ (m : Nat) (us : List Value) (j : Nat), us.length = m → (∀ (i : Nat) (v : Value), us[i]? = some v → ∃ t, v = Value.int ((j + i : Nat) : Int) t) → Vals ((List.range' j m).map fun (i : Nat) => V.int (i : Int)) us := by
      intro m
      induction m with
      | zero => intro us j hl _; cases us with
        | nil => exact .nil
        | cons a b => simp at hl
      | succ m ih =>
        intro us j hl hh
        cases us with
        | nil => simp at hl
        | cons u us =>
          rw [List.range'_succ, List.map_cons]
          refine .cons (by have := hh 0 u rfl; simp at this; exact this) (ih us (j + 1) (by simpa using hl) fun i v hi => ?_)
          obtain ⟨t, e⟩ := hh (i + 1) v (by simpa using hi)
          exact ⟨t, by rw [e]; congr 2; omega⟩
    have := key n.toNat acc.toList 0 (by simpa using hacc.1) fun i v hi => by
      obtain ⟨t, e⟩ := hacc.2 i v (by simpa using hi)
      exact ⟨t, by rw [e]; simp⟩
    rw [List.range_eq_range']; exact this
  refine ⟨.ref s.heap.objs.size, _, I.laid (t' := tk) k (Nat.le_refl _) (show ObjOk X.prog X.w _ h' _ (.lst _) from ⟨by simp; rw [sizeLine_eq]; omega, acc.toList, c, hv, by simpa using hS⟩), rfl, q _ (I.hok.fresh (Nat.le_refl _))⟩
end
end L2

end

section
set_option linter.all false
set_option maxRecDepth 100000
set_option maxHeartbeats 1000000
namespace L2
open PySem PySem.Spec PyProof.Rows PySem.Builtin PySem.Builtin.Str
/-! ### texts: join, split, find, written ints -/
section
variable {X : Cx} {pins : List (Addr × Obj)} {σ : St} {H : Hp} {s : Shared}
theorem strs_of : ∀ {ws : List Str} {us : List Value}, Vals (ws.map V.str) us → StrsAre us ws
  | [], _, r => by cases r; exact .nil
  | w :: ws, _, r => by
    cases r with
    | cons r1 r2 =>
      obtain ⟨t, rfl⟩ := r1
      exact .cons w t (strs_of r2)
theorem vals_strs : ∀ l : List (Str × Tok), Vals ((l.map (·.1)).map V.str) (strValues l)
  | [] => .nil
  | (x, t) :: l => .cons ⟨t, rfl⟩ (vals_strs l)
/-- sep.join(words) -/
def rJoin (K : PySem.W.Frag) : V → List V → Hp → VK → Prop := fun x vs H Q => ∃ sep l ws, x = .str sep ∧ vs = [.ref l] ∧ SqL K H l (ws.map V.str) ∧ sep.length ≤ 16 ∧ (ws.map (·.length)).sum + ws.length ≤ 1048576 ∧ Q (.str (Str.join sep ws)) H
theorem mt_join : MtM X "str.join" (rJoin X.K) := by
  intro pins s σ H x xs v us Q I rx r h
  obtain ⟨sep, l, ws, rfl, rfl, hl, h1, h2, q⟩ := h
  obtain ⟨t, rfl⟩ := rx
  obtain ⟨u, rfl, ru⟩ := vals1 r
  cases ru
  obtain ⟨its, rv, pl, _⟩ := I.list hl
  refine join_listW pl.isList (ys := ws) (by simpa using strs_of rv) h1 h2 fun t' k => ⟨.str _, H, I.tok k, ⟨t', ?_⟩, q⟩
  unfold Txt.join
  rw [StrLaws.glued_eq_join]
/-- text.split(sep): a new list -/
theorem split_new {prog : Program} {w : World} {A : Around} {E : Value → Shared → Prop} {s : Shared} {x y : Str} {t u : Tok} {Q : Value → Shared → Prop} (hy : (y.length == 0) = false) (hsz : x.length + 2 ≤ sizeLine)
    (h : ∀ (l : List (Str × Tok)) (k : Nat), l.map (·.1) = Txt.split x y → Q (.ref s.heap.objs.size) { s with heap := s.heap.push { cls := .type "list", data := .seq (strValues l).toArray }, toks := k }) :
    wpAny (model prog w) A (call (.builtin "str.split") [.str x t, .str y u]) Q E s := by
  have hx : x.length ≤ sizeLine := Nat.le_trans (Nat.le_add_right _ 2) hsz
  by_cases h1 : (decide (x.length < y.length) || decide (strKind x < strKind y)) = true
  · refine call_meets F.slot_str_split (typeIs_str _ _ _) F.entry_str_split (F.args_str_split_2 _ _) (meets_str_split_cannot_occur x y t u h1) ?_
    exact h [(x, t)] s.toks (by unfold Txt.split; rw [if_pos h1]; rfl)
  have h1' := (Bool.not_eq_true _).mp h1
  by_cases hf : (occurrences x y 0 x.length (x.length + 1)).isEmpty = true
  · refine call_meets F.slot_str_split (typeIs_str _ _ _) F.entry_str_split (F.args_str_split_2 _ _) (meets_str_split_not_found x y t u h1' hy hf) ?_
    exact h [(x, t)] s.toks (by unfold Txt.split; rw [if_neg h1, if_pos hf]; rfl)
  have hf' := (Bool.not_eq_true _).mp hf
  have hn : (partsBetween x (occurrences x y 0 x.length (x.length + 1)) y.length).length ≤ sizeLine := by
    have e := StrLaws.occ_length_le x y 0 x.length (x.length + 1)
    rw [length_partsBetween]
    omega
  refine call_meets F.slot_str_split (typeIs_str _ _ _) F.entry_str_split (F.args_str_split_2 _ _) (meets_str_split_sep x y t u h1' hy hf' hx hn) ?_
  have e := numbered_texts s.toks (partsBetween x (occurrences x y 0 x.length (x.length + 1)) y.length)
  have e2 : Txt.split x y = partsBetween x (occurrences x y 0 x.length (x.length + 1)) y.length := by unfold Txt.split; rw [if_neg h1, if_neg hf]
  have q := h (numbered s.toks (partsBetween x (occurrences x y 0 x.length (x.length + 1)) y.length))
  rw [← strsFrom_eq] at q
  exact q _ (e.trans e2.symm)
def rSplit : V → List V → Hp → VK → Prop := fun x vs H Q => ∃ z y, x = .str z ∧ vs = [.str y] ∧ (y.length == 0) = false ∧ z.length ≤ 100000 ∧ ∀ l, H l = none → Q (.ref l) (upd H l (.lst ((Txt.split z y).map V.str)))
theorem split_few (x y : Str) : (Txt.split x y).length ≤ x.length + 2 := by
  unfold Txt.split
  split
  · simp
  · split
    · simp
    · have e := StrLaws.occ_length_le x y 0 x.length (x.length + 1)
      rw [length_partsBetween]
      omega
theorem mt_split : MtM X "str.split" rSplit := by
  intro pins s σ H x xs v us Q I rx r h
  obtain ⟨z, y, rfl, rfl, hy, hz, q⟩ := h
  obtain ⟨t, rfl⟩ := rx
  obtain ⟨u, rfl, ru⟩ := vals1 r
  obtain ⟨t', rfl⟩ := ru
  refine split_new hy (by rw [sizeLine_eq]; omega) fun l k e => ⟨.ref s.heap.objs.size, _, I.lnew (t' := k) (ys := (Txt.split z y).map V.str) (its := strValues l) ?_ ?_, rfl, q _ (I.hok.fresh (Nat.le_refl _))⟩
  · rw [← e]; exact vals_strs l
  · have := split_few z y
    rw [List.length_map, sizeLine_eq]; omega
/-- text.find(word) -/
def rFind : V → List V → Hp → VK → Prop := fun x vs H Q => ∃ z y, x = .str z ∧ vs = [.str y] ∧ Q (.int (Txt.find z y)) H
theorem mt_find : MtM X "str.find" rFind := by
  intro pins s σ H x xs v us Q I rx r h
  obtain ⟨z, y, rfl, rfl, q⟩ := h
  obtain ⟨t, rfl⟩ := rx
  obtain ⟨u, rfl, ru⟩ := vals1 r
  obtain ⟨t', rfl⟩ := ru
  exact SC.find ⟨.int _, H, I.tok _, ⟨_, rfl⟩, q⟩
/-- f"{a}c{b}", a and b small ints -/
def tF2 (ta tb : TE) (c : Str) : TE := fun σ H Q => ta σ H fun x H1 => tb σ H1 fun y H2 => ∃ i j, x = .int i ∧ y = .int j ∧ i.natAbs.log2 < 1920 ∧ j.natAbs.log2 < 1920 ∧ c.length ≤ 100 ∧ (Str.ofString (toString i)).length ≤ 10000 ∧ (Str.ofString (toString j)).length ≤ 10000 ∧ Q (.str (Str.ofString (toString i) ++ c ++ Str.ofString (toString j))) H2
end
end L2

end

section
set_option linter.all false
set_option maxRecDepth 100000
set_option maxHeartbeats 1000000
namespace L2
open PySem PySem.Spec PyProof.Rows
section
variable {X : Cx}
/-- f"{a}c{b}", a and b ints -/
def tFmt (ta tb : TE) (c : Str) : TE := fun σ H Q => ta σ H fun x H1 => ∃ i, x = .int i ∧ i.natAbs.log2 < 1920 ∧ (Str.ofString (toString i)).length ≤ 10000 ∧ tb σ H1 fun y H2 => ∃ j, y = .int j ∧ j.natAbs.log2 < 1920 ∧ (Str.ofString (toString j)).length ≤ 10000 ∧ Q (.str (Str.ofString (toString i) ++ c ++ Str.ofString (toString j))) H2
theorem pe_fmt {a b : Expr} {ta tb : TE} {c : Str} {k : Nat} {p1 p2 p3 pos : Pos} (hc : c.length ≤ 100) (ha : PE X a ta) (hb : PE X b tb) : PE X (.JoinedStr [.FormattedValue a (-1) none p1, .Constant (.str c) k p2, .FormattedValue b (-1) none p3] pos) (tFmt ta tb c) := by
  intro pins s σ H Q I h
  refine JoinedStr_many (joinParts_cons (FormattedValue_plain (thn (ha pins s σ H _ I h) fun v s1 ⟨x, H1, I1, r1, i, e, hi, li, q1⟩ => ?_)))
  subst e
  obtain ⟨t, rfl⟩ := r1
  refine formatField_int_small hi ⟨by rw [strLen_append, sizeLine_eq]; have : Str.empty.length = 0 := rfl; omega, ?_⟩
  refine joinParts_cons (Calls.Constant_str ⟨by rw [strLen_append, strLen_append, sizeLine_eq]; have : Str.empty.length = 0 := rfl; omega, ?_⟩)
  refine joinParts_cons (FormattedValue_plain (thn (hb pins _ σ H1 _ (I1.tok _) q1) fun v2 s2 ⟨y, H2, I2, r2, j, e2, hj, lj, q2⟩ => ?_))
  subst e2
  obtain ⟨t2, rfl⟩ := r2
  have hz : (Str.empty ++ Str.ofString (toString i) ++ c ++ Str.ofString (toString j)).length ≤ sizeLine := by
    rw [strLen_append, strLen_append, strLen_append, sizeLine_eq]
    have : Str.empty.length = 0 := rfl
    omega
  refine formatField_int_small hj ⟨hz, ?_⟩
  refine joinParts_nil ?_ hz
  rw [Str.empty_append]
  exact ⟨.str _, H2, I2.tok _, ⟨_, rfl⟩, q2⟩
end
namespace HL
def lexLe : List Int → List Int → Bool
  | [], _ => true
  | _ :: _, [] => false
  | x :: xs, y :: ys => if x = y then lexLe xs ys else decide (x ≤ y)
theorem lexLe_cons (x y : Int) (xs ys : List Int) : lexLe (x :: xs) (y :: ys) = if x = y then lexLe xs ys else decide (x ≤ y) := rfl
theorem rcLe_int (A : Around) (s : Shared) (a : Int) (t : Tok) (c : Int) (u : Tok) (prog : Program) (w : World) (E : Value → Shared → Prop) (Q : Value → Shared → Prop) (h : Q (.bool (decide (a ≤ c))) s) :
    wpAny (model prog w) A (richCompare .LtE (.int a t) (.int c u)) Q E s :=
  (PyProof.Rows.le_int h : wpAny (model prog w) A (compareOp .LtE (.int a t) (.int c u)) Q E s)
section
open PySem.SeqAt
open PySem.AutoSeq1 (wpAny_loadPart')
open PySem.MeetsSeq PySem.MeetsSeq2 PySem.MeetsSeq3
theorem tuple_le_ints (l b : Addr) (items items2 : Array Value) (n n2 : Nat) (dd dd2 : Option Addr) (sl sl2 : Array (Option Value)) (ns ms : List Int) (hi : IntsAre items.toList ns) (hj : IntsAre items2.toList ms) :
    Meets (Builtin.«tuple.__le__» ⟨[.ref l, .ref b], []⟩)
      (fun _ R s => s.heap.get? l = some { cls := .type "tuple", dict := dd, data := .seq items n, slots := sl } ∧ s.heap.get? b = some { cls := .type "tuple", dict := dd2, data := .seq items2 n2, slots := sl2 } ∧
        R (.ok (.ret (.bool (lexLe ns ms)))) s) :=
  .of_wp fun prog w A R s h => by
    obtain ⟨hp, g, d, tk, os⟩ := s; obtain ⟨hl, hb, h⟩ := h
    have f2 := AutoSeq1.sub_tuple_tuple
    have z1 : items.size = ns.length := by rw [← hi.length]; simp
    have z2 : items2.size = ms.length := by rw [← hj.length]; simp
    wp_walk using wpAny_loadPart' hl, wpAny_loadPart' hb, wpAny_forIn_list _ (fun rest b s' => b.1 = none ∧ s' = ⟨hp, g, d, tk, os⟩ ∧ ∃ (vs ws : List Value) (ns' ms' : List Int), rest = vs.zip ws ∧
      IntsAre vs ns' ∧ IntsAre ws ms' ∧ ns'.length + items2.size = ms'.length + items.size ∧ R (.ok (.ret (.bool (lexLe ns' ms')))) ⟨hp, g, d, tk, os⟩) _
    case turn =>
      rintro ⟨y, x⟩ rest b s' ⟨hb', rfl, vs, ws, ns', ms', hz, hvi, hwi, hlen, hR⟩
      cases hvi with
      | nil => rw [List.zip_nil_left] at hz; cases hz
      | cons a t hvi' =>
        cases hwi with
        | nil => rw [List.zip_nil_right] at hz; cases hz
        | cons c u hwi' =>
          rw [List.zip_cons_cons] at hz
          injection hz with hyx hrest
          injection hyx with hy hx
          subst hy hx
          rw [lexLe_cons] at hR
          simp only [List.length_cons] at hlen
          obtain ⟨e, he, hiff⟩ := HT.eqAt_int A.in1 ⟨hp, g, d, tk, os⟩ a t c u
          refine wpAny_bind (he prog w _ _ ?_)
          cases e with
          | true =>
            rw [if_pos (hiff.mp rfl)] at hR
            wp_walk
            exact ⟨rfl, rfl, _, _, _, _, hrest, hvi', hwi', by omega, hR⟩
          | false =>
            rw [if_neg (fun q => absurd (hiff.mpr q) Bool.false_ne_true)] at hR
            have hri := rcLe_int A.in1 ⟨hp, g, d, tk, os⟩ a t c u prog w
            wp_walk using hri
            exact ⟨_, rfl, by simpa using hR⟩
    case fin =>
      rintro ⟨b1, b2⟩ s' ⟨hb', rfl, vs, ws, ns', ms', hz, hvi, hwi, hlen, hR⟩
      simp only at hb'
      subst hb'
      have hv : lexLe ns' ms' = decide (items.size ≤ items2.size) := by
        cases hvi with
        | nil =>
          simp only [List.length_nil] at hlen
          exact (decide_eq_true (by omega)).symm
        | cons a t hv =>
          cases hwi with
          | nil =>
            simp only [List.length_nil, List.length_cons] at hlen
            exact (decide_eq_false (by omega)).symm
          | cons c u hw =>
            rw [List.zip_cons_cons] at hz
            cases hz
      rw [hv] at hR
      wp_walk
      exact ⟨_, rfl, by simpa [Builtin.Tuple.tupleCompareSizes] using hR⟩
    case h =>
      exact ⟨rfl, rfl, items.toList, items2.toList, ns, ms, rfl, hi, hj, by omega, h⟩
end
section
variable {prog : Program} {w : World} {A : Around} {E : Value → Shared → Prop} {s : Shared}
theorem le_tupInts {l b : Addr} {items items2 : Array Value} {ns ms : List Int} {Q : Value → Shared → Prop} (hl : IsTup s.heap l items) (hb : IsTup s.heap b items2) (hi : IntsAre items.toList ns) (hj : IntsAre items2.toList ms)
    (hu : A.units < cLine) (h : Q (.bool (lexLe ns ms)) s) : wpAny (model prog w) A (compareOp .LtE (.ref l) (.ref b)) Q E s := by
  obtain ⟨⟨cls, dd, data, sl⟩, ho, hc, n, hd⟩ := id hl
  obtain ⟨⟨cls2, dd2, data2, sl2⟩, ho2, hc2, n2, hd2⟩ := id hb
  simp only at hc hd hc2 hd2
  subst hc hd hc2 hd2
  exact richCompare_meets_room (op := .LtE) ⟨_, ho, rfl⟩ ⟨_, ho2, rfl⟩ PySem.F.slot_tuple_le PySem.F.entry_tuple_le (PySem.F.args_tuple_le_2 _ _) (tuple_le_ints l b items items2 n n2 dd dd2 sl sl2 ns ms hi hj)
    ⟨ho, ho2, show Value.bool (lexLe ns ms) ≠ Value.notImplemented ∧ Q (.bool (lexLe ns ms)) s from ⟨(fun x => nomatch x), h⟩⟩ hu
end
end HL
section
variable {X : Cx}
def rLeT (K : PySem.W.Frag) : R2 := fun x y H Q => ∃ a b ns ms, x = .ref a ∧ y = .ref b ∧ SqT K H a (ns.map V.int) ∧ SqT K H b (ms.map V.int) ∧ Q (.bl (HL.lexLe ns ms)) H
theorem op_leT (hu : X.A.units < cLine) : OpR X (compareOp .LtE) (rLeT X.K) := by
  intro pins s σ H x y v u Q I rx ry h
  obtain ⟨a, b, ns, ms, rfl, rfl, ha, hb, q⟩ := h
  cases rx
  cases ry
  obtain ⟨its, r1, p1, _⟩ := I.tuple ha
  obtain ⟨its2, r2, p2, _⟩ := I.tuple hb
  have i1 : IntsAre its.toArray.toList ns := intsAre_of r1
  have i2 : IntsAre its2.toArray.toList ms := intsAre_of r2
  exact HL.le_tupInts p1 p2 i1 i2 hu ⟨.bl (HL.lexLe ns ms), H, I, rfl, q⟩
end
end L2

end

section
set_option linter.all false
set_option maxRecDepth 100000
namespace RO
open PySem L2
def top (i : Nat) : Stmt := PySem.Challenge.pw_rowsorder_k05_orders_written.main.body.getD i (.Pass ⟨0, 0, 0, 0⟩)
abbrev sIsWhole : Stmt := top 2
abbrev sIsBelow : Stmt := top 3
abbrev sIsMany : Stmt := top 4
abbrev sIsPair : Stmt := top 5
abbrev sEveryPair : Stmt := top 6
abbrev sIsOrder : Stmt := top 12
abbrev sClosed : Stmt := top 13
abbrev sHasRing : Stmt := top 14
abbrev sNeedOrder : Stmt := top 15
abbrev sNextPairs : Stmt := top 16
abbrev sIsParted : Stmt := top 17
abbrev sShow : Stmt := top 20
abbrev sRead : Stmt := top 21
abbrev sReadPairs : Stmt := top 22
abbrev sReadPair : Stmt := top 23
abbrev sFigure : Stmt := top 24
abbrev sCell : Stmt := top 26
abbrev sMix : Stmt := top 27
abbrev sBox : Stmt := top 28
abbrev sTake : Stmt := top 29
abbrev sMixedUp : Stmt := top 30
abbrev sLClosed : Stmt := top 31
abbrev sLOrder : Stmt := top 32
abbrev sLaw : Stmt := top 33
end RO

end

section
set_option linter.all false
set_option maxRecDepth 100000
namespace RO
open PySem L2
/-- a def of the text as it stands -/
structure Fn (K : PySem.W.Frag) (mg : Str → Option Value) (x : Str) (st : Stmt) (ps : List Str) (f : Addr) (fd : FuncData) : Prop where
  mg : mg x = some (.ref f)
  F : Fun K x x st f fd
  b : Binds K fd ps []
section
variable {P : Program} {w : World} {K : PySem.W.Frag} {mg : Str → Option Value} {base : Heap}
/-- built-in names are as they were -/
structure Bt (mg : Str → Option Value) : Prop where
  isi : mg "isinstance" = none
  int : mg "int" = none
  bool : mg "bool" = none
  tuple : mg "tuple" = none
  list : mg "list" = none
  len : mg "len" = none
  all : mg "all" = none
  any : mg "any" = none
  range : mg "range" = none
  sorted : mg "sorted" = none
  set : mg "set" = none
  abs : mg "abs" = none
  divmod : mg "divmod" = none
  max : mg "max" = none
  min : mg "min" = none
  repr : mg "repr" = none

/-! ### numbers, pairs -/
def spWhole (K : PySem.W.Frag) : Sp := fun vs H Q _ => ∃ x t, vs = [x] ∧ TyD K H x t ∧ Q (.bl (t == "int")) H
theorem scIsWhole : FnScope ["thing"] ["thing"] (defScope sIsWhole) := ⟨rfl, rfl, rfl, by decide +kernel, rfl, by decide +kernel, by decide +kernel⟩
theorem ok_isWhole {f : Addr} {fd : FuncData} (F : Fn K mg "is_whole" sIsWhole ["thing"] f fd) (B : Bt mg) : FnOk P w K mg base CX0 1 f fd ["thing"] (spWhole K) := by
  refine F.F.ok scIsWhole (fun vs H Q E h => ?_) (fun cdv A outer s H vs Q E hr h => ?_)
  · obtain ⟨x, t, rfl, _⟩ := h; rfl
  · obtain ⟨x, t, rfl, ty, k⟩ := h
    refine ⟨_, pss_one (ps_ret (pe_and (pe_callB call_isi rfl B.isi (by decide +kernel) (pa_cons (pv 0) (pa_cons (pe_bltn rfl B.int (by decide +kernel) (show RelV (.ty "int") _ from rfl)) pa_nil)))
      (pe_one (pe_not (pe_callB call_isi rfl B.isi (by decide +kernel) (pa_cons (pv 0) (pa_cons (pe_bltn rfl B.bool (by decide +kernel) (show RelV (.ty "bool") _ from rfl)) pa_nil))))))), ?_⟩
    obtain ⟨b1, b2, e1, e2, q⟩ : ∃ b1 b2 : Bool, PySem.W.kitOne K (.type t) (.type "int") = some b1 ∧ PySem.W.kitOne K (.type t) (.type "bool") = some b2 ∧ (t == "int") = (b1 && !b2) := by
      cases ty with
      | non => exact ⟨false, false, rfl, rfl, rfl⟩
      | bl b => exact ⟨true, true, rfl, rfl, rfl⟩
      | int i => exact ⟨true, false, rfl, rfl, rfl⟩
      | str z => exact ⟨false, false, rfl, rfl, rfl⟩
      | tup h => exact ⟨false, false, rfl, rfl, rfl⟩
      | lst h => exact ⟨false, false, rfl, rfl, rfl⟩
      | dic h => exact ⟨false, false, rfl, rfl, rfl⟩
    rw [q] at k
    refine ⟨x, rfl, x, "int", t, b1, rfl, ty, e1, b1, rfl, ?_⟩
    cases b1 with
    | false => exact iteF k
    | true => exact iteT ⟨x, rfl, x, "bool", t, b2, rfl, ty, e2, b2, rfl, k⟩
/-- is_below: of a whole number -/
def spBelow (K : PySem.W.Frag) : Sp := fun vs H Q _ => ∃ i n, vs = [.int i, .int n] ∧ Q (.bl (decide (0 ≤ i ∧ i < n))) H
theorem scIsBelow : FnScope ["thing", "bound"] ["thing", "bound"] (defScope sIsBelow) := ⟨rfl, rfl, rfl, by decide +kernel, rfl, by decide +kernel, by decide +kernel⟩
theorem ok_isBelow {f g : Addr} {fd gd : FuncData} (F : Fn K mg "is_below" sIsBelow ["thing", "bound"] f fd) (G : Fn K mg "is_whole" sIsWhole ["thing"] g gd) (B : Bt mg) : FnOk P w K mg base CX0 2 f fd ["thing", "bound"] (spBelow K) := by
  have GW : FnOk P w K mg base CX0 1 g gd ["thing"] (spWhole K) := ok_isWhole G B
  refine F.F.ok scIsBelow (fun vs H Q E h => ?_) (fun cdv A outer s H vs Q E hr h => ?_)
  · obtain ⟨i, n, rfl, _⟩ := h; rfl
  · obtain ⟨i, n, rfl, k⟩ := h
    refine ⟨_, pss_one (ps_ret (pe_and (pe_call GW hr rfl G.mg G.F.kp G.b .nil pass0 (pa_cons (pv 0) pa_nil)) (pe_one (pe_chain op_le op_lt pe_int (pv 0) (pv 1))))), ?_⟩
    refine ⟨_, rfl, _, _, rfl, .int i, _, rfl, iteT ?_⟩
    refine ⟨_, rfl, _, _, rfl, rfl, _, rfl, ?_⟩
    by_cases c : (0 : Int) ≤ i
    · rw [decide_eq_true c]
      refine iteT ⟨_, rfl, _, _, rfl, rfl, ?_⟩
      rw [show decide (0 ≤ i ∧ i < n) = decide (i < n) by simp [c]] at k
      exact k
    · rw [decide_eq_false c]
      refine iteF ?_
      rw [show decide (0 ≤ i ∧ i < n) = false by simp [c]] at k
      exact k
/-- is_many: of a whole number -/
def spMany (K : PySem.W.Frag) : Sp := fun vs H Q _ => ∃ i, vs = [.int i] ∧ Q (.bl (decide (1 ≤ i ∧ i ≤ 8))) H
theorem scIsMany : FnScope ["thing"] ["thing"] (defScope sIsMany) := ⟨rfl, rfl, rfl, by decide +kernel, rfl, by decide +kernel, by decide +kernel⟩
theorem ok_isMany {f g : Addr} {fd gd : FuncData} {t8 : Tok} (F : Fn K mg "is_many" sIsMany ["thing"] f fd) (G : Fn K mg "is_whole" sIsWhole ["thing"] g gd) (B : Bt mg) (m8 : mg "MOST_THINGS" = some (.int 8 t8)) : FnOk P w K mg base CX0 2 f fd ["thing"] (spMany K) := by
  have GW : FnOk P w K mg base CX0 1 g gd ["thing"] (spWhole K) := ok_isWhole G B
  refine F.F.ok scIsMany (fun vs H Q E h => ?_) (fun cdv A outer s H vs Q E hr h => ?_)
  · obtain ⟨i, rfl, _⟩ := h; rfl
  · obtain ⟨i, rfl, k⟩ := h
    refine ⟨_, pss_one (ps_ret (pe_and (pe_call GW hr rfl G.mg G.F.kp G.b .nil pass0 (pa_cons (pv 0) pa_nil)) (pe_one (pe_chain op_le op_le pe_int (pv 0) (pe_glob rfl m8 (show RelV (.int 8) _ from ⟨_, rfl⟩)))))), ?_⟩
    refine ⟨_, rfl, _, _, rfl, .int i, _, rfl, iteT ?_⟩
    refine ⟨_, rfl, _, _, rfl, rfl, _, rfl, ?_⟩
    by_cases c : (1 : Int) ≤ i
    · rw [decide_eq_true c]
      refine iteT ⟨_, _, rfl, rfl, ?_⟩
      rw [show decide (1 ≤ i ∧ i ≤ 8) = decide (i ≤ 8) by simp [c]] at k
      exact k
    · rw [decide_eq_false c]
      refine iteF ?_
      rw [show decide (1 ≤ i ∧ i ≤ 8) = false by simp [c]] at k
      exact k
/-- is_pair: of a tuple of two whole numbers -/
def spPair (K : PySem.W.Frag) : Sp := fun vs H Q _ => ∃ a x y n, vs = [.ref a, .int n] ∧ SqT K H a [.int x, .int y] ∧ Q (.bl (decide ((0 ≤ x ∧ x < n) ∧ (0 ≤ y ∧ y < n)))) H
theorem scIsPair : FnScope ["thing", "many"] ["thing", "many"] (defScope sIsPair) := ⟨rfl, rfl, rfl, by decide +kernel, rfl, by decide +kernel, by decide +kernel⟩
theorem ok_isPair {f g : Addr} {fd gd : FuncData} (F : Fn K mg "is_pair" sIsPair ["thing", "many"] f fd) (G : Fn K mg "is_below" sIsBelow ["thing", "bound"] g gd) (GB : FnOk P w K mg base CX0 2 g gd ["thing", "bound"] (spBelow K)) (B : Bt mg) : FnOk P w K mg base CX0 3 f fd ["thing", "many"] (spPair K) := by
  refine F.F.ok scIsPair (fun vs H Q E h => ?_) (fun cdv A outer s H vs Q E hr h => ?_)
  · obtain ⟨a, x, y, n, rfl, _⟩ := h; rfl
  · obtain ⟨a, x, y, n, rfl, ha, k⟩ := h
    refine ⟨_, pss_cons (ps_if (PW.pt (pw_or (pt_not (pt_val (pe_callB call_isi rfl B.isi (by decide +kernel) (pa_cons (pv 0) (pa_cons (pe_bltn rfl B.tuple (by decide +kernel) (show RelV (.ty "tuple") _ from rfl)) pa_nil))) fun _ => rfl))
        (pw_or1 (pt_cmpR op_ne (pe_callB call_len_seq rfl B.len PySem.boot_len (pa_cons (pv 0) pa_nil)) pe_int (nomark _))))) (pss_one (ps_ret pe_bl)) pss_nil)
      (pss_one (ps_ret (pe_and (pe_call GB hr rfl G.mg G.F.kp G.b .nil pass0 (pa_cons (pe_ix ix_tup (pv 0) pe_int (fun _ _ => rfl)) (pa_cons (pv 1) pa_nil)))
        (pe_one (pe_call GB hr rfl G.mg G.F.kp G.b .nil pass0 (pa_cons (pe_ix ix_tup (pv 0) pe_int (fun _ _ => rfl)) (pa_cons (pv 1) pa_nil))))))), ?_⟩
    refine ⟨_, rfl, _, _, _, true, rfl, .tup ha, rfl, _, rfl, iteF ?_⟩
    refine ⟨_, rfl, a, _, rfl, .inr ha, rfl, _, rfl, iteF ?_⟩
    refine ⟨_, rfl, a, _, 0, .int x, rfl, rfl, ha, rfl, _, rfl, x, n, rfl, _, rfl, ?_⟩
    by_cases c : 0 ≤ x ∧ x < n
    · rw [decide_eq_true c]
      refine iteT ⟨_, rfl, a, _, 1, .int y, rfl, rfl, ha, rfl, _, rfl, y, n, rfl, ?_⟩
      rw [show decide ((0 ≤ x ∧ x < n) ∧ (0 ≤ y ∧ y < n)) = decide (0 ≤ y ∧ y < n) by simp [c]] at k
      exact k
    · rw [decide_eq_false c]
      refine iteF ?_
      rw [show decide ((0 ≤ x ∧ x < n) ∧ (0 ≤ y ∧ y < n)) = false by simp [c]] at k
      exact k
end
end RO

end

section
set_option linter.all false
set_option maxRecDepth 100000
namespace L2
open PySem PySem.Spec PyProof.Rows
section
variable {K : PySem.W.Frag} {H H' : Hp} {a : Addr}
/-! ### pairs -/
theorem Room.u100 {k : Nat} {A : Around} (r : Room k A) : A.units + 100 < cLine := by have := r.un; omega
theorem PairsV.snoc {x y : Int} (q : SqT K H a [.int x, .int y]) : ∀ {vs : List V} {ps : List (Int × Int)}, PairsV K H vs ps → PairsV K H (vs ++ [.ref a]) (ps ++ [(x, y)])
  | _, _, .nil => .cons ⟨a, rfl, q⟩ .nil
  | _, _, .cons r t => .cons r (PairsV.snoc q t)
theorem PairsV.cat {us : List V} {qs : List (Int × Int)} (q : PairsV K H us qs) : ∀ {vs : List V} {ps : List (Int × Int)}, PairsV K H vs ps → PairsV K H (vs ++ us) (ps ++ qs)
  | _, _, .nil => q
  | _, _, .cons r t => .cons r (PairsV.cat q t)
theorem PairsV.len {vs : List V} {ps : List (Int × Int)} (h : PairsV K H vs ps) : vs.length = ps.length := Paired.length h
theorem PairsV.same {vs : List V} {ps : List (Int × Int)} (h : PairsV K H vs ps) (s : Same H H') : PairsV K H' vs ps := h.grow s.grow
theorem PairsV.at {vs : List V} {ps : List (Int × Int)} {i : Nat} {v : V} (h : PairsV K H vs ps) (e : vs[i]? = some v) : ∃ p : Int × Int, ps[i]? = some p ∧ ∃ b, v = .ref b ∧ SqT K H b [.int p.1, .int p.2] := Paired.getP h e
theorem Same.put {o : HO} (s : Same H H') (h : H a = none) : Same H (L2.upd H' a o) := fun b u e => by rw [upd_ne (ne_of_none e h)]; exact s b u e
end
end L2
namespace RO
open PySem L2
/-! ### comprehensions: their scopes, their targets -/
def compOk (N : List Str) (sc : Scope) (NB : List Str) (own : Nat) (ixs : List Nat) (scope : Scope) : Bool :=
  decide (scope.kind = .function) && (scope.names.all fun y => decide (y.2 ≠ .cell)) && (scope.names.all fun y => decide (scope.names.lookup y.1 = some y.2)) &&
  (scope.names.all fun y => decide (y.2 = .free → (sc.names.lookup y.1 = some .cell ∨ sc.names.lookup y.1 = some .free))) && decide NB.Nodup && decide (NB.length = own + ixs.length) &&
  ((List.range ixs.length).all fun k => decide (NB[own + k]? = N[ixs.getD k 0]?) && (match NB[own + k]? with | some x => decide ((x, NameKind.free) ∈ scope.names) | none => true))
theorem compScope {X : Cx} {NB : List Str} {own : Nat} {ixs : List Nat} {scope : Scope} (h : compOk X.N X.env.scope NB own ixs scope = true) : CompScope X NB own ixs scope := by
  unfold compOk at h
  simp only [Bool.and_eq_true, List.all_eq_true, decide_eq_true_eq, List.mem_range] at h
  obtain ⟨⟨⟨⟨⟨⟨h1, h2⟩, h3⟩, h4⟩, h5⟩, h6⟩, h7⟩ := h
  refine ⟨h1, h2, h3, h4, h5, h6, fun k hk => ⟨(h7 k hk).1, fun x hx => ?_⟩⟩
  have := (h7 k hk).2
  rw [hx] at this
  simpa using this
section
variable {X : Cx} {tg l : Expr} {tl : TE} {K : PySem.W.Frag} {H H1 : Hp} {a : Addr} {xs : List V} {σ : St}
/-- over a list or a tuple -/
def iSeq (K : PySem.W.Frag) (tl : TE) : TI := fun σ H R => tl σ H fun x H1 => ∃ a xs, x = .ref a ∧ ((SqL K H1 a xs ∧ R (Itl K a) H1) ∨ (SqT K H1 a xs ∧ R (Itt K a) H1))
end
theorem ixl (K : PySem.W.Frag) {X : Cx} (h : X.K = K := by rfl) : IxR X (rIxL K) := by subst h; exact ix_list
theorem ixt (K : PySem.W.Frag) {X : Cx} (h : X.K = K := by rfl) : IxR X (rIxT K) := by subst h; exact ix_tup
theorem opin (K : PySem.W.Frag) {X : Cx} (hu : X.A.units + 100 < cLine) (h : X.K = K := by rfl) : OpR X (compareOp .In) (rInD K false) := by subst h; exact op_inD hu
theorem pg_two (K : PySem.W.Frag) (i j : Nat) {X : Cx} {x y : Str} {px py pos : Pos} {k : Nat} (hN : X.N.Nodup) (hi : X.N[i]? = some x) (hj : X.N[j]? = some y) (hx : X.env.scope.names.lookup x = some .local) (hy : X.env.scope.names.lookup y = some .local) (hc : X.calm = true) (hK : X.K = K) :
    PG X (.Tuple [.Name x px, .Name y py] k pos) (gTup K 2 (gCons (gName i) (gCons (gName j) gNil))) := by
  subst hK
  exact pg_tup hc (pgs_cons (pg_name hN hi (Or.inl hx) (Or.inr hx)) (pgs_cons (pg_name hN hj (Or.inl hy) (Or.inr hy)) pgs_nil))
theorem PE.post {X : Cx} {e : Expr} {t u : TE} (h : PE X e t) (m : ∀ σ H Q, u σ H Q → t σ H Q) : PE X e u := fun pins s σ H Q I q => h pins s σ H Q I (m σ H Q q)
section
open PySem.Spec PyProof.Rows
variable {X : Cx} {tg l : Expr} {tl : TE}
theorem pi_seq (hl : PE X l tl) : PI X tg l (iSeq X.K tl) := by
  intro pins s σ H R I h
  refine thn (hl pins s σ H _ I h) fun v s1 ⟨x, H1, I1, r1, q1⟩ => ?_
  obtain ⟨a, xs, e, q⟩ := q1
  subst e
  cases r1
  rcases q with ⟨hq, q⟩ | ⟨hq, q⟩
  · obtain ⟨its, rv, p, hz⟩ := I1.list hq
    refine wpAny_pyIter_list p.isList ?_
    refine ⟨s1.heap.objs.size, [s1.heap.objs.size], _, _, H1, rfl, I1.kept (t' := s1.toks) fun b o e => Heap.get?_push_of_some _ e, turn_list a _, ⟨_, Heap.get?_push_size _ rfl, rfl, rfl⟩, fun b hb => ?_, q⟩
    have e : b = s1.heap.objs.size := by simpa using hb
    subst e
    exact I1.fpOk (Nat.le_refl _) (I1.hok.fresh (Nat.le_refl _))
  · obtain ⟨its, rv, p, hz⟩ := I1.tuple hq
    refine wpAny_pyIter_tuple (show s1.heap.IsTuple a its.toArray from p) ?_
    refine ⟨s1.heap.objs.size, [s1.heap.objs.size], _, _, H1, rfl, I1.kept (t' := s1.toks) fun b o e => Heap.get?_push_of_some _ e, turn_tuple a _, ⟨_, Heap.get?_push_size _ rfl, rfl, rfl⟩, fun b hb => ?_, q⟩
    have e : b = s1.heap.objs.size := by simpa using hb
    subst e
    exact I1.fpOk (Nat.le_refl _) (I1.hok.fresh (Nat.le_refl _))
end
section
variable {K : PySem.W.Frag} {H H1 H' : Hp} {a : Addr} {xs : List V} {σ : St}
abbrev ForW (J : It) (g : TG) (tb : TS) (D : Ends) (σ : St) (H : Hp) : Prop := ∃ W : Nat → Nat → St → Hp → Prop, (∃ m, W 0 m σ H) ∧ ∀ i m σ H, W i m σ H →
      (J.stop i H ∧ D.nx σ H) ∨ (J.go i H ∧ ∃ N : St → Hp → Prop, (∀ σ' H', N σ' H' → ∃ m', m' < m ∧ W (i + 1) m' σ' H') ∧ ∀ x H', J.yld i H x H' → g x σ H' fun σ2 H2 => tb { D with nx := N, ct := N, bk := D.nx } σ2 H2)
theorem sq_same (s : Same H1 H') (hq : SqL K H1 a xs ∨ SqT K H1 a xs) : SqL K H' a xs ∨ SqT K H' a xs := hq.elim (fun q => .inl (s.seq q)) fun q => .inr (q.grow s.grow)
theorem for_seq {g : TG} {tb : TS} {D : Ends} (hq : SqL K H1 a xs ∨ SqT K H1 a xs) (Pv : Nat → St → Hp → Prop) (h0 : Pv 0 σ H) (hl : ∀ i σ H', Pv i σ H' → Same H1 H')
    (hs : ∀ i x σ H, xs[i]? = some x → Pv i σ H → g x σ H fun σ2 H2 => tb { D with nx := Pv (i + 1), ct := Pv (i + 1), bk := D.nx } σ2 H2) (hd : ∀ σ H, Pv xs.length σ H → D.nx σ H) :
    (SqL K H a xs ∧ ForW (Itl K a) g tb D σ H) ∨ (SqT K H a xs ∧ ForW (Itt K a) g tb D σ H) :=
  hq.elim (fun q => .inl ⟨(hl _ _ _ h0).seq q, for_list Pv h0 (fun i σ H' _ p => (hl i σ H' p).seq q) hs hd⟩) fun q => .inr ⟨q.grow (hl _ _ _ h0).grow, for_tup Pv h0 (fun i σ H' _ p => q.grow (hl i σ H' p).grow) hs hd⟩
/-- the want of a comprehension, as one word -/
def CompW (J : It) (own : Nat) (ixs : List Nat) (g : TG) (tt : TT) (te : TE) (Q : VK) (D : Addr) (σ : St) (H : Hp) : Prop := ∃ W : Nat → Nat → St → Hp → Prop, (∃ m, W 0 m (stB own ixs σ) (upd H D (.lst []))) ∧ ∀ i m σ' H', W i m σ' H' →
      (J.stop i H' ∧ (∃ acc, H' D = some (.lst acc)) ∧ Q (.ref D) H') ∨
      (J.go i H' ∧ ∃ N : St → Hp → Prop, (∀ σ2 H2, N σ2 H2 → ∃ m', m' < m ∧ W (i + 1) m' σ2 H2) ∧ ∀ x H2, J.yld i H' x H2 → CompTurn g tt te D x σ' H2 N)
structure CompWant (own : Nat) (ixs : List Nat) (wi : TI) (g : TG) (tt : TT) (te : TE) (σ : St) (H : Hp) (Q : VK) : Prop where
  out : wi σ H fun J H1 => ∀ D, H1 D = none → CompW J own ixs g tt te Q D σ H1
theorem t_comp {own : Nat} {ixs : List Nat} {wi : TI} {g : TG} {tt : TT} {te : TE} {Q : VK} (h : wi σ H fun J H1 => ∀ D, H1 D = none → CompW J own ixs g tt te Q D σ H1) : CompWant own ixs wi g tt te σ H Q := ⟨h⟩
theorem pe_comp {X : Cx} {NB : List Str} {own : Nat} {ixs : List Nat} {scope : Scope} {tg iter elt : Expr} {ifs : List Expr} {wi : TI} {g : TG} {tt : TT} {te : TE} {pos : Pos} (hc : X.calm = true) (S : CompScope X NB own ixs scope) (hi : PI X tg iter wi)
    (hg : ∀ C ex s3 H3 pn, PG (blk X NB scope C ex s3 H3 pn) tg g) (ht : ∀ C ex s3 H3 pn, PTs (blk X NB scope C ex s3 H3 pn) ifs tt) (he : ∀ C ex s3 H3 pn, PE (blk X NB scope C ex s3 H3 pn) elt te)
    (hs : ∀ x, foldedSetIterable iter X.env x = pure x := by intro _; rfl) : PE X (.ListComp elt [⟨tg, iter, ifs, 0⟩] scope pos) (CompWant own ixs wi g tt te) :=
  fun pins s σ H Q I h => pe_lcomp hc S hi hg ht he hs pins s σ H Q I h.out
/-- words that the readings meet as they stand -/
structure WSet (P : Program) (w : World) (K : PySem.W.Frag) (xs : List V) (H : Hp) (Q : VK) : Prop where
  out : rSet P w K xs H Q
theorem call_wset {X : Cx} (hc : X.calm = true) (hu : X.A.units + 64 < cLine) : CallR X (.type "set") (WSet X.prog X.w X.K) := fun pins s σ H xs us Q I r h => call_set hc hu pins s σ H xs us Q I r h.out
structure WSortSet (P : Program) (w : World) (K : PySem.W.Frag) (xs : List V) (H : Hp) (Q : VK) : Prop where
  out : rSortSet P w K xs H Q
theorem call_wsortset {X : Cx} (hc : X.calm = true) : CallR X (.builtin "sorted") (WSortSet X.prog X.w X.K) := fun pins s σ H xs us Q I r h => call_sortset hc pins s σ H xs us Q I r h.out
structure WRepr (K : PySem.W.Frag) (xs : List V) (H : Hp) (Q : VK) : Prop where
  out : rRepr K xs H Q
theorem call_wrepr {X : Cx} (hg : X.A.guards = some []) (hu : X.A.units + 100 < cLine) : CallR X (.builtin "repr") (WRepr X.K) := fun pins s σ H xs us Q I r h => call_repr hg hu pins s σ H xs us Q I r h.out
section
variable {own : Nat} {ixs : List Nat} {g : TG} {tt : TT} {te : TE} {Q : VK} {D : Addr}
theorem cw_tup (Pv : Nat → St → Hp → Prop) (h0 : Pv 0 (stB own ixs σ) (upd H D (.lst []))) (hl : ∀ i σ H, i ≤ xs.length → Pv i σ H → SqT K H a xs)
    (hs : ∀ i x σ H, xs[i]? = some x → Pv i σ H → CompTurn g tt te D x σ H (Pv (i + 1))) (hd : ∀ σ H, Pv xs.length σ H → (∃ acc, H D = some (.lst acc)) ∧ Q (.ref D) H) : CompW (Itt K a) own ixs g tt te Q D σ H := comp_tup Pv h0 hl hs hd
theorem cw_list (Pv : Nat → St → Hp → Prop) (h0 : Pv 0 (stB own ixs σ) (upd H D (.lst []))) (hl : ∀ i σ H, i ≤ xs.length → Pv i σ H → SqL K H a xs)
    (hs : ∀ i x σ H, xs[i]? = some x → Pv i σ H → CompTurn g tt te D x σ H (Pv (i + 1))) (hd : ∀ σ H, Pv xs.length σ H → (∃ acc, H D = some (.lst acc)) ∧ Q (.ref D) H) : CompW (Itl K a) own ixs g tt te Q D σ H := comp_list Pv h0 hl hs hd
theorem cw_range {lo : Int} {n : Nat} (Pv : Nat → St → Hp → Prop) (h0 : Pv 0 (stB own ixs σ) (upd H D (.lst [])))
    (hs : ∀ i σ H, i < n → Pv i σ H → CompTurn g tt te D (.int (lo + i)) σ H (Pv (i + 1))) (hd : ∀ σ H, Pv n σ H → (∃ acc, H D = some (.lst acc)) ∧ Q (.ref D) H) : CompW (Itr lo n) own ixs g tt te Q D σ H := comp_range Pv h0 hs hd
end
/-- a turn without tests -/
theorem ct_name1 {i : Nat} {te : TE} {D : Addr} {x : V} {N : St → Hp → Prop} (h : te (σ.set i (some x)) H fun v H5 => ∃ acc, H5 D = some (.lst acc) ∧ acc.length < sizeLine ∧ N (σ.set i (some x)) (upd H5 D (.lst (acc ++ [v])))) : CompTurn (gName i) tYes te D x σ H N := by
  unfold CompTurn gName tYes
  exact iteT h
/-- a, b = a pair -/
theorem g_two {i j : Nat} {x y : V} {Q : St → Hp → Prop} (h : SqT K H a [x, y]) (q : Q ((σ.set i (some x)).set j (some y)) H) : gTup K 2 (gCons (gName i) (gCons (gName j) gNil)) (.ref a) σ H Q := ⟨a, _, rfl, h, rfl, x, _, rfl, y, _, rfl, rfl, q⟩
theorem ct_two1 {i j : Nat} {te : TE} {D : Addr} {x y : V} {N : St → Hp → Prop} (hq : SqT K H a [x, y]) (h : te ((σ.set i (some x)).set j (some y)) H fun v H5 => ∃ acc, H5 D = some (.lst acc) ∧ acc.length < sizeLine ∧ N ((σ.set i (some x)).set j (some y)) (upd H5 D (.lst (acc ++ [v])))) : CompTurn (gTup K 2 (gCons (gName i) (gCons (gName j) gNil))) tYes te D (.ref a) σ H N := by
  refine g_two hq ?_
  unfold tYes
  exact iteT h
theorem ifT {c A B : Prop} [Decidable c] (h : c) (a : A) : if c then A else B := by rw [if_pos h]; exact a
theorem ifF {c A B : Prop} [Decidable c] (h : ¬ c) (b : B) : if c then A else B := by rw [if_neg h]; exact b
theorem take_snoc {α : Type} {l : List α} {i : Nat} {x : α} (h : l[i]? = some x) : l.take (i + 1) = l.take i ++ [x] := by
  rw [List.take_add_one, h]; rfl
theorem take_all {α : Type} (l : List α) : l.take l.length = l := List.take_of_length_le (Nat.le_refl _)
end
theorem grid_len (n : Nat) : (OM.grid n).length = n * n := by unfold OM.grid; simp
theorem grid_at {n i : Nat} (h : i < n * n) : (OM.grid n)[i]? = some (((i / n : Nat) : Int), ((i % n : Nat) : Int)) := by
  unfold OM.grid
  rw [List.getElem?_map, List.getElem?_range h]; rfl
theorem sq8 {n : Nat} (h : n ≤ 8) : n * n ≤ 64 := Nat.mul_le_mul h h
section
variable {P : Program} {w : World} {K : PySem.W.Frag} {mg : Str → Option Value} {base : Heap}
/-- every_pair -/
def spEvery (K : PySem.W.Frag) : Sp := fun vs H Q _ => ∃ n : Nat, vs = [.int n] ∧ 1 ≤ n ∧ n ≤ 8 ∧ ∀ H' l ws, Same H H' → H l = none → H' l = some (.lst ws) → PairsV K H' ws (OM.grid n) → Q (.ref l) H'
theorem scEvery : FnScope ["many"] ["many"] (defScope sEveryPair) := ⟨rfl, rfl, rfl, by decide +kernel, rfl, by decide +kernel, by decide +kernel⟩
theorem nd_nm : (["number", "many"] : List Str).Nodup := by decide +kernel
theorem ok_every {f : Addr} {fd : FuncData} (F : Fn K mg "every_pair" sEveryPair ["many"] f fd) (B : Bt mg) : FnOk P w K mg base CX0 1 f fd ["many"] (spEvery K) := by
  refine F.F.ok scEvery (fun vs H Q E h => ?_) (fun cdv A outer s H vs Q E hr h => ?_)
  · obtain ⟨n, rfl, _⟩ := h; rfl
  · obtain ⟨n, rfl, h1, h8, k⟩ := h
    refine ⟨_, pss_one (ps_ret (pe_comp (NB := ["number", "many"]) (own := 1) (ixs := [0]) rfl (compScope (by kernel_rfl)) (pi_range1 rfl B.range (pa_cons (pe_op op_mul (pv 0) (pv 0)) pa_nil))
      (fun C ex s3 H3 pn => pg_name (i := 0) nd_nm rfl (Or.inl rfl) (hf := Or.inr rfl)) (fun C ex s3 H3 pn => pts_nil)
      (fun C ex s3 H3 pn => pe_tup (pa_cons (pe_op op_fdiv (pv 0) (pv 1)) (pa_cons (pe_op op_mod (pv 0) (pv 1)) pa_nil))))), ?_⟩
    have hn := sq8 h8
    have e0 : ((n : Int) * (n : Int)) = ((n * n : Nat) : Int) := by rw [Int.natCast_mul]
    refine t_comp ⟨_, rfl, _, rfl, _, _, rfl, rfl, .inl ⟨by omega, by omega⟩, _, rfl, by rw [e0]; omega, by rw [e0]; omega, fun D hD => ?_⟩
    rw [e0, Int.toNat_natCast]
    refine cw_range (fun i σ' H' => (∃ v, σ' = [v, some (.int n)]) ∧ Same H H' ∧ ∃ vs, H' D = some (.lst vs) ∧ PairsV K H' vs ((OM.grid n).take i)) ⟨⟨none, rfl⟩, (Same.refl H).put hD, [], upd_same, .nil⟩ ?_ ?_
    · rintro i σ' H' hi ⟨⟨v, rfl⟩, s1, vs, hv, hp⟩
      have hn0 : (0 : Int) < (n : Int) := by omega
      refine ct_name1 ⟨_, rfl, _, rfl, _, _, rfl, rfl, ⟨hn0, by omega⟩, _, rfl, _, rfl, _, _, rfl, rfl, hn0, by show 2 ≤ sizeLine; rw [sizeLine_eq]; omega, fun p hp0 => ?_⟩
      have hpD : D ≠ p := ne_of_none hv hp0
      have hl := hp.len
      refine ⟨vs, by rw [upd_ne hpD]; exact hv, ?_, ⟨_, rfl⟩, ?_, vs ++ [.ref p], upd_same, ?_⟩
      · rw [hl, List.length_take, sizeLine_eq]; rw [grid_len]; omega
      · exact (s1.put (s1.free hp0)).put hD
      · rw [take_snoc (grid_at hi)]
        have g1 : Grow H' (upd H' p (.tup [.int ((0 + (i : Int)) / n), .int ((0 + (i : Int)) % n)])) := Grow.new hp0
        have g2 : ∀ o, Grow (upd H' p (.tup [.int ((0 + (i : Int)) / n), .int ((0 + (i : Int)) % n)])) (upd (upd H' p (.tup [.int ((0 + (i : Int)) / n), .int ((0 + (i : Int)) % n)])) D o) := fun o => Grow.list (by rw [upd_ne hpD]; exact hv)
        refine PairsV.snoc ?_ (hp.grow (g1.trans (g2 _)))
        refine (SqT.grow ?_ (g2 _))
        refine .inl (.inl ?_)
        rw [upd_same, Int.zero_add]; rfl
    · rintro σ' H' ⟨_, s1, vs, hv, hp⟩
      refine ⟨⟨_, hv⟩, k H' D vs s1 hD hv ?_⟩
      rw [← grid_len n, take_all] at hp
      exact hp
end
end RO

end

section
set_option linter.all false
set_option maxRecDepth 100000
namespace RO
open PySem L2
/-! ### the table on the heap -/
structure TabAt (n : Nat) (M : OM.Tb) (L : Addr) (r : Nat → Addr) (H : Hp) : Prop where
  top : H L = some (.lst ((List.range n).map fun i => V.ref (r i)))
  row : ∀ i, i < n → H (r i) = some (.lst ((List.range n).map fun j => V.bl (M i j)))
  inj : ∀ i j, i < n → j < n → r i = r j → i = j
  ne : ∀ i, i < n → r i ≠ L
theorem ixN_nat {n x : Nat} (h : x < n) : ixN n (x : Int) = some x := by
  unfold ixN; rw [if_pos (by omega), if_pos (by omega)]; simp
theorem at_nat {α : Type} {xs : List α} {x : Nat} (h : x < xs.length) : atI xs (x : Int) = xs[x]? := by
  unfold atI; rw [ixN_nat h]; rfl
theorem at_range {f : Nat → V} {n x : Nat} (h : x < n) : atI ((List.range n).map f) (x : Int) = some (f x) := by
  rw [at_nat (by simpa using h), List.getElem?_map, List.getElem?_range h]; rfl
theorem ixN_range {f : Nat → V} {n x : Nat} (h : x < n) : ixN ((List.range n).map f).length (x : Int) = some x := by
  rw [List.length_map, List.length_range]; exact ixN_nat h
theorem range_set {f : Nat → V} {n y : Nat} {v : V} : ((List.range n).map f).set y v = (List.range n).map fun j => if j = y then v else f j := by
  apply List.ext_getElem?
  intro i
  by_cases hi : i < n
  · by_cases e : y = i
    · subst e; simp [List.getElem?_set, hi]
    · have e' : ¬ i = y := fun z => e z.symm
      simp [List.getElem?_set, hi, e, e']
  · rw [List.getElem?_eq_none (by simp; omega), List.getElem?_eq_none (by simp; omega)]
section
variable {n : Nat} {M : OM.Tb} {L : Addr} {r : Nat → Addr} {H H' : Hp}
theorem TabAt.set (T : TabAt n M L r H) {x y : Nat} (hx : x < n) : TabAt n (M.set x y) L r (upd H (r x) (.lst (((List.range n).map fun j => V.bl (M x j)).set y (.bl true)))) := by
  refine ⟨by rw [upd_ne (T.ne x hx).symm]; exact T.top, fun i hi => ?_, T.inj, T.ne⟩
  by_cases e : i = x
  · subst e
    rw [upd_same, range_set]
    refine congrArg _ (congrArg _ (List.map_congr_left fun j _ => ?_))
    unfold OM.Tb.set
    by_cases c : j = y
    · simp [c]
    · simp [c]
  · rw [upd_ne (fun z => e (T.inj i x hi hx z)), T.row i hi]
    refine congrArg _ (congrArg _ (List.map_congr_left fun j _ => ?_))
    unfold OM.Tb.set; simp [e]
theorem TabAt.same (T : TabAt n M L r H) (s : Same H H') : TabAt n M L r H' := ⟨s _ _ T.top, fun i hi => s _ _ (T.row i hi), T.inj, T.ne⟩
end
theorem wn_nat {n : Nat} {ps : List (Int × Int)} (w : OM.Wn n ps) {p : Int × Int} (h : p ∈ ps) : ∃ u v : Nat, p = ((u : Int), (v : Int)) ∧ u < n ∧ v < n := by
  obtain ⟨x, y⟩ := p
  have q := w _ h
  simp only at q
  exact ⟨x.toNat, y.toNat, by rw [Int.toNat_of_nonneg q.1.1, Int.toNat_of_nonneg q.2.1], by omega, by omega⟩
theorem phase_congr {M0 M : OM.Tb} {m : Nat} {D D' : Nat → Nat → Prop} (P : OM.Phase M0 M m D) (h : ∀ a b, D a b ↔ D' a b) : OM.Phase M0 M m D' := fun a b => by rw [P a b, h a b]
theorem mem_snoc2 {l : List (Int × Int)} {u v a b : Nat} : (((a : Int), (b : Int)) ∈ l ∨ (a = u ∧ b = v)) ↔ ((a : Int), (b : Int)) ∈ l ++ [((u : Int), (v : Int))] := by
  rw [List.mem_append, List.mem_singleton, Prod.mk.injEq]
  constructor
  · rintro (h | ⟨h1, h2⟩)
    · exact .inl h
    · exact .inr ⟨by omega, by omega⟩
  · rintro (h | ⟨h1, h2⟩)
    · exact .inl h
    · exact .inr ⟨by omega, by omega⟩
theorem set_iff {M : OM.Tb} {u v a b : Nat} : M.set u v a b = true ↔ M a b = true ∨ (a = u ∧ b = v) := by
  unfold OM.Tb.set
  by_cases c : a = u ∧ b = v
  · simp [c]
  · rw [if_neg c]; exact ⟨.inl, fun h => h.resolve_right c⟩
theorem flat1 (n : Nat) (x : V) : (List.replicate n [x]).flatten = (List.range n).map fun _ => x := by
  rw [List.flatten_replicate_singleton, List.map_const', List.length_range]
section
variable {P : Program} {w : World} {K : PySem.W.Frag} {mg : Str → Option Value} {base : Heap}
/-- closed: of pairs of n things -/
def spClosed (K : PySem.W.Frag) : Sp := fun vs H Q _ => ∃ (n : Nat) (a : Addr) (xs : List V) (ps : List (Int × Int)), vs = [.int n, .ref a] ∧ 1 ≤ n ∧ n ≤ 8 ∧ (SqL K H a xs ∨ SqT K H a xs) ∧ PairsV K H xs ps ∧ OM.Wn n ps ∧
  ∀ H' t ws, Same H H' → H t = none → H' t = some (.tup ws) → PairsV K H' ws (OM.filt n (OM.Tr (OM.Mem ps))) → Q (.ref t) H'
theorem scClosed : FnScope ["many", "pairs", "corners", "leads", "a", "b", "middle"] ["many", "pairs"] (defScope sClosed) := ⟨rfl, rfl, rfl, by decide +kernel, rfl, by decide +kernel, by decide +kernel⟩
theorem nd_sm : (["start", "many"] : List Str).Nodup := by decide +kernel
theorem nd_abl : (["a", "b", "leads"] : List Str).Nodup := by decide +kernel
set_option maxHeartbeats 1000000 in
theorem ok_closed {f g : Addr} {fd gd : FuncData} (F : Fn K mg "closed" sClosed ["many", "pairs"] f fd) (G : Fn K mg "every_pair" sEveryPair ["many"] g gd) (GE : FnOk P w K mg base CX0 1 g gd ["many"] (spEvery K)) (B : Bt mg) : FnOk P w K mg base CX0 2 f fd ["many", "pairs"] (spClosed K) := by
  refine F.F.ok scClosed (fun vs H Q E h => ?_) (fun cdv A outer s H vs Q E hr h => ?_)
  · obtain ⟨n, a, xs, ps, rfl, _⟩ := h; rfl
  · obtain ⟨n, a, xs, ps, rfl, h1, h8, hq, hp, wn, k⟩ := h
    refine ⟨_, pss_cons (ps_set (i := 2) scClosed.nd rfl (Or.inl rfl) (pe_call GE hr rfl G.mg G.F.kp G.b .nil pass0 (pa_cons (pv 0) pa_nil)))
      (pss_cons (ps_set (i := 3) scClosed.nd rfl (Or.inr rfl) (pe_comp (NB := ["start", "many"]) (own := 1) (ixs := [0]) rfl (compScope (by kernel_rfl)) (pi_range1 rfl B.range (pa_cons (pv 0) pa_nil))
        (fun C ex s3 H3 pn => pg_name (i := 0) nd_sm rfl (Or.inl rfl) (hf := Or.inr rfl)) (fun C ex s3 H3 pn => pts_nil) (fun C ex s3 H3 pn => pe_op op_rep (pe_lst (pa_cons pe_bl pa_nil)) (pv 1))))
      (pss_cons (ps_for PassesOwn.never rfl (pi_seq (pv 1)) (pg_tup rfl (pgs_cons (pg_name (i := 4) scClosed.nd rfl (Or.inl rfl)) (pgs_cons (pg_name (i := 5) scClosed.nd rfl (Or.inl rfl)) pgs_nil)))
        (pss_one (ps_asg pe_bl (pg_sub (pe_ix ix_list (pv 3) (pv 4) (fun _ _ => rfl)) (pv 5) set_list))))
      (pss_cons (ps_for PassesOwn.never rfl (pi_range1 rfl B.range (pa_cons (pv 0) pa_nil)) (pg_name (i := 6) scClosed.nd rfl (Or.inl rfl))
        (pss_one (ps_for PassesOwn.never rfl (pi_list (pv 2)) (pg_tup rfl (pgs_cons (pg_name (i := 4) scClosed.nd rfl (Or.inl rfl)) (pgs_cons (pg_name (i := 5) scClosed.nd rfl (Or.inl rfl)) pgs_nil)))
          (pss_one (ps_if (PW.pt (pw_and (pt_val (pe_ix ix_list (pe_ix ix_list (pv 3) (pv 4) (fun _ _ => rfl)) (pv 6) (fun _ _ => rfl))) (pw_and1 (pt_val (pe_ix ix_list (pe_ix ix_list (pv 3) (pv 6) (fun _ _ => rfl)) (pv 5) (fun _ _ => rfl))))))
            (pss_one (ps_asg pe_bl (pg_sub (pe_ix ix_list (pv 3) (pv 4) (fun _ _ => rfl)) (pv 5) set_list))) pss_nil)))))
      (pss_one (ps_ret (pe_callTy call_tuple_of rfl B.tuple (by decide +kernel) (pa_cons (pe_comp (NB := ["a", "b", "leads"]) (own := 2) (ixs := [3]) rfl (compScope (by kernel_rfl)) (pi_list (pv 2))
        (fun C ex s3 H3 pn => pg_two K 0 1 nd_abl rfl rfl rfl rfl rfl rfl)
        (fun C ex s3 H3 pn => pts_one (pt_val (pe_ix (ixl K) (pe_ix (ixl K) (pv 2) (pv 0) (fun _ _ => rfl)) (pv 1) (fun _ _ => rfl)))) (fun C ex s3 H3 pn => pe_tup (pa_cons (pv 0) (pa_cons (pv 1) pa_nil)))) pa_nil))))))), ?_⟩
    have hn := sq8 h8
    have hn0 : (0 : Int) ≤ (n : Int) := by omega
    -- corners
    refine ⟨_, rfl, n, rfl, h1, h8, fun H1 c ws s1 hc0 hc hw => ?_⟩
    have hwl : ws.length = n * n := by rw [hw.len, grid_len]
    have gw : OM.Wn n (OM.grid n) := fun p hp => OM.mem_grid.mp hp
    -- leads
    refine t_comp ?_
    refine ⟨_, rfl, n, rfl, by omega, by omega, fun D hD => ?_⟩
    rw [Int.toNat_natCast]
    refine cw_range (fun i σ' H' => (∃ v, σ' = [v, some (.int n)]) ∧ Same H1 H' ∧ ∃ r : Nat → Addr, H' D = some (.lst ((List.range i).map fun k => V.ref (r k))) ∧
      (∀ k, k < i → H' (r k) = some (.lst ((List.range n).map fun _ => V.bl false)) ∧ H1 (r k) = none ∧ r k ≠ D) ∧ ∀ j k, j < i → k < i → r j = r k → j = k)
      ?_ ?_ ?_
    · exact ⟨⟨none, rfl⟩, (Same.refl H1).put hD, fun _ => 0, upd_same, fun k hk => absurd hk (Nat.not_lt_zero _), fun j k hj => absurd hj (Nat.not_lt_zero _)⟩
    · rintro i σ' H' hi ⟨⟨v, rfl⟩, s2, r, hr0, hr1, hr2⟩
      refine ct_name1 ⟨by show 1 ≤ sizeLine; rw [sizeLine_eq]; omega, fun p hp0 => ⟨_, rfl, p, n, [.bl false], rfl, rfl, upd_same, by omega, by omega, by show 1 * (n : Int).toNat ≤ sizeLine; rw [sizeLine_eq]; omega, fun q hq0 => ?_⟩⟩
      have hqp : q ≠ p := by intro e; subst e; rw [upd_same] at hq0; cases hq0
      have hq1 : H' q = none := by rw [upd_ne hqp] at hq0; exact hq0
      have hDp : D ≠ p := ne_of_none hr0 hp0
      have hDq : D ≠ q := ne_of_none hr0 hq1
      rw [Int.toNat_natCast, flat1]
      refine ⟨_, by rw [upd_ne hDq, upd_ne hDp]; exact hr0, by rw [List.length_map, List.length_range, sizeLine_eq]; omega, ⟨_, rfl⟩, ((s2.put (s2.free hp0)).put (s2.free hq1)).put hD, fun k => if k = i then q else r k, ?_, fun k hk => ?_, fun j k hj hk e => ?_⟩
      · have e : (List.range i).map (fun k => V.ref (r k)) = (List.range i).map (fun k => V.ref (if k = i then q else r k)) := List.map_congr_left fun k hk => by
          have := List.mem_range.mp hk
          rw [if_neg (by omega)]
        rw [upd_same, List.range_succ, List.map_append, e]
        simp
      · dsimp only
        by_cases e : k = i
        · rw [if_pos e]
          exact ⟨by rw [upd_ne hDq.symm, upd_same], s2.free hq1, hDq.symm⟩
        · rw [if_neg e]
          obtain ⟨a1, a2, a3⟩ := hr1 k (by omega)
          exact ⟨by rw [upd_ne a3, upd_ne (ne_of_none a1 hq1), upd_ne (ne_of_none a1 hp0)]; exact a1, a2, a3⟩
      · dsimp only at e
        by_cases ej : j = i
        · by_cases ek : k = i
          · omega
          · rw [if_pos ej, if_neg ek] at e
            exact absurd e.symm (ne_of_none (hr1 k (by omega)).1 hq1)
        · by_cases ek : k = i
          · rw [if_neg ej, if_pos ek] at e
            exact absurd e (ne_of_none (hr1 j (by omega)).1 hq1)
          · rw [if_neg ej, if_neg ek] at e
            exact hr2 j k (by omega) (by omega) e
    rintro σ2 H2 ⟨_, s2, r, hr0, hr1, hr2⟩
    refine ⟨⟨_, hr0⟩, ?_⟩
    have sep : ∀ i, i < n → H1 (r i) = none := fun i hi => (hr1 i hi).2.1
    have T0 : TabAt n (fun _ _ => false) D r H2 := ⟨hr0, fun i hi => (hr1 i hi).1, hr2, fun i hi => (hr1 i hi).2.2⟩
    -- for a, b in pairs
    refine ⟨_, rfl, a, xs, rfl, for_seq (H1 := H1) (sq_same s1 hq) (fun i σ' H' => (∃ x y, σ' = [some (.int n), some (.ref a), some (.ref c), some (.ref D), x, y, none]) ∧ Same H1 H' ∧ ∃ M, TabAt n M D r H' ∧ ∀ u v : Nat, M u v = true ↔ ((u : Int), (v : Int)) ∈ ps.take i)
      ⟨⟨none, none, rfl⟩, s2, _, T0, fun u v => by simp⟩ (fun i σ' H' q => q.2.1) ?_ ?_⟩
    · rintro i x σ' H' hx ⟨⟨_, _, rfl⟩, s3, M, T, hM⟩
      obtain ⟨p, hpi, b, rfl, hb⟩ := (hp.same (s1.trans s3)).at hx
      obtain ⟨u, v, rfl, hu, hv⟩ := wn_nat wn (List.mem_of_getElem? hpi)
      refine g_two hb ?_
      refine ⟨_, rfl, _, rfl, D, _, u, _, rfl, rfl, .inl (.inl T.top), at_range hu, _, rfl, r u, _, v, v, rfl, rfl, T.row u hu, ixN_range hv, ⟨_, _, rfl⟩, s3.put (sep u hu), _, T.set hu, fun x y => ?_⟩
      rw [take_snoc hpi, ← mem_snoc2, set_iff, hM]
    rintro σ3 H3 ⟨⟨x3, y3, rfl⟩, s3, M3, T3, hM3⟩
    rw [hp.len, take_all] at hM3
    -- for middle in range(many)
    refine ⟨_, rfl, n, rfl, by omega, by omega, ?_⟩
    rw [Int.toNat_natCast]
    refine for_range (fun m σ' H' => (∃ x y z, σ' = [some (.int n), some (.ref a), some (.ref c), some (.ref D), x, y, z]) ∧ Same H1 H' ∧ ∃ M, TabAt n M D r H' ∧ OM.Tab n ps M ∧ OM.Thru M m)
      ⟨⟨_, _, _, rfl⟩, s3, M3, T3, ⟨fun a b h => by have := wn _ ((hM3 a b).mp h); simp only at this; omega, fun a b h => (hM3 a b).mpr h, fun a b h => .one ((hM3 a b).mp h)⟩, fun k a b hk => absurd hk (Nat.not_lt_zero _)⟩ ?_ ?_
    · rintro m σ' H' hm ⟨⟨_, _, _, rfl⟩, s4, M, T, TT, Th⟩
      rw [Int.zero_add]
      refine ⟨_, rfl, c, rfl, ⟨ws, .inl (.inl (s4 _ _ hc))⟩, for_list (xs := ws) (fun i σ' H' => (∃ x y, σ' = [some (.int n), some (.ref a), some (.ref c), some (.ref D), x, y, some (.int m)]) ∧ Same H1 H' ∧ ∃ M', TabAt n M' D r H' ∧ OM.Phase M M' m fun u v => ((u : Int), (v : Int)) ∈ (OM.grid n).take i)
        ⟨⟨_, _, rfl⟩, s4, M, T, phase_congr (OM.Phase.start M m) fun a b => by simp⟩ (fun i σ' H' _ q => .inl (.inl (q.2.1 _ _ hc))) ?_ ?_⟩
      · rintro i x σ' H' hx ⟨⟨_, _, rfl⟩, s5, M', T', Ph⟩
        obtain ⟨p, hpi, b, rfl, hb⟩ := (hw.same s5).at hx
        obtain ⟨u, v, rfl, hu, hv⟩ := wn_nat gw (List.mem_of_getElem? hpi)
        refine g_two hb ?_
        have st := Ph.step u v
        refine ⟨_, rfl, _, rfl, D, _, u, _, rfl, rfl, .inl (.inl T'.top), at_range hu, _, rfl, r u, _, m, _, rfl, rfl, .inl (.inl (T'.row u hu)), at_range hm, _, rfl, ?_⟩
        by_cases c1 : M' u m = true
        · refine ifT c1 ?_
          refine ⟨_, rfl, _, rfl, D, _, m, _, rfl, rfl, .inl (.inl T'.top), at_range hm, _, rfl, r m, _, v, _, rfl, rfl, .inl (.inl (T'.row m hm)), at_range hv, _, rfl, ?_⟩
          by_cases c2 : M' m v = true
          · refine ifT c2 ?_
            rw [if_pos ⟨c1, c2⟩] at st
            refine ⟨_, rfl, _, rfl, D, _, u, _, rfl, rfl, .inl (.inl T'.top), at_range hu, _, rfl, r u, _, v, v, rfl, rfl, T'.row u hu, ixN_range hv, ⟨_, _, rfl⟩, s5.put (sep u hu), _, T'.set hu, phase_congr st fun a b => ?_⟩
            rw [take_snoc hpi]; exact mem_snoc2
          · refine ifF c2 ?_
            rw [if_neg fun z => c2 z.2] at st
            refine ⟨⟨_, _, rfl⟩, s5, _, T', phase_congr st fun a b => ?_⟩
            rw [take_snoc hpi]; exact mem_snoc2
        · refine ifF c1 ?_
          rw [if_neg fun z => c1 z.1] at st
          refine iteF ⟨⟨_, _, rfl⟩, s5, _, T', phase_congr st fun a b => ?_⟩
          rw [take_snoc hpi]; exact mem_snoc2
      · rintro σ' H' ⟨⟨_, _, rfl⟩, s5, M', T', Ph⟩
        rw [hw.len, take_all] at Ph
        have dn := Ph.done (n := n) (fun a b ha hb => OM.mem_grid.mpr ⟨⟨by simp, by simp; omega⟩, by simp, by simp; omega⟩) TT.inn Th
        exact ⟨⟨_, _, _, rfl⟩, s5, M', T', TT.phase Ph, dn.1⟩
    rintro σ4 H4 ⟨⟨x4, y4, z4, rfl⟩, s4, M, T, TT, Th⟩
    -- the pairs of the table
    refine t_comp ⟨_, rfl, c, rfl, ⟨ws, .inl (.inl (s4 _ _ hc))⟩, fun D' hD' => cw_list (xs := ws) (fun i σ' H' => (∃ x y, σ' = [x, y, some (.ref D)]) ∧ Same H4 H' ∧ ∃ vs, H' D' = some (.lst vs) ∧ PairsV K H' vs (((OM.grid n).take i).filter fun p => M p.1.toNat p.2.toNat))
      ⟨⟨_, _, rfl⟩, (Same.refl H4).put hD', [], upd_same, .nil⟩ (fun i σ' H' _ q => .inl (.inl (q.2.1 _ _ (s4 _ _ hc)))) ?_ ?_⟩
    · rintro i x σ' H' hx ⟨⟨_, _, rfl⟩, s5, vs, hv, hpv⟩
      obtain ⟨p, hpi, b, rfl, hb⟩ := (hw.same (s4.trans s5)).at hx
      obtain ⟨u, v, rfl, hu, hv'⟩ := wn_nat gw (List.mem_of_getElem? hpi)
      refine g_two hb ?_
      have T' := T.same s5
      refine ⟨_, rfl, _, rfl, D, _, u, _, rfl, rfl, .inl (.inl T'.top), at_range hu, _, rfl, r u, _, v, _, rfl, rfl, .inl (.inl (T'.row u hu)), at_range hv', _, rfl, ?_⟩
      by_cases c1 : M u v = true
      · refine ifT c1 ?_
        refine ⟨_, rfl, _, rfl, by show 2 ≤ sizeLine; rw [sizeLine_eq]; omega, fun p hp0 => ?_⟩
        have hpD : D' ≠ p := ne_of_none hv hp0
        refine ⟨vs, by rw [upd_ne hpD]; exact hv, ?_, ⟨_, _, rfl⟩, (s5.put (s5.free hp0)).put hD', _, upd_same, ?_⟩
        · rw [hpv.len]
          refine Nat.lt_of_le_of_lt (List.length_filter_le ..) ?_
          rw [List.length_take, grid_len, sizeLine_eq]; omega
        · rw [take_snoc hpi, List.filter_append, List.filter_cons_of_pos (by simpa using c1), List.filter_nil]
          have g1 : Grow H' (upd H' p (.tup [.int u, .int v])) := Grow.new hp0
          have g2 : ∀ o, Grow (upd H' p (.tup [.int u, .int v])) (upd (upd H' p (.tup [.int u, .int v])) D' o) := fun o => Grow.list (by rw [upd_ne hpD]; exact hv)
          refine PairsV.snoc ?_ (hpv.grow (g1.trans (g2 _)))
          exact SqT.grow (.inl (.inl upd_same)) (g2 _)
      · refine ifF c1 ?_
        refine ⟨⟨_, _, rfl⟩, s5, vs, hv, ?_⟩
        rw [take_snoc hpi, List.filter_append, List.filter_cons_of_neg (by simpa using c1), List.filter_nil, List.append_nil]
        exact hpv
    · rintro σ' H' ⟨_, s5, vs, hv, hpv⟩
      rw [hw.len, take_all] at hpv
      refine ⟨⟨_, hv⟩, D', vs, rfl, .inl ⟨.inl (.inl hv), fun t ht => ?_⟩⟩
      have sA : Same H H' := (s1.trans s4).trans s5
      refine k _ t vs (sA.put (sA.free ht)) (sA.free ht) upd_same ?_
      have e : ((OM.grid n).filter fun p => M p.1.toNat p.2.toNat) = OM.filt n (OM.Tr (OM.Mem ps)) := by
        unfold OM.filt
        refine List.filter_congr fun p hp => ?_
        obtain ⟨u, v, rfl, hu, hv⟩ := wn_nat gw hp
        have := TT.all wn Th u v
        simp only [Int.toNat_natCast]
        rw [Bool.eq_iff_iff, this]
        simp
      rw [e] at hpv
      exact hpv.grow (Grow.new ht)
end
end RO

end

section
set_option linter.all false
set_option maxRecDepth 100000
namespace RO
open PySem L2
/-! ### data of pairs -/
def pd (p : Int × Int) : PyData := .tuple [.int p.1, .int p.2]
section
variable {K : PySem.W.Frag} {H H' : Hp}
theorem rep_pair {a : Addr} {p : Int × Int} (q : SqT K H a [.int p.1, .int p.2]) : Rep K H (.ref a) (pd p) := .tup q (.cons (.int _) (.cons (.int _) .nil))
theorem pairs_rep : ∀ {vs : List V} {ps : List (Int × Int)}, PairsV K H vs ps → Reps K H vs (ps.map pd)
  | _, _, .nil => .nil
  | _, _, .cons ⟨a, e, q⟩ t => by subst e; exact .cons (rep_pair q) (pairs_rep t)
theorem lay_pd (p : Int × Int) : (pd p).canLay0 = true := by simp [pd, PyData.canLay0, PyData.canLayAll0]
theorem lay_ps (l : List (Int × Int)) : PyData.canLayAll0 (l.map pd) = true := by
  induction l with
  | nil => simp [PyData.canLayAll0]
  | cons p l ih => rw [List.map_cons, PyData.canLayAll0, lay_pd, ih]; rfl
theorem depth_pd (p : Int × Int) : (pd p).depth = 1 := by simp [pd, PyData.depth, PyData.depthAll]
theorem depth_ps (l : List (Int × Int)) : PyData.depthAll (l.map pd) ≤ 1 := by
  induction l with
  | nil => simp [PyData.depthAll]
  | cons p l ih => rw [List.map_cons, PyData.depthAll, depth_pd]; omega
theorem shaped_p (p : Int × Int) : PySem.SeqAt.shaped (pd p) = true := by
  unfold PySem.SeqAt.shaped; rw [lay_pd, depth_pd]; rfl
theorem shaped_t (l : List (Int × Int)) : PySem.SeqAt.shaped (.tuple (l.map pd)) = true := by
  have := depth_ps l
  unfold PySem.SeqAt.shaped; rw [PyData.canLay0, lay_ps, PyData.depth]; simp; omega
theorem shaped_o (n : Int) (l : List (Int × Int)) : PySem.SeqAt.shaped (.tuple [.int n, .tuple (l.map pd)]) = true := by
  have := depth_ps l
  unfold PySem.SeqAt.shaped
  simp only [PyData.canLay0, PyData.canLayAll0, lay_ps, PyData.depth, PyData.depthAll]
  simp; omega
theorem shaped_all (l : List (Int × Int)) : ∀ e, e ∈ l.map pd → PySem.SeqAt.shaped e = true := fun e he => by
  obtain ⟨p, _, rfl⟩ := List.mem_map.mp he
  exact shaped_p p
theorem eqv_pd (p q : Int × Int) : PyData.eqv (pd p) (pd q) = decide (p = q) := by
  obtain ⟨a, b⟩ := p
  obtain ⟨c, d⟩ := q
  rw [Bool.eq_iff_iff]
  simp [pd, PyData.eqv, PyData.eqvAll]
theorem any_pd (l : List (Int × Int)) (q : Int × Int) : ((l.map pd).any fun e => PyData.eqv e (pd q)) = decide (q ∈ l) := by
  rw [Bool.eq_iff_iff]
  simp only [List.any_map, List.any_eq_true, Function.comp, eqv_pd, decide_eq_true_eq]
  constructor
  · rintro ⟨x, hx, rfl⟩; exact hx
  · intro h; exact ⟨q, h, rfl⟩
/-- an order of n things with the pairs l stands at o -/
def OrdAt (K : PySem.W.Frag) (H : Hp) (o : Addr) (n : Nat) (l : List (Int × Int)) : Prop := ∃ t ws, SqT K H o [.int n, .ref t] ∧ SqT K H t ws ∧ PairsV K H ws l
theorem OrdAt.grow {o : Addr} {n : Nat} {l : List (Int × Int)} (h : OrdAt K H o n l) (g : Grow H H') : OrdAt K H' o n l := let ⟨t, ws, a, b, c⟩ := h; ⟨t, ws, a.grow g, b.grow g, c.grow g⟩
theorem OrdAt.same {o : Addr} {n : Nat} {l : List (Int × Int)} (h : OrdAt K H o n l) (g : Same H H') : OrdAt K H' o n l := h.grow g.grow
theorem OrdAt.rep {o : Addr} {n : Nat} {l : List (Int × Int)} (h : OrdAt K H o n l) : Rep K H (.ref o) (.tuple [.int n, .tuple (l.map pd)]) := let ⟨t, ws, a, b, c⟩ := h; .tup a (.cons (.int _) (.cons (.tup b (pairs_rep c)) .nil))
end
theorem ord_len {n : Nat} {l : List (Int × Int)} (O : OM.Ord n l) : l.length < 64 := by
  have hn := sq8 O.hi
  have := OM.len_le (l := (0, 0) :: l) (m := OM.grid n) (List.nodup_cons.mpr ⟨O.irr 0, OM.ris_nodup O.ris⟩) (fun x hx => by
    rcases List.mem_cons.mp hx with e | e
    · subst e; have := O.lo; exact OM.mem_grid.mpr ⟨⟨by simp, by simp; omega⟩, by simp, by simp; omega⟩
    · exact OM.mem_grid.mpr (O.wn x e))
  rw [grid_len, List.length_cons] at this
  omega
theorem wn_small {n : Nat} {l : List (Int × Int)} (h8 : n ≤ 8) (w : OM.Wn n l) : ∀ p, p ∈ l → Sm p := fun p hp => by
  have := w p hp
  exact ⟨⟨this.1.1, by omega⟩, this.2.1, by omega⟩
theorem any_ring {l : List (Int × Int)} (h : ∀ a, (a, a) ∉ l) : (l.any fun p => decide (p.1 = p.2)) = false := by
  rw [List.any_eq_false]
  rintro ⟨a, b⟩ hp
  simp only [decide_eq_true_eq]
  intro e
  subst e
  exact h _ hp
section
variable {P : Program} {w : World} {K : PySem.W.Frag} {mg : Str → Option Value} {base : Heap}
/-- has_ring -/
def spRing (K : PySem.W.Frag) : Sp := fun vs H Q _ => ∃ (a : Addr) (xs : List V) (ps : List (Int × Int)), vs = [.ref a] ∧ SqT K H a xs ∧ PairsV K H xs ps ∧ ps.length ≤ 1000 ∧ ∀ H', Same H H' → Q (.bl (ps.any fun p => decide (p.1 = p.2))) H'
theorem scRing : FnScope ["pairs"] ["pairs"] (defScope sHasRing) := ⟨rfl, rfl, rfl, by decide +kernel, rfl, by decide +kernel, by decide +kernel⟩
theorem nd_ab : (["a", "b"] : List Str).Nodup := by decide +kernel
theorem ok_ring {f : Addr} {fd : FuncData} (F : Fn K mg "has_ring" sHasRing ["pairs"] f fd) (B : Bt mg) : FnOk P w K mg base CX0 1 f fd ["pairs"] (spRing K) := by
  refine F.F.ok scRing (fun vs H Q E h => ?_) (fun cdv A outer s H vs Q E hr h => ?_)
  · obtain ⟨a, xs, ps, rfl, _⟩ := h; rfl
  · obtain ⟨a, xs, ps, rfl, hq, hp, hl, k⟩ := h
    refine ⟨_, pss_one (ps_ret (pe_callB (call_any rfl) rfl B.any (by decide +kernel) (pa_cons (pe_comp (NB := ["a", "b"]) (own := 2) (ixs := []) rfl (compScope (by kernel_rfl)) (pi_tup (pv 0))
      (fun C ex s3 H3 pn => pg_two K 0 1 nd_ab rfl rfl rfl rfl rfl rfl)
      (fun C ex s3 H3 pn => pts_nil) (fun C ex s3 H3 pn => pe_cmpR op_eq (pv 0) (pv 1) (nomark _))) pa_nil))), ?_⟩
    refine t_comp ⟨_, rfl, a, rfl, ⟨xs, hq⟩, fun D hD => cw_tup (xs := xs) (fun i σ' H' => (∃ x y, σ' = [x, y]) ∧ Same H H' ∧ H' D = some (.lst (((ps.take i).map fun p => decide (p.1 = p.2)).map V.bl)))
      ⟨⟨_, _, rfl⟩, (Same.refl H).put hD, upd_same⟩ (fun i σ' H' _ q => hq.grow q.2.1.grow) ?_ ?_⟩
    · rintro i x σ' H' hx ⟨⟨_, _, rfl⟩, s1, hv⟩
      obtain ⟨p, hpi, b, rfl, hb⟩ := (hp.same s1).at hx
      refine ct_two1 hb (⟨_, rfl, _, rfl, rfl, _, hv, ?_, ⟨_, _, rfl⟩, s1.put hD, ?_⟩)
      · rw [List.length_map, List.length_map, List.length_take, sizeLine_eq]; omega
      · rw [upd_same, take_snoc hpi, List.map_append, List.map_append]
        refine congrArg _ (congrArg _ (congrArg _ ?_))
        simp
    · rintro σ' H' ⟨_, s1, hv⟩
      rw [hp.len, take_all] at hv
      refine ⟨⟨_, hv⟩, D, _, rfl, .inl (.inl hv), ?_⟩
      have e : ((ps.map fun p => decide (p.1 = p.2)).any id) = ps.any fun p => decide (p.1 = p.2) := by rw [List.any_map]; rfl
      have q := k H' s1
      rw [← e] at q
      exact q
/-- is_order, of an order -/
def spIsOrder (K : PySem.W.Frag) : Sp := fun vs H Q _ => ∃ (o : Addr) (n : Nat) (l : List (Int × Int)), vs = [.ref o] ∧ OrdAt K H o n l ∧ OM.Ord n l ∧ ∀ H', Same H H' → Q (.bl true) H'
theorem scIsOrder : FnScope ["thing", "many", "pairs"] ["thing"] (defScope sIsOrder) := ⟨rfl, rfl, rfl, by decide +kernel, rfl, by decide +kernel, by decide +kernel⟩
theorem nd_pm : (["pair", "many"] : List Str).Nodup := by decide +kernel
theorem all_true {α : Type} (l : List α) : (l.map fun _ => true).all id = true := by simp
theorem snoc_true {ps : List (Int × Int)} {i : Nat} {p : Int × Int} (h : ps[i]? = some p) : ((ps.take i).map fun _ => true).map V.bl ++ [V.bl true] = ((ps.take (i + 1)).map fun _ => true).map V.bl := by
  rw [take_snoc h, List.map_append, List.map_append]; rfl
set_option maxHeartbeats 1000000 in
theorem ok_isOrder {f gm gp gc gr : Addr} {fd dm dp dc dr : FuncData} (F : Fn K mg "is_order" sIsOrder ["thing"] f fd) (Gm : Fn K mg "is_many" sIsMany ["thing"] gm dm) (Gp : Fn K mg "is_pair" sIsPair ["thing", "many"] gp dp) (Gc : Fn K mg "closed" sClosed ["many", "pairs"] gc dc) (Gr : Fn K mg "has_ring" sHasRing ["pairs"] gr dr)
    (OM' : FnOk P w K mg base CX0 2 gm dm ["thing"] (spMany K)) (OP : FnOk P w K mg base CX0 3 gp dp ["thing", "many"] (spPair K)) (OC : FnOk P w K mg base CX0 2 gc dc ["many", "pairs"] (spClosed K)) (OR : FnOk P w K mg base CX0 1 gr dr ["pairs"] (spRing K)) (B : Bt mg) : FnOk P w K mg base CX0 4 f fd ["thing"] (spIsOrder K) := by
  refine F.F.ok scIsOrder (fun vs H Q E h => ?_) (fun cdv A outer s H vs Q E hr h => ?_)
  · obtain ⟨o, n, l, rfl, _⟩ := h; rfl
  · obtain ⟨o, n, l, rfl, ⟨t, ws, ho, ht, hp⟩, O, k⟩ := h
    refine ⟨_, pss_cons (ps_if (PW.pt (pw_or (pt_not (pt_val (pe_callB call_isi rfl B.isi (by decide +kernel) (pa_cons (pv 0) (pa_cons (pe_bltn rfl B.tuple (by decide +kernel) (show RelV (.ty "tuple") _ from rfl)) pa_nil))) fun _ => rfl))
        (pw_or1 (pt_cmpR op_ne (pe_callB call_len_seq rfl B.len PySem.boot_len (pa_cons (pv 0) pa_nil)) pe_int (nomark _))))) (pss_one (ps_ret pe_bl)) pss_nil)
      (pss_cons (ps_set (i := 1) scIsOrder.nd rfl (Or.inr rfl) (pe_ix ix_tup (pv 0) pe_int (fun _ _ => rfl)))
      (pss_cons (ps_set (i := 2) scIsOrder.nd rfl (Or.inl rfl) (pe_ix ix_tup (pv 0) pe_int (fun _ _ => rfl)))
      (pss_cons (ps_if (PW.pt (pw_or (pt_not (pt_val (pe_call OM' (hr.mono (by decide)) rfl Gm.mg Gm.F.kp Gm.b .nil pass0 (pa_cons (pv 1) pa_nil)) fun _ => rfl))
        (pw_or1 (pt_not (pt_val (pe_callB call_isi rfl B.isi (by decide +kernel) (pa_cons (pv 2) (pa_cons (pe_bltn rfl B.tuple (by decide +kernel) (show RelV (.ty "tuple") _ from rfl)) pa_nil))) fun _ => rfl))))) (pss_one (ps_ret pe_bl)) pss_nil)
      (pss_cons (ps_if (pt_not (pt_val (pe_callB (call_all rfl) rfl B.all (by decide +kernel) (pa_cons (pe_comp (NB := ["pair", "many"]) (own := 1) (ixs := [1]) rfl (compScope (by kernel_rfl)) (pi_tup (pv 2))
        (fun C ex s3 H3 pn => pg_name (i := 0) nd_pm rfl (Or.inl rfl) (hf := Or.inr rfl)) (fun C ex s3 H3 pn => pts_nil) (fun C ex s3 H3 pn => pe_call OP hr rfl Gp.mg Gp.F.kp Gp.b .nil pass0 (pa_cons (pv 0) (pa_cons (pv 1) pa_nil)))) pa_nil)) fun _ => rfl))
        (pss_one (ps_ret pe_bl)) pss_nil)
      (pss_one (ps_ret (pe_and (pe_cmpR (op_eqD hr.units) (pv 2) (pe_call OC (hr.mono (by decide)) rfl Gc.mg Gc.F.kp Gc.b .nil pass0 (pa_cons (pv 1) (pa_cons (pv 2) pa_nil))) (nomark _))
        (pe_one (pe_not (pe_call OR (hr.mono (by decide)) rfl Gr.mg Gr.F.kp Gr.b .nil pass0 (pa_cons (pv 2) pa_nil))))))))))), ?_⟩
    have h1 := O.lo
    have h8 := O.hi
    have hl := ord_len O
    refine ⟨_, rfl, _, _, _, true, rfl, .tup ho, rfl, _, rfl, iteF ?_⟩
    refine ⟨_, rfl, o, _, rfl, .inr ho, rfl, _, rfl, iteF ?_⟩
    refine ⟨_, rfl, o, _, 0, .int n, rfl, rfl, ho, rfl, ?_⟩
    refine ⟨_, rfl, o, _, 1, .ref t, rfl, rfl, ho, rfl, ?_⟩
    refine ⟨_, rfl, n, rfl, _, rfl, ?_⟩
    rw [show decide (1 ≤ (n : Int) ∧ (n : Int) ≤ 8) = true from decide_eq_true ⟨by omega, by omega⟩]
    refine iteF ⟨_, rfl, _, _, _, true, rfl, .tup ht, rfl, _, rfl, iteF ?_⟩
    -- all pairs
    refine t_comp ⟨_, rfl, t, rfl, ⟨ws, ht⟩, fun D hD => cw_tup (xs := ws) (fun i σ' H' => (∃ x, σ' = [x, some (.int n)]) ∧ Same H H' ∧ H' D = some (.lst (((l.take i).map fun _ => true).map V.bl)))
      ⟨⟨_, rfl⟩, (Same.refl H).put hD, upd_same⟩ (fun i σ' H' _ q => ht.grow q.2.1.grow) ?_ ?_⟩
    · rintro i x σ' H' hx ⟨⟨_, rfl⟩, s1, hv⟩
      obtain ⟨p, hpi, b, rfl, hb⟩ := (hp.same s1).at hx
      have hw := O.wn p (List.mem_of_getElem? hpi)
      refine ct_name1 ⟨_, rfl, _, rfl, b, p.1, p.2, n, rfl, hb, _, hv, ?_, ⟨_, rfl⟩, s1.put hD, ?_⟩
      · rw [List.length_map, List.length_map, List.length_take, sizeLine_eq]; omega
      · rw [upd_same, decide_eq_true hw, snoc_true hpi]
    rintro σ' H1 ⟨_, s1, hv⟩
    rw [hp.len, take_all] at hv
    refine ⟨⟨_, hv⟩, D, _, rfl, .inl (.inl hv), _, rfl, ?_⟩
    refine ifF (by simp) ?_
    -- closed, no ring
    refine ⟨_, rfl, _, rfl, _, rfl, n, t, ws, l, rfl, h1, h8, .inr (ht.grow s1.grow), hp.same s1, O.wn, fun H2 t2 w2 s2 hn2 ht2 hp2 => ?_⟩
    rw [O.closed] at hp2
    have s02 := s1.trans s2
    refine ⟨.tuple (l.map pd), .tuple (l.map pd), .tup (ht.grow s02.grow) (pairs_rep (hp.same s02)), .tup (.inl (.inl ht2)) (pairs_rep hp2), shaped_t l, shaped_t l, _, rfl, ?_⟩
    rw [show (if false = true then !PyData.eqv (.tuple (l.map pd)) (.tuple (l.map pd)) else PyData.eqv (.tuple (l.map pd)) (.tuple (l.map pd))) = true from by
      rw [if_neg Bool.false_ne_true]; exact PySem.SeqAt.eqv_refl _ (by rw [PyData.canLay0]; exact lay_ps l)]
    refine iteT ⟨_, rfl, t, ws, l, rfl, ht.grow s02.grow, hp.same s02, by omega, fun H3 s3 => ?_⟩
    rw [any_ring O.irr]
    exact ⟨_, rfl, k H3 (s02.trans s3)⟩
/-- need_order -/
def spNeed (K : PySem.W.Frag) : Sp := fun vs H Q _ => ∃ (o : Addr) (n : Nat) (l : List (Int × Int)), vs = [.ref o] ∧ OrdAt K H o n l ∧ OM.Ord n l ∧ ∀ H', Same H H' → Q .non H'
theorem scNeed : FnScope ["thing"] ["thing"] (defScope sNeedOrder) := ⟨rfl, rfl, rfl, by decide +kernel, rfl, by decide +kernel, by decide +kernel⟩
theorem ok_need {f g : Addr} {fd dg : FuncData} (F : Fn K mg "need_order" sNeedOrder ["thing"] f fd) (G : Fn K mg "is_order" sIsOrder ["thing"] g dg) (OI : FnOk P w K mg base CX0 4 g dg ["thing"] (spIsOrder K)) : FnOk P w K mg base CX0 5 f fd ["thing"] (spNeed K) := by
  refine F.F.ok scNeed (fun vs H Q E h => ?_) (fun cdv A outer s H vs Q E hr h => ?_)
  · obtain ⟨o, n, l, rfl, _⟩ := h; rfl
  · obtain ⟨o, n, l, rfl, ho, O, k⟩ := h
    refine ⟨_, pss_one (ps_if (pt_not (pt_val (pe_call OI hr rfl G.mg G.F.kp G.b .nil pass0 (pa_cons (pv 0) pa_nil)) fun _ => rfl)) pss_never pss_nil), ?_⟩
    exact ⟨_, rfl, o, n, l, rfl, ho, O, fun H' s' => ⟨_, rfl, iteF (k H' s')⟩⟩
/-- is_parted -/
def spParted (K : PySem.W.Frag) : Sp := fun vs H Q _ => ∃ (o : Addr) (a b : Int) (n : Nat) (l : List (Int × Int)), vs = [.ref o, .int a, .int b] ∧ OrdAt K H o n l ∧ OM.Ord n l ∧ ∀ H' r, Same H H' → (r = true ↔ ∃ c, (a, c) ∈ l ∧ (c, b) ∈ l) → Q (.bl r) H'
theorem scParted : FnScope ["order", "a", "b", "pairs"] ["order", "a", "b"] (defScope sIsParted) := ⟨rfl, rfl, rfl, by decide +kernel, rfl, by decide +kernel, by decide +kernel⟩
theorem nd_mabp : (["middle", "a", "b", "pairs"] : List Str).Nodup := by decide +kernel
def btwB (l : List (Int × Int)) (a b : Int) (c : Nat) : Bool := decide ((a, (c : Int)) ∈ l) && decide (((c : Int), b) ∈ l)
theorem btw_any {n : Nat} {l : List (Int × Int)} {a b : Int} (w : OM.Wn n l) : ((List.range n).map (btwB l a b)).any id = true ↔ ∃ c, (a, c) ∈ l ∧ (c, b) ∈ l := by
  rw [List.any_map, List.any_eq_true]
  constructor
  · rintro ⟨c, _, h⟩
    simp only [Function.comp, id, btwB, Bool.and_eq_true, decide_eq_true_eq] at h
    exact ⟨c, h⟩
  · rintro ⟨c, h1, h2⟩
    have q := w _ h2
    simp only at q
    have e : ((c.toNat : Nat) : Int) = c := Int.toNat_of_nonneg q.1.1
    refine ⟨c.toNat, List.mem_range.mpr (by omega), ?_⟩
    simp only [Function.comp, id, btwB, Bool.and_eq_true, decide_eq_true_eq, e]
    exact ⟨h1, h2⟩
theorem ok_parted {f : Addr} {fd : FuncData} (F : Fn K mg "is_parted" sIsParted ["order", "a", "b"] f fd) (B : Bt mg) : FnOk P w K mg base CX0 1 f fd ["order", "a", "b"] (spParted K) := by
  refine F.F.ok scParted (fun vs H Q E h => ?_) (fun cdv A outer s H vs Q E hr h => ?_)
  · obtain ⟨o, a, b, n, l, rfl, _⟩ := h; rfl
  · obtain ⟨o, a, b, n, l, rfl, ⟨t, ws, ho, ht, hp⟩, O, k⟩ := h
    refine ⟨_, pss_cons (ps_set (i := 3) scParted.nd rfl (Or.inr rfl) (pe_ix ix_tup (pv 0) pe_int (fun _ _ => rfl)))
      (pss_one (ps_ret (pe_callB (call_any rfl) rfl B.any (by decide +kernel) (pa_cons (pe_comp (NB := ["middle", "a", "b", "pairs"]) (own := 1) (ixs := [1, 2, 3]) rfl (compScope (by kernel_rfl)) (pi_range1 rfl B.range (pa_cons (pe_ix ix_tup (pv 0) pe_int (fun _ _ => rfl)) pa_nil))
        (fun C ex s3 H3 pn => pg_name (i := 0) nd_mabp rfl (Or.inl rfl) (hf := Or.inr rfl)) (fun C ex s3 H3 pn => pts_nil)
        (fun C ex s3 H3 pn => pe_and (pe_cmpR (opin K hr.u100) (pe_tup (pa_cons (pv 1) (pa_cons (pv 0) pa_nil))) (pv 3) (by with_unfolding_all rfl)) (pe_one (pe_cmpR (opin K hr.u100) (pe_tup (pa_cons (pv 0) (pa_cons (pv 2) pa_nil))) (pv 3) (by with_unfolding_all rfl))))) pa_nil)))), ?_⟩
    have h8 := O.hi
    refine ⟨_, rfl, o, _, 1, .ref t, rfl, rfl, ho, rfl, ?_⟩
    refine t_comp ⟨_, rfl, o, _, 0, .int n, rfl, rfl, ho, rfl, n, rfl, by omega, by omega, fun D hD => ?_⟩
    rw [Int.toNat_natCast]
    refine cw_range (fun i σ' H' => (∃ x, σ' = [x, some (.int a), some (.int b), some (.ref t)]) ∧ Same H H' ∧ H' D = some (.lst (((List.range i).map (btwB l a b)).map V.bl)))
      ⟨⟨_, rfl⟩, (Same.refl H).put hD, upd_same⟩ ?_ ?_
    · rintro i σ' H' hi ⟨⟨_, rfl⟩, s1, hv⟩
      rw [Int.zero_add]
      have two : ∀ {x y : Int}, ([V.int x, V.int y] : List V).length ≤ sizeLine := by intro x y; show 2 ≤ sizeLine; rw [sizeLine_eq]; omega
      refine ct_name1 ⟨_, rfl, _, rfl, two, fun p hp0 => ?_⟩
      have s2 : Same H' (upd H' p (.tup [.int a, .int i])) := Same.new hp0
      have s02 := s1.trans s2
      refine ⟨_, rfl, t, ws, pd (a, i), l.map pd, rfl, .inr (ht.grow s02.grow), pairs_rep (hp.same s02), rep_pair (p := (a, (i : Int))) (.inl (.inl upd_same)), shaped_p _, shaped_all l, _, rfl, ?_⟩
      rw [if_neg Bool.false_ne_true, any_pd]
      have fin : ∀ {H2 : Hp} {r : Bool}, Same H' H2 → r = btwB l a b i → ∃ acc, H2 D = some (.lst acc) ∧ acc.length < sizeLine ∧ ((∃ x, [some (V.int i), some (V.int a), some (V.int b), some (V.ref t)] = [x, some (.int a), some (.int b), some (.ref t)]) ∧ Same H (upd H2 D (.lst (acc ++ [.bl r]))) ∧ (upd H2 D (.lst (acc ++ [.bl r]))) D = some (.lst (((List.range (i + 1)).map (btwB l a b)).map V.bl))) := fun {H2 r} s3 e => by
        refine ⟨_, s3 _ _ hv, by rw [List.length_map, List.length_map, List.length_range, sizeLine_eq]; omega, ⟨_, rfl⟩, (s1.trans s3).put hD, ?_⟩
        rw [upd_same, List.range_succ, List.map_append, List.map_append, e]; rfl
      by_cases c1 : (a, (i : Int)) ∈ l
      · rw [decide_eq_true c1]
        refine iteT ⟨_, rfl, _, rfl, two, fun q hq0 => ?_⟩
        have s3 : Same (upd H' p (.tup [.int a, .int i])) (upd (upd H' p (.tup [.int a, .int i])) q (.tup [.int i, .int b])) := Same.new hq0
        refine ⟨_, rfl, t, ws, pd (i, b), l.map pd, rfl, .inr (ht.grow (s02.trans s3).grow), pairs_rep (hp.same (s02.trans s3)), rep_pair (p := ((i : Int), b)) (.inl (.inl upd_same)), shaped_p _, shaped_all l, ?_⟩
        rw [if_neg Bool.false_ne_true, any_pd]
        exact fin (s2.trans s3) (by unfold btwB; rw [decide_eq_true c1, Bool.true_and])
      · rw [decide_eq_false c1]
        exact iteF (fin s2 (by unfold btwB; rw [decide_eq_false c1, Bool.false_and]))
    · rintro σ' H' ⟨_, s1, hv⟩
      exact ⟨⟨_, hv⟩, D, _, rfl, .inl (.inl hv), k H' _ s1 (btw_any O.wn)⟩
/-- next_pairs -/
def spNext (K : PySem.W.Frag) : Sp := fun vs H Q _ => ∃ (o : Addr) (n : Nat) (l : List (Int × Int)), vs = [.ref o] ∧ OrdAt K H o n l ∧ OM.Ord n l ∧ ∀ H' D ws, Same H H' → H D = none → H' D = some (.lst ws) → PairsV K H' ws (OM.nexts l) → Q (.ref D) H'
theorem scNext : FnScope ["order"] ["order"] (defScope sNextPairs) := ⟨rfl, rfl, rfl, by decide +kernel, rfl, by decide +kernel, by decide +kernel⟩
theorem nd_abo : (["a", "b", "order"] : List Str).Nodup := by decide +kernel
open Classical in
theorem ok_next {f gn gp : Addr} {fd dn dp : FuncData} (F : Fn K mg "next_pairs" sNextPairs ["order"] f fd) (Gn : Fn K mg "need_order" sNeedOrder ["thing"] gn dn) (Gp : Fn K mg "is_parted" sIsParted ["order", "a", "b"] gp dp)
    (ON : FnOk P w K mg base CX0 5 gn dn ["thing"] (spNeed K)) (OP : FnOk P w K mg base CX0 1 gp dp ["order", "a", "b"] (spParted K)) : FnOk P w K mg base CX0 6 f fd ["order"] (spNext K) := by
  refine F.F.ok scNext (fun vs H Q E h => ?_) (fun cdv A outer s H vs Q E hr h => ?_)
  · obtain ⟨o, n, l, rfl, _⟩ := h; rfl
  · obtain ⟨o, n, l, rfl, hoA, O, k⟩ := h
    obtain ⟨t, ws, ho, ht, hp⟩ := id hoA
    refine ⟨_, pss_cons (ps_expr (pe_call ON hr rfl Gn.mg Gn.F.kp Gn.b .nil pass0 (pa_cons (pv 0) pa_nil)))
      (pss_one (ps_ret (pe_comp (NB := ["a", "b", "order"]) (own := 2) (ixs := [0]) rfl (compScope (by kernel_rfl)) (pi_tup (pe_ix ix_tup (pv 0) pe_int (fun _ _ => rfl)))
        (fun C ex s3 H3 pn => pg_two K 0 1 nd_abo rfl rfl rfl rfl rfl rfl)
        (fun C ex s3 H3 pn => pts_one (pt_not (pt_val (pe_call OP (hr.mono (by decide)) rfl Gp.mg Gp.F.kp Gp.b .nil pass0 (pa_cons (pv 2) (pa_cons (pv 0) (pa_cons (pv 1) pa_nil)))) fun _ => rfl)))
        (fun C ex s3 H3 pn => pe_tup (pa_cons (pv 0) (pa_cons (pv 1) pa_nil)))))), ?_⟩
    have hl := ord_len O
    refine ⟨_, rfl, o, n, l, rfl, hoA, O, fun H1 s1 => ?_⟩
    refine t_comp ⟨_, rfl, o, _, 1, .ref t, rfl, rfl, ho.grow s1.grow, rfl, t, rfl, ⟨ws, ht.grow s1.grow⟩, fun D hD => cw_tup (xs := ws) (fun i σ' H' => (∃ x y, σ' = [x, y, some (.ref o)]) ∧ Same H1 H' ∧ ∃ vs, H' D = some (.lst vs) ∧ PairsV K H' vs ((l.take i).filter fun p => decide (OM.isNext l p)))
      ⟨⟨_, _, rfl⟩, (Same.refl H1).put hD, [], upd_same, .nil⟩ (fun i σ' H' _ q => ht.grow (s1.trans q.2.1).grow) ?_ ?_⟩
    · rintro i x σ' H' hx ⟨⟨_, _, rfl⟩, s2, vs, hv, hpv⟩
      obtain ⟨p, hpi, b, rfl, hb⟩ := (hp.same (s1.trans s2)).at hx
      refine g_two hb ?_
      refine ⟨_, rfl, _, rfl, _, rfl, o, p.1, p.2, n, l, rfl, hoA.same (s1.trans s2), O, fun H2 r s3 hr' => ⟨_, rfl, ?_⟩⟩
      have s13 := s2.trans s3
      have hv2 := s3 _ _ hv
      cases r with
      | true =>
        have hn : ¬ OM.isNext l p := fun z => by obtain ⟨c, hc⟩ := hr'.mp rfl; exact z c hc
        refine iteF ⟨⟨_, _, rfl⟩, s13, vs, hv2, ?_⟩
        rw [take_snoc hpi, List.filter_append, List.filter_cons_of_neg (by simpa using hn), List.filter_nil, List.append_nil]
        exact hpv.same s3
      | false =>
        have hn : OM.isNext l p := fun c hc => Bool.false_ne_true (hr'.mpr ⟨c, hc⟩)
        refine iteT ⟨_, rfl, _, rfl, by show 2 ≤ sizeLine; rw [sizeLine_eq]; omega, fun q hq0 => ?_⟩
        have hpD : D ≠ q := ne_of_none hv2 hq0
        refine ⟨vs, by rw [upd_ne hpD]; exact hv2, ?_, ⟨_, _, rfl⟩, (s13.put (s13.free hq0)).put hD, _, upd_same, ?_⟩
        · rw [hpv.len]
          refine Nat.lt_of_le_of_lt (List.length_filter_le ..) ?_
          rw [List.length_take, sizeLine_eq]; omega
        · rw [take_snoc hpi, List.filter_append, List.filter_cons_of_pos (by simpa using hn), List.filter_nil]
          have g1 : Grow H2 (upd H2 q (.tup [.int p.1, .int p.2])) := Grow.new hq0
          have g2 : ∀ o, Grow (upd H2 q (.tup [.int p.1, .int p.2])) (upd (upd H2 q (.tup [.int p.1, .int p.2])) D o) := fun o => Grow.list (by rw [upd_ne hpD]; exact hv2)
          refine PairsV.snoc ?_ ((hpv.same s3).grow (g1.trans (g2 _)))
          exact SqT.grow (.inl (.inl upd_same)) (g2 _)
    · rintro σ' H' ⟨_, s2, vs, hv, hpv⟩
      rw [hp.len, take_all] at hpv
      refine ⟨⟨_, hv⟩, k H' D vs (s1.trans s2) (s1.free hD) hv ?_⟩
      have e : (l.filter fun p => decide (OM.isNext l p)) = OM.nexts l := by
        unfold OM.nexts
        exact List.filter_congr fun p _ => by congr
      rw [e] at hpv
      exact hpv
end
end RO

end

section
set_option linter.all false
set_option maxRecDepth 100000
namespace L2
open PySem PySem.Spec PyProof.Rows
/-- all but b is as it was -/
def SameB (b : Addr) (H H' : Hp) : Prop := ∀ c o, c ≠ b → H c = some o → H' c = some o
section
variable {b : Addr} {H H1 H2 : Hp}
theorem SameB.refl (b : Addr) (H : Hp) : SameB b H H := fun _ _ _ h => h
theorem SameB.trans (x : SameB b H H1) (y : SameB b H1 H2) : SameB b H H2 := fun c o n h => y c o n (x c o n h)
theorem Same.sameB (x : Same H H1) : SameB b H H1 := fun c o _ h => x c o h
theorem SameB.same (x : SameB b H H1) (h : H b = none) : Same H H1 := fun c o e => x c o (ne_of_none e h) e
theorem SameB.put {o : HO} (x : SameB b H H1) : SameB b H (L2.upd H1 b o) := fun c u n h => by rw [upd_ne n]; exact x c u n h
theorem SameB.putN {o : HO} {a : Addr} (x : SameB b H H1) (h : H a = none) : SameB b H (L2.upd H1 a o) := fun c u n e => by rw [upd_ne (ne_of_none e h)]; exact x c u n e
theorem SameB.free {a : Addr} (x : SameB b H H1) (hb : a ≠ b) (h : H1 a = Option.none) : H a = Option.none := by
  cases q : H a with
  | none => rfl
  | some o => rw [x a o hb q] at h; cases h
theorem SameB.grow (x : SameB b H H1) {ys : List V} (h : H b = some (.lst ys)) : Grow H H1 :=
  ⟨fun c xs e => x c _ (ne_of e h (by intro z; cases z)) e, fun c o u e => x c _ (ne_of e h (by intro z; cases z)) e⟩
end
end L2
namespace RO
open PySem L2
theorem two_le (x y : V) : ([x, y] : List V).length ≤ sizeLine := by show 2 ≤ sizeLine; rw [sizeLine_eq]; omega
theorem at_ints {ns : List Int} {k : Int} (h0 : 0 ≤ k) (h1 : k < (ns.map V.int).length) : ∃ z, ns[k.toNat]? = some z ∧ atI (ns.map V.int) k = some (.int z) := by
  obtain ⟨x, rfl⟩ : ∃ x : Nat, k = x := ⟨k.toNat, by omega⟩
  have hx : x < ns.length := by rw [List.length_map] at h1; omega
  refine ⟨ns[x], by simp [hx], ?_⟩
  rw [at_nat (by rw [List.length_map]; exact hx), List.getElem?_map, List.getElem?_eq_getElem hx]; rfl
section
variable {P : Program} {w : World} {K : PySem.W.Frag} {mg : Str → Option Value} {base : Heap}
/-! ### the script's numbers -/
def spCell (K : PySem.W.Frag) : Sp := fun vs H Q _ => ∃ (a : Addr) (ns : List Int) (k : Int), vs = [.ref a, .int k] ∧ SqL K H a (ns.map V.int) ∧ 0 ≤ k ∧ ∀ z, Q (.int z) H
theorem scCell : FnScope ["script", "k"] ["script", "k"] (defScope sCell) := ⟨rfl, rfl, rfl, by decide +kernel, rfl, by decide +kernel, by decide +kernel⟩
theorem ok_cell {f : Addr} {fd : FuncData} (F : Fn K mg "_law_cell" sCell ["script", "k"] f fd) (B : Bt mg) : FnOk P w K mg base CX0 1 f fd ["script", "k"] (spCell K) := by
  refine F.F.ok scCell (fun vs H Q E h => ?_) (fun cdv A outer s H vs Q E hr h => ?_)
  · obtain ⟨a, ns, k, rfl, _⟩ := h; rfl
  · obtain ⟨a, ns, k, rfl, ha, h0, kk⟩ := h
    refine ⟨_, pss_cons (ps_if (pt_cmpR op_lt (pv 1) (pe_callB call_len_seq rfl B.len PySem.boot_len (pa_cons (pv 0) pa_nil)) (nomark _)) (pss_one (ps_ret (pe_ix ix_list (pv 0) (pv 1) (fun _ _ => rfl)))) pss_nil) (pss_one (ps_ret pe_int)), ?_⟩
    refine ⟨_, rfl, _, rfl, a, _, rfl, .inl ha, _, _, rfl, rfl, _, rfl, ?_⟩
    by_cases c : k < (ns.map V.int).length
    · rw [decide_eq_true c]
      obtain ⟨z, _, hz⟩ := at_ints h0 c
      exact iteT ⟨_, rfl, _, rfl, a, _, k, _, rfl, rfl, ha, hz, kk z⟩
    · rw [decide_eq_false c]
      exact iteF (kk 0)
def constsOf : List Expr → Option (List Int)
  | [] => some []
  | .Constant (.int i) _ _ :: es => (constsOf es).map fun r => i :: r
  | _ => none
theorem pa_consts {X : Cx} : ∀ {es : List Expr} {ns : List Int}, constsOf es = some ns → PA X es fun _ H Q => Q (ns.map V.int) H
  | [], ns, h => by
    have e : ns = [] := by unfold constsOf at h; exact (Option.some.inj h).symm
    subst e
    exact pa_nil
  | e :: es, ns, h => by
    unfold constsOf at h
    split at h
    · cases ‹_ :: _ = []›
    · next i a b es' heq =>
      cases heq
      cases q : constsOf es with
      | none => rw [q] at h; cases h
      | some r =>
        rw [q] at h
        have e2 : i :: r = ns := Option.some.inj h
        subst e2
        exact pa_cons pe_int (pa_consts q) rfl
    · cases h
def spMix : Sp := fun vs H Q _ => ∃ (c k : Int), vs = [.int c, .int k] ∧ ∀ H' z, Same H H' → Q (.int z) H'
theorem scMix : FnScope ["cell", "k", "some", "stir"] ["cell", "k"] (defScope sMix) := ⟨rfl, rfl, rfl, by decide +kernel, rfl, by decide +kernel, by decide +kernel⟩
def some13 : List Int := [48271, 69621, 16807, 39373, 30269, 40014, 40692, 50021, 61687, 71993, 83869, 95561, 30307]
theorem mix_split : ∃ (es : List Expr) (p1 p2 p3 : Pos), defBody sMix = .Assign [.Name "some" p1] (.List es p2) p3 :: (defBody sMix).drop 1 ∧ constsOf es = some some13 := ⟨_, _, _, _, rfl, by kernel_rfl⟩
theorem ok_mix {f : Addr} {fd : FuncData} (F : Fn K mg "_law_mix" sMix ["cell", "k"] f fd) : FnOk P w K mg base CX0 1 f fd ["cell", "k"] spMix := by
  refine F.F.ok scMix (fun vs H Q E h => ?_) (fun cdv A outer s H vs Q E hr h => ?_)
  · obtain ⟨c, k, rfl, _⟩ := h; rfl
  · obtain ⟨c, k, rfl, kk⟩ := h
    obtain ⟨es, p1, p2, p3, hb, hes⟩ := mix_split
    rw [hb]
    refine ⟨_, pss_cons (ps_set (i := 2) scMix.nd rfl (Or.inl rfl) (pe_lst (pa_consts hes)))
      (pss_cons (ps_set (i := 3) scMix.nd rfl (Or.inl rfl) (pe_op op_add (pe_op op_add (pe_op op_mul (pe_op op_add (pe_op op_mod (pv 0) pe_int) pe_int) (pe_ix ix_list (pv 2) (pe_op op_mod (pv 1) pe_int) (fun _ _ => rfl))) (pe_op op_mul pe_int (pv 1))) (pe_op op_mul pe_int (pe_op op_fdiv (pv 1) pe_int))))
      (pss_cons (ps_set (i := 3) scMix.nd rfl (Or.inl rfl) (pe_op op_mod (pv 3) pe_int))
      (pss_one (ps_ret (pe_op op_fdiv (pe_op op_mod (pe_op op_add (pe_op op_mul (pv 3) (pv 3)) (pe_op op_mul pe_int (pv 1))) pe_int) pe_int))))), ?_⟩
    refine ⟨by show 13 ≤ sizeLine; rw [sizeLine_eq]; omega, fun p hp => ?_⟩
    have m13 : (0 : Int) ≤ k % 13 := by omega
    have l13 : k % 13 < (some13.map V.int).length := by show k % 13 < 13; omega
    obtain ⟨z, _, hz⟩ := at_ints m13 l13
    have hb1 : -(2 ^ 64) < c % 2147483647 + 12345 ∧ c % 2147483647 + 12345 < 2 ^ 64 := ⟨by omega, by omega⟩
    have hc977 : ∀ j : Int, CMul 977 j := fun j => .inl ⟨by omega, by omega⟩
    have hc7919 : ∀ j : Int, CMul 7919 j := fun j => .inl ⟨by omega, by omega⟩
    have hc48271 : ∀ j : Int, CMul 48271 j := fun j => .inl ⟨by omega, by omega⟩
    have hd13 : ∀ j : Int, CDiv j 13 := fun j => ⟨by omega, by omega⟩
    have hd7 : ∀ j : Int, CDiv j 7 := fun j => ⟨by omega, by omega⟩
    have p1 : (0 : Int) < 2147483647 := by omega
    have p2 : (0 : Int) < 13 := by omega
    have p3 : (0 : Int) < 1000000007 := by omega
    refine ⟨_, rfl, _, _, rfl, rfl, p1, _, _, rfl, rfl, _, rfl, _, rfl, _, _, rfl, rfl, p2, p, _, _, _, rfl, rfl, .inl (.inl upd_same), hz, ?_⟩
    refine ⟨_, _, rfl, rfl, .inl hb1, _, rfl, _, _, rfl, rfl, hc977 _, _, _, rfl, rfl, _, rfl, _, _, rfl, rfl, hd13 _, _, _, rfl, rfl, hc7919 _, _, _, rfl, rfl, ?_⟩
    have hb3 : ∀ st : Int, -(2 ^ 64) < st % 1000000007 ∧ st % 1000000007 < 2 ^ 64 := fun st => ⟨by omega, by omega⟩
    refine ⟨_, rfl, _, _, rfl, rfl, p3, ?_⟩
    refine ⟨_, rfl, _, rfl, _, _, rfl, rfl, .inl (hb3 _), _, rfl, _, _, rfl, rfl, hc48271 _, _, _, rfl, rfl, _, _, rfl, rfl, p3, _, _, rfl, rfl, hd7 _, kk _ _ (Same.new hp)⟩
def spBox (K : PySem.W.Frag) : Sp := fun vs H Q _ => ∃ (a : Addr) (ns : List Int) (k : Int), vs = [.ref a, .int k] ∧ SqL K H a (ns.map V.int) ∧ 0 ≤ k ∧ ∀ H' b z, Same H H' → H b = none → H' b = some (.lst [.int z]) → Q (.ref b) H'
theorem scBox : FnScope ["script", "k", "cell", "number", "j"] ["script", "k"] (defScope sBox) := ⟨rfl, rfl, rfl, by decide +kernel, rfl, by decide +kernel, by decide +kernel⟩
theorem ok_box {f gc gm : Addr} {fd dc dm : FuncData} (F : Fn K mg "_law_box" sBox ["script", "k"] f fd) (Gc : Fn K mg "_law_cell" sCell ["script", "k"] gc dc) (Gm : Fn K mg "_law_mix" sMix ["cell", "k"] gm dm)
    (OC : FnOk P w K mg base CX0 1 gc dc ["script", "k"] (spCell K)) (OM' : FnOk P w K mg base CX0 1 gm dm ["cell", "k"] spMix) (B : Bt mg) : FnOk P w K mg base CX0 2 f fd ["script", "k"] (spBox K) := by
  refine F.F.ok scBox (fun vs H Q E h => ?_) (fun cdv A outer s H vs Q E hr h => ?_)
  · obtain ⟨a, ns, k, rfl, _⟩ := h; rfl
  · obtain ⟨a, ns, k, rfl, ha, h0, kk⟩ := h
    refine ⟨_, pss_cons (ps_set (i := 2) scBox.nd rfl (Or.inl rfl) (pe_call OC hr rfl Gc.mg Gc.F.kp Gc.b .nil pass0 (pa_cons (pv 0) (pa_cons (pv 1) pa_nil))))
      (pss_cons (ps_if (pt_cmpR op_eq (pe_op op_mod (pv 2) pe_int) pe_int (nomark _)) (pss_one (ps_ret (pe_lst (pa_cons (pe_op op_fdiv (pe_callB call_abs rfl B.abs (by decide +kernel) (pa_cons (pv 2) pa_nil)) pe_int) pa_nil)))) pss_nil)
      (pss_cons (ps_set (i := 3) scBox.nd rfl (Or.inl rfl) pe_int)
      (pss_cons (ps_for PassesOwn.never rfl (pi_range1 rfl B.range (pa_cons pe_int pa_nil)) (pg_name (i := 4) scBox.nd rfl (Or.inl rfl))
        (pss_one (ps_set (i := 3) scBox.nd rfl (Or.inl rfl) (pe_op op_add (pe_op op_mul (pv 3) pe_int) (pe_call OM' hr rfl Gm.mg Gm.F.kp Gm.b .nil pass0 (pa_cons (pv 2) (pa_cons (pv 4) pa_nil)))))))
      (pss_one (ps_ret (pe_lst (pa_cons (pv 3) pa_nil))))))), ?_⟩
    have one : ∀ x : V, ([x] : List V).length ≤ sizeLine := fun x => by show 1 ≤ sizeLine; rw [sizeLine_eq]; omega
    refine ⟨_, rfl, _, rfl, a, ns, k, rfl, ha, h0, fun c => ?_⟩
    refine ⟨_, rfl, _, _, rfl, rfl, (by show (0 : Int) < 2; decide), rfl, _, rfl, ?_⟩
    refine ite2 (fun _ => ?_) (fun _ => ?_)
    · exact ⟨_, rfl, c, rfl, _, _, rfl, rfl, ⟨by decide, by decide⟩, one _, fun b hb => kk _ b _ (Same.new hb) hb upd_same⟩
    · refine ⟨40, rfl, by decide, by decide, for_range (fun i σ' H' => (∃ z j, σ' = [some (.ref a), some (.int k), some (.int c), some (.int z), j]) ∧ Same H H') ⟨⟨_, _, rfl⟩, Same.refl H⟩ ?_ ?_⟩
      · rintro i σ' H' hi ⟨⟨z, j, rfl⟩, s1⟩
        exact ⟨_, rfl, _, _, rfl, rfl, .inr ⟨by decide, by decide⟩, _, rfl, _, rfl, _, _, rfl, fun H2 y s2 => ⟨_, _, rfl, rfl, ⟨_, _, rfl⟩, s1.trans s2⟩⟩
      · rintro σ' H' ⟨⟨z, j, rfl⟩, s1⟩
        exact ⟨_, rfl, one _, fun b hb => kk _ b _ (s1.trans (Same.new hb)) (s1.free hb) upd_same⟩
/-! ### taking digits -/
def spTake : Sp := fun vs H Q _ => ∃ (b : Addr) (z m : Int), vs = [.ref b, .int m] ∧ H b = some (.lst [.int z]) ∧ 0 < m ∧ m < 1073741824 ∧ ∀ H' z' d, SameB b H H' → H' b = some (.lst [.int z']) → 0 ≤ d → d < m → Q (.int d) H'
theorem scTake : FnScope ["box", "many", "left", "digit"] ["box", "many"] (defScope sTake) := ⟨rfl, rfl, rfl, by decide +kernel, rfl, by decide +kernel, by decide +kernel⟩
theorem ok_take {f : Addr} {fd : FuncData} (F : Fn K mg "_law_take" sTake ["box", "many"] f fd) (B : Bt mg) : FnOk P w K mg base CX0 1 f fd ["box", "many"] spTake := by
  refine F.F.ok scTake (fun vs H Q E h => ?_) (fun cdv A outer s H vs Q E hr h => ?_)
  · obtain ⟨b, z, m, rfl, _⟩ := h; rfl
  · obtain ⟨b, z, m, rfl, hb, h0, h1, kk⟩ := h
    refine ⟨_, pss_cons (ps_asg (pe_callB call_divmod rfl B.divmod (by decide +kernel) (pa_cons (pe_ix ix_list (pv 0) pe_int (fun _ _ => rfl)) (pa_cons (pv 1) pa_nil))) (pg_tup rfl (pgs_cons (pg_name (i := 2) scTake.nd rfl (Or.inl rfl)) (pgs_cons (pg_name (i := 3) scTake.nd rfl (Or.inl rfl)) pgs_nil))))
      (pss_cons (ps_asg (pv 2) (pg_sub (pv 0) pe_int set_list)) (pss_one (ps_ret (pv 3)))), ?_⟩
    refine ⟨_, rfl, b, _, 0, .int z, rfl, rfl, .inl (.inl hb), rfl, _, rfl, z, m, rfl, ⟨h0, h1⟩, fun p hp => g_two (.inl (.inl upd_same)) ?_⟩
    have hbp : b ≠ p := ne_of_none hb hp
    refine ⟨_, rfl, _, rfl, b, [.int z], 0, 0, rfl, rfl, by rw [upd_ne hbp]; exact hb, rfl, _, rfl, ?_⟩
    exact kk _ (z / m) _ (((SameB.refl b H).putN hp).put) upd_same (Int.emod_nonneg _ (by omega)) (Int.emod_lt_of_pos _ h0)
/-! ### mixing up -/
theorem reps_ints {H : Hp} : ∀ ns : List Int, Reps K H (ns.map V.int) (ns.map PyData.int)
  | [] => .nil
  | n :: ns => .cons (.int n) (reps_ints ns)
theorem lay_ints (ns : List Int) : PyData.canLayAll0 (ns.map PyData.int) = true := by
  induction ns with
  | nil => simp [PyData.canLayAll0]
  | cons p l ih => rw [List.map_cons, PyData.canLayAll0, PyData.canLay0, ih]; rfl
theorem depth_ints (ns : List Int) : PyData.depthAll (ns.map PyData.int) = 0 := by
  induction ns with
  | nil => simp [PyData.depthAll]
  | cons p l ih => rw [List.map_cons, PyData.depthAll, PyData.depth, ih]; rfl
theorem shaped_ints (ns : List Int) : PySem.SeqAt.shaped (.list (ns.map PyData.int)) = true := by
  unfold PySem.SeqAt.shaped; rw [PyData.canLay0, lay_ints, PyData.depth, depth_ints]; rfl
theorem map_erase {f : Int → V} : ∀ (l : List Int) (k : Nat), (l.map f).eraseIdx k = (l.eraseIdx k).map f
  | [], _ => by simp
  | _ :: _, 0 => rfl
  | _ :: l, k + 1 => by simp [map_erase l k]
theorem perm_erase {α : Type} {x : α} : ∀ {l : List α} {k : Nat}, l[k]? = some x → (x :: l.eraseIdx k).Perm l
  | [], _, h => by simp at h
  | y :: l, 0, h => by simp at h; subst h; exact .refl _
  | y :: l, k + 1, h => by
    have := perm_erase (l := l) (k := k) (by simpa using h)
    exact (List.Perm.swap y x _).trans (this.cons y)
theorem len_erase {α : Type} {x : α} {l : List α} {k : Nat} (h : l[k]? = some x) : (l.eraseIdx k).length + 1 = l.length := (perm_erase h).length_eq
def spMixed : Sp := fun vs H Q _ => ∃ (b s : Addr) (z : Int) (xs : List Int), vs = [.ref b, .ref s] ∧ H b = some (.lst [.int z]) ∧ H s = some (.lst (xs.map V.int)) ∧ xs.length ≤ 8 ∧
  ∀ (H' : Hp) (l : Addr) (ys : List Int) (z' : Int), SameB b H H' → H l = none → H' b = some (.lst [.int z']) → H' l = some (.lst (ys.map V.int)) → ys.Perm xs → Q (.ref l) H'
theorem scMixed : FnScope ["box", "some", "left", "found"] ["box", "some"] (defScope sMixedUp) := ⟨rfl, rfl, rfl, by decide +kernel, rfl, by decide +kernel, by decide +kernel⟩
theorem ok_mixed {f g : Addr} {fd dg : FuncData} (F : Fn K mg "_law_mixed_up" sMixedUp ["box", "some"] f fd) (G : Fn K mg "_law_take" sTake ["box", "many"] g dg) (OT : FnOk P w K mg base CX0 1 g dg ["box", "many"] spTake) (B : Bt mg) : FnOk P w K mg base CX0 2 f fd ["box", "some"] spMixed := by
  refine F.F.ok scMixed (fun vs H Q E h => ?_) (fun cdv A outer s H vs Q E hr h => ?_)
  · obtain ⟨b, s, z, xs, rfl, _⟩ := h; rfl
  · obtain ⟨b, s, z, xs, rfl, hb, hs, h8, kk⟩ := h
    refine ⟨_, pss_cons (ps_set (i := 2) scMixed.nd rfl (Or.inl rfl) (pe_callTy call_list_of rfl B.list (by decide +kernel) (pa_cons (pv 1) pa_nil)))
      (pss_cons (ps_set (i := 3) scMixed.nd rfl (Or.inl rfl) (pe_lst pa_nil))
      (pss_cons (ps_while PassesOwn.never (pt_cmpR (op_neD hr.units) (pv 2) (pe_lst pa_nil) (nomark _))
        (pss_one (ps_expr (pe_bm PySem.F.plainAttrs_list PySem.F.slot_list_append PySem.F.type_list_append mt_append (pv 3) (pa_cons (pe_bm PySem.F.plainAttrs_list PySem.F.slot_list_pop PySem.F.type_list_pop mt_popAt (pv 2)
          (pa_cons (pe_call OT hr rfl G.mg G.F.kp G.b .nil pass0 (pa_cons (pv 0) (pa_cons (pe_callB call_len_seq rfl B.len PySem.boot_len (pa_cons (pv 2) pa_nil)) pa_nil))) pa_nil)) pa_nil)))))
      (pss_one (ps_ret (pv 3))))), ?_⟩
    refine ⟨_, rfl, s, _, rfl, .inl (.inl (.inl hs)), fun L hL => ⟨Nat.zero_le _, fun F' hF' => ?_⟩⟩
    have hLF : F' ≠ L := by intro e; subst e; rw [upd_same] at hF'; cases hF'
    have hF : H F' = none := by rw [upd_ne hLF] at hF'; exact hF'
    have hLb : L ≠ b := (ne_of_none hb hL).symm
    have hFb : F' ≠ b := (ne_of_none hb hF).symm
    refine ⟨fun m σ' H' => ∃ (us ys : List Int) (z' : Int), m = us.length ∧ σ' = [some (.ref b), some (.ref s), some (.ref L), some (.ref F')] ∧ SameB b H H' ∧ H' b = some (.lst [.int z']) ∧ H' L = some (.lst (us.map V.int)) ∧ H' F' = some (.lst (ys.map V.int)) ∧ (ys ++ us).Perm xs,
      ⟨_, xs, [], z, rfl, rfl, ((SameB.refl b H).putN hL).putN hF, by rw [upd_ne hFb.symm, upd_ne hLb.symm]; exact hb, by rw [upd_ne hLF.symm, upd_same], upd_same, .refl _⟩, ?_⟩
    rintro m σ' H' ⟨us, ys, z', rfl, rfl, sB, hb1, hL1, hF1, pm⟩
    refine ⟨_, rfl, Nat.zero_le _, fun p hp => ?_⟩
    have nb : b ≠ p := ne_of_none hb1 hp
    have nL : L ≠ p := ne_of_none hL1 hp
    have nF : F' ≠ p := ne_of_none hF1 hp
    have hL2 : upd H' p (.lst []) L = some (.lst (us.map V.int)) := by rw [upd_ne nL]; exact hL1
    have hF2 : upd H' p (.lst []) F' = some (.lst (ys.map V.int)) := by rw [upd_ne nF]; exact hF1
    have hb2 : upd H' p (.lst []) b = some (.lst [.int z']) := by rw [upd_ne nb]; exact hb1
    have sB2 : SameB b H (upd H' p (.lst [])) := by
      refine sB.putN ?_
      exact sB.free (fun e => by subst e; exact nb rfl) hp
    refine ⟨.list (us.map PyData.int), .list [], .lst (.inl (.inl hL2)) (reps_ints us), .lst (.inl (.inl upd_same)) .nil, shaped_ints us, by decide +kernel, _, rfl, ?_⟩
    have hlen : ys.length + us.length = xs.length := by have := pm.length_eq; rw [List.length_append] at this; exact this
    cases us with
    | nil =>
      refine iteF ?_
      refine ⟨_, rfl, kk _ F' ys z' sB2 hF hb2 hF2 ?_⟩
      rw [List.append_nil] at pm
      exact pm
    | cons u us =>
      refine iteT ⟨fun σ' H' => ∃ m', m' < (u :: us).length ∧ ∃ (us ys : List Int) (z' : Int), m' = us.length ∧ σ' = [some (.ref b), some (.ref s), some (.ref L), some (.ref F')] ∧ SameB b H H' ∧ H' b = some (.lst [.int z']) ∧ H' L = some (.lst (us.map V.int)) ∧ H' F' = some (.lst (ys.map V.int)) ∧ (ys ++ us).Perm xs, fun σ2 H2 q => q, ?_⟩
      have hul : (u :: us).length ≤ 8 := by omega
      have hup : 0 < (u :: us).length := Nat.succ_pos _
      refine ⟨_, rfl, .inl ⟨rfl, _, .inl (.inl hF2)⟩, _, rfl, .inl ⟨rfl, _, .inl (.inl hL2)⟩, _, rfl, _, rfl, L, _, rfl, .inl (.inl (.inl hL2)), b, z', _, rfl, hb2, ?_, ?_, fun H3 z3 d s3 hb3 d0 d1 => ?_⟩
      · rw [List.length_map]; omega
      · rw [List.length_map]; omega
      rw [List.length_map] at d1
      obtain ⟨e, rfl⟩ : ∃ e : Nat, d = e := ⟨d.toNat, by omega⟩
      have hel : e < (u :: us).length := by omega
      have hL3 := s3 L _ hLb hL2
      have hF3 := s3 F' _ hFb hF2
      obtain ⟨x, hx⟩ : ∃ x, (u :: us)[e]? = some x := ⟨_, List.getElem?_eq_getElem hel⟩
      refine ⟨L, _, e, e, .int x, rfl, rfl, hL3, by omega, by omega, ?_, by rw [List.getElem?_map, hx]; rfl, ?_⟩
      · exact (ixN_seq (ixN_nat (by rw [List.length_map]; exact hel))).1
      have hF4 : upd H3 L (.lst (((u :: us).map V.int).eraseIdx e)) F' = some (.lst (ys.map V.int)) := by rw [upd_ne hLF]; exact hF3
      refine ⟨F', _, _, rfl, rfl, hF4, by rw [List.length_map, sizeLine_eq]; omega, _, ?_, (u :: us).eraseIdx e, ys ++ [x], z3, rfl, rfl, ?_, ?_, ?_, ?_, ?_⟩
      · have := len_erase hx; omega
      · exact ((sB2.trans s3).putN hL).putN hF
      · rw [upd_ne hFb.symm, upd_ne hLb.symm]; exact hb3
      · rw [upd_ne hLF.symm, upd_same, map_erase]
      · rw [upd_same, List.map_append]; rfl
      · rw [List.append_assoc]
        exact (List.Perm.append_left ys (perm_erase hx)).trans pm
end
end RO

end

section
set_option linter.all false
set_option maxRecDepth 100000
namespace RO
open PySem L2
section
variable {P : Program} {w : World} {K : PySem.W.Frag} {mg : Str → Option Value} {base : Heap}
/-- sorted(set(xs)) of pairs of n things -/
theorem read_ss {H : Hp} {n : Nat} {a : Addr} {xs : List V} {ps : List (Int × Int)} {Q : VK} (hq : SqL K H a xs) (hp : PairsV K H xs ps) (wn : OM.Wn n ps) (h8 : n ≤ 8) (hl : ∀ l : List (Int × Int), l.Nodup → (∀ x, x ∈ l → x ∈ ps) → l.length < 64)
    (k : ∀ H' F ws, Same H H' → H F = none → H' F = some (.lst ws) → PairsV K H' ws (OM.filt n (OM.Mem ps)) → Q (.ref F) H') : WSet P w K [.ref a] H fun x H1 => WSortSet P w K [x] H1 Q := by
  have sm := wn_small h8 wn
  refine ⟨⟨a, xs, ps, rfl, .inl hq, hp, sm, fun S qs hS hpq nd hm => ⟨⟨S, qs, rfl, upd_same, hpq.same (Same.new hS), fun p hp => sm p ((hm p).mp hp), nd, ?_, fun F ws rs hF hw hris hm' => ?_⟩⟩⟩⟩
  · have := hl (pq qs) nd fun x hx => (hm x).mp hx
    simpa using this
  · have e : rs = OM.filt n (OM.Mem ps) := OM.ris_ext hris (OM.ris_filt n _) fun p => by
      rw [hm', hm, OM.mem_filt]
      exact ⟨fun h => ⟨wn p h, h⟩, fun h => h.2⟩
    subst e
    exact k _ F ws ((Same.new hS).trans (Same.new hF)) ((Same.new hS).free hF) upd_same (hw.same (Same.new hF))
def moreT (l m : List (Int × Int)) : List (Int × Int) := m.flatMap fun p => (l.filter fun q => decide (q.1 = p.2)).map fun q => (p.1, q.2)
theorem moreT_snoc {l m : List (Int × Int)} {p : Int × Int} : moreT l (m ++ [p]) = moreT l m ++ (l.filter fun q => decide (q.1 = p.2)).map fun q => (p.1, q.2) := by
  unfold moreT; rw [List.flatMap_append, List.flatMap_singleton]
def spLClosed (K : PySem.W.Frag) : Sp := fun vs H Q _ => ∃ (n : Nat) (a : Addr) (xs : List V) (ps : List (Int × Int)), vs = [.ref a] ∧ 1 ≤ n ∧ n ≤ 8 ∧ SqL K H a xs ∧ PairsV K H xs ps ∧ OM.Wn n ps ∧ (∀ a, ¬ OM.Tr (OM.Mem ps) a a) ∧
  ∀ H' t ws, Same H H' → H t = none → H' t = some (.tup ws) → PairsV K H' ws (OM.filt n (OM.Tr (OM.Mem ps))) → Q (.ref t) H'
theorem scLClosed : FnScope ["pairs", "found", "size", "more", "a", "b"] ["pairs"] (defScope sLClosed) := ⟨rfl, rfl, rfl, by decide +kernel, rfl, by decide +kernel, by decide +kernel⟩
theorem nd_cdab : (["c", "d", "a", "b"] : List Str).Nodup := by decide +kernel
set_option maxHeartbeats 1000000 in
theorem ok_lclosed {f : Addr} {fd : FuncData} (F : Fn K mg "_law_closed" sLClosed ["pairs"] f fd) (B : Bt mg) : FnOk P w K mg base CX0 1 f fd ["pairs"] (spLClosed K) := by
  refine F.F.ok scLClosed (fun vs H Q E h => ?_) (fun cdv A outer s H vs Q E hr h => ?_)
  · obtain ⟨n, a, xs, ps, rfl, _⟩ := h; rfl
  · obtain ⟨n, a, xs, ps, rfl, h1, h8, hq, hp, wn, ac, kk⟩ := h
    refine ⟨_, pss_cons (ps_set (i := 1) scLClosed.nd rfl (Or.inl rfl) (pe_callB (call_wsortset rfl) rfl B.sorted (by decide +kernel) (pa_cons (pe_callTy (call_wset rfl hr.units) rfl B.set (by decide +kernel) (pa_cons (pv 0) pa_nil)) pa_nil)))
      (pss_cons (ps_set (i := 2) scLClosed.nd rfl (Or.inl rfl) (pe_un un_neg pe_int))
      (pss_cons (ps_while PassesOwn.never (pt_cmpR op_ne (pv 2) (pe_callB call_len_seq rfl B.len PySem.boot_len (pa_cons (pv 1) pa_nil)) (nomark _))
        (pss_cons (ps_set (i := 2) scLClosed.nd rfl (Or.inl rfl) (pe_callB call_len_seq rfl B.len PySem.boot_len (pa_cons (pv 1) pa_nil)))
        (pss_cons (ps_set (i := 3) scLClosed.nd rfl (Or.inl rfl) (pe_lst pa_nil))
        (pss_cons (ps_for PassesOwn.never rfl (pi_list (pv 1)) (pg_tup rfl (pgs_cons (pg_name (i := 4) scLClosed.nd rfl (Or.inr rfl)) (pgs_cons (pg_name (i := 5) scLClosed.nd rfl (Or.inr rfl)) pgs_nil)))
          (pss_one (ps_set (i := 3) scLClosed.nd rfl (Or.inl rfl) (pe_op op_cat (pv 3) (pe_comp (NB := ["c", "d", "a", "b"]) (own := 2) (ixs := [4, 5]) rfl (compScope (by kernel_rfl)) (pi_list (pv 1))
            (fun C ex s3 H3 pn => pg_two K 0 1 nd_cdab rfl rfl rfl rfl rfl rfl)
            (fun C ex s3 H3 pn => pts_one (pt_cmpR op_eq (pv 0) (pv 3) (nomark _))) (fun C ex s3 H3 pn => pe_tup (pa_cons (pv 2) (pa_cons (pv 1) pa_nil))))))))
        (pss_one (ps_set (i := 1) scLClosed.nd rfl (Or.inl rfl) (pe_callB (call_wsortset rfl) rfl B.sorted (by decide +kernel) (pa_cons (pe_callTy (call_wset rfl hr.units) rfl B.set (by decide +kernel) (pa_cons (pe_op op_cat (pv 1) (pv 3)) pa_nil)) pa_nil))))))))
      (pss_one (ps_ret (pe_callTy call_tuple_of rfl B.tuple (by decide +kernel) (pa_cons (pv 1) pa_nil)))))), ?_⟩
    have hO := OM.ord_of h1 h8 wn ac
    have hC := ord_len hO
    have inC : ∀ {l : List (Int × Int)}, l.Nodup → (∀ x, x ∈ l → OM.Tr (OM.Mem ps) x.1 x.2) → l.length < 64 := fun {l} nd h => by
      have := OM.len_le nd (m := OM.filt n (OM.Tr (OM.Mem ps))) fun x hx => OM.mem_filt.mpr ⟨(h x hx).wn wn, h x hx⟩
      omega
    -- found = sorted(set(pairs))
    refine ⟨_, rfl, read_ss (P := P) (w := w) hq hp wn h8 (fun l nd hl => inC nd fun x hx => .one (hl x hx)) fun H1 F0 ws0 s1 hF0 hF1 hw0 => ?_⟩
    -- while
    refine ⟨_, rfl, ?_⟩
    refine ⟨fun m σ' H' => ∃ (F : Addr) (ws : List V) (l : List (Int × Int)) (sz : Int) (mo x y : Option V), σ' = [some (.ref a), some (.ref F), some (.int sz), mo, x, y] ∧ Same H H' ∧ H' F = some (.lst ws) ∧ PairsV K H' ws l ∧ OM.Btw n ps l ∧
        (sz = l.length → l = OM.filt n (OM.Tr (OM.Mem ps))) ∧ m = (64 - l.length) + (if sz = l.length then 0 else 1),
      ⟨_, F0, ws0, OM.filt n (OM.Mem ps), -1, _, _, _, rfl, s1, hF1, hw0, OM.btw_start wn, fun e => by omega, rfl⟩, ?_⟩
    rintro m σ' H' ⟨F, ws, l, sz, mo, x, y, rfl, s2, hF, hw, Bt', fin, rfl⟩
    have hll : l.length < 64 := inC (OM.ris_nodup Bt'.ris) Bt'.sup
    have hwl := hw.len
    refine ⟨_, rfl, _, rfl, F, ws, rfl, .inl (.inl (.inl hF)), rfl, _, rfl, ?_⟩
    rw [hwl]
    by_cases c : sz = (l.length : Int)
    · -- the end
      rw [show (!decide (V.int sz = V.int (l.length : Int))) = false by rw [c]; simp]
      refine iteF ⟨_, rfl, F, ws, rfl, .inl ⟨.inl (.inl hF), fun t ht => ?_⟩⟩
      refine kk _ t ws (s2.trans (Same.new ht)) (s2.free ht) upd_same ?_
      rw [← fin c]
      exact hw.same (Same.new ht)
    rw [show (!decide (V.int sz = V.int (l.length : Int))) = true by simp [c]]
    refine iteT ⟨fun σ' H' => ∃ m', m' < (64 - l.length) + (if sz = l.length then 0 else 1) ∧ ∃ (F : Addr) (ws : List V) (l : List (Int × Int)) (sz : Int) (mo x y : Option V), σ' = [some (.ref a), some (.ref F), some (.int sz), mo, x, y] ∧ Same H H' ∧ H' F = some (.lst ws) ∧ PairsV K H' ws l ∧ OM.Btw n ps l ∧
        (sz = l.length → l = OM.filt n (OM.Tr (OM.Mem ps))) ∧ m' = (64 - l.length) + (if sz = l.length then 0 else 1), fun _ _ q => q, ?_⟩
    refine ⟨_, rfl, F, ws, rfl, .inl (.inl (.inl hF)), Nat.zero_le _, fun M0 hM0 => ?_⟩
    rw [hwl]
    have s3 : Same H' (upd H' M0 (.lst [])) := Same.new hM0
    generalize hH3 : upd H' M0 (.lst []) = H3 at s3
    have hM3 : H3 M0 = some (.lst []) := by rw [← hH3]; exact upd_same
    have hF3 := s3 _ _ hF
    -- for a, b in found
    refine ⟨_, rfl, F, rfl, ⟨ws, .inl (.inl hF3)⟩, for_list (xs := ws) (fun i σ' H'' => ∃ (M : Addr) (ms : List V) (x y : Option V), σ' = [some (.ref a), some (.ref F), some (.int (l.length : Int)), some (.ref M), x, y] ∧ Same H3 H'' ∧ H'' M = some (.lst ms) ∧ PairsV K H'' ms (moreT l (l.take i)) ∧ ms.length ≤ 64 * i)
      ⟨M0, [], x, y, rfl, Same.refl H3, hM3, .nil, Nat.zero_le _⟩ (fun i σ' H'' _ ⟨_, _, _, _, _, q, _⟩ => .inl (.inl (q _ _ hF3))) ?_ ?_⟩
    · rintro i v σ' H4 hv ⟨M, ms, x4, y4, rfl, s4, hM, hpm, hml⟩
      obtain ⟨p, hpi, b, rfl, hb⟩ := (hw.same (s3.trans s4)).at hv
      have hil : i < 64 := by
        have := (List.getElem?_eq_some_iff.mp hpi).1
        omega
      refine g_two hb ⟨_, rfl, t_comp ⟨_, rfl, F, rfl, ⟨ws, .inl (.inl (s4 _ _ hF3))⟩, fun D hD => cw_list (xs := ws) (fun j σ' H5 => (∃ x y, σ' = [x, y, some (.int p.1), some (.int p.2)]) ∧ Same H4 H5 ∧ ∃ vs, H5 D = some (.lst vs) ∧ PairsV K H5 vs (((l.take j).filter fun q => decide (q.1 = p.2)).map fun q => (p.1, q.2)))
        ⟨⟨_, _, rfl⟩, (Same.refl H4).put hD, [], upd_same, .nil⟩ (fun j σ' H5 _ q => .inl (.inl (q.2.1 _ _ (s4 _ _ hF3)))) ?_ ?_⟩⟩
      · rintro j v σ' H5 hv ⟨⟨_, _, rfl⟩, s5, vs, hvs, hpv⟩
        obtain ⟨q, hqj, b2, rfl, hb2⟩ := (hw.same ((s3.trans s4).trans s5)).at hv
        refine g_two hb2 ⟨_, rfl, _, rfl, rfl, _, rfl, ?_⟩
        by_cases c1 : q.1 = p.2
        · refine ifT (show decide (V.int q.1 = V.int p.2) = true by simp [c1]) ?_
          refine ⟨_, rfl, _, rfl, two_le _ _, fun r hr0 => ?_⟩
          have hrD : D ≠ r := ne_of_none hvs hr0
          refine ⟨vs, by rw [upd_ne hrD]; exact hvs, ?_, ⟨_, _, rfl⟩, (s5.put (s5.free hr0)).put hD, _, upd_same, ?_⟩
          · rw [hpv.len, List.length_map]
            refine Nat.lt_of_le_of_lt (List.length_filter_le ..) ?_
            rw [List.length_take, sizeLine_eq]; omega
          · rw [take_snoc hqj, List.filter_append, List.filter_cons_of_pos (by simpa using c1), List.filter_nil, List.map_append]
            have g1 : Grow H5 (upd H5 r (.tup [.int p.1, .int q.2])) := Grow.new hr0
            have g2 : ∀ o, Grow (upd H5 r (.tup [.int p.1, .int q.2])) (upd (upd H5 r (.tup [.int p.1, .int q.2])) D o) := fun o => Grow.list (by rw [upd_ne hrD]; exact hvs)
            refine PairsV.snoc (x := p.1) (y := q.2) ?_ (hpv.grow (g1.trans (g2 _)))
            exact SqT.grow (.inl (.inl upd_same)) (g2 _)
        · refine ifF (show ¬ decide (V.int q.1 = V.int p.2) = true by simp [c1]) ?_
          refine ⟨⟨_, _, rfl⟩, s5, vs, hvs, ?_⟩
          rw [take_snoc hqj, List.filter_append, List.filter_cons_of_neg (by simpa using c1), List.filter_nil, List.append_nil]
          exact hpv
      · rintro σ' H5 ⟨_, s5, vs, hvs, hpv⟩
        rw [hwl, take_all] at hpv
        have hvl : vs.length ≤ 64 := by
          rw [hpv.len, List.length_map]
          have := List.length_filter_le (fun q : Int × Int => decide (q.1 = p.2)) l
          omega
        refine ⟨⟨_, hvs⟩, M, D, ms, vs, rfl, rfl, s5 _ _ hM, hvs, by rw [sizeLine_eq]; omega, fun r hr0 => ?_⟩
        refine ⟨r, ms ++ vs, _, _, rfl, (s4.trans s5).trans (Same.new hr0), upd_same, ?_, by rw [List.length_append]; omega⟩
        rw [take_snoc hpi, moreT_snoc]
        have h1 := (hpm.same s5).same (Same.new (o := .lst (ms ++ vs)) hr0)
        have h2 := hpv.same (Same.new (o := .lst (ms ++ vs)) hr0)
        exact PairsV.cat h2 h1
    · rintro σ' H4 ⟨M, ms, x4, y4, rfl, s4, hM, hpm, hml⟩
      rw [hwl, take_all] at hpm
      have s14 := s3.trans s4
      refine ⟨_, rfl, _, rfl, F, M, ws, ms, rfl, rfl, s4 _ _ hF3, hM, by rw [sizeLine_eq]; omega, fun r hr0 => ?_⟩
      have nw := Same.new (o := .lst (ws ++ ms)) hr0
      have st := OM.btw_step Bt'
      refine read_ss (P := P) (w := w) (n := n) (ps := l ++ OM.more l) (.inl (.inl upd_same)) (PairsV.cat (hpm.same nw) ((hw.same s14).same nw)) (OM.btw_more Bt') h8 (fun l' nd hl' => inC nd fun x hx => st.1.sup x (OM.mem_filt.mpr ⟨OM.btw_more Bt' x (hl' x hx), hl' x hx⟩)) fun H6 F6 ws6 s6 hF6 hF6' hw6 => ?_
      have hle : l.length ≤ (OM.stepC n l).length := OM.len_le (OM.ris_nodup Bt'.ris) st.2
      refine ⟨_, ?_, F6, ws6, OM.stepC n l, (l.length : Int), _, _, _, rfl, s2.trans (s14.trans (nw.trans s6)), hF6', hw6, st.1, fun e => OM.btw_done Bt' (by omega), rfl⟩
      have hl2 : (OM.stepC n l).length < 64 := inC (OM.ris_nodup st.1.ris) st.1.sup
      rw [if_neg c]
      by_cases c2 : (l.length : Int) = ((OM.stepC n l).length : Int)
      · rw [if_pos c2]; omega
      · rw [if_neg c2]; omega
/-! ### the drawn order -/
def GoodP (ys : List Int) (ps : List (Int × Int)) : Prop := ∀ p, p ∈ ps → ∃ i j : Nat, i < j ∧ ys[i]? = some p.1 ∧ ys[j]? = some p.2
theorem good_wn {n : Nat} {ys : List Int} {ps : List (Int × Int)} (pm : ys.Perm ((List.range n).map fun i : Nat => (i : Int))) (g : GoodP ys ps) : OM.Wn n ps := fun p hp => by
  obtain ⟨i, j, _, h1, h2⟩ := g p hp
  have key : ∀ {x : Int}, x ∈ ys → 0 ≤ x ∧ x < n := fun {x} hx => by
    obtain ⟨k, hk, rfl⟩ := List.mem_map.mp (pm.mem_iff.mp hx)
    have := List.mem_range.mp hk
    omega
  exact ⟨key (List.mem_of_getElem? h1), key (List.mem_of_getElem? h2)⟩
theorem names_nd {n : Nat} {ys : List Int} (pm : ys.Perm ((List.range n).map fun i : Nat => (i : Int))) : ys.Nodup := by
  refine pm.nodup_iff.mpr ?_
  rw [List.nodup_iff_pairwise_ne]
  exact List.pairwise_map.mpr ((List.nodup_iff_pairwise_ne.mp List.nodup_range).imp fun {a b} h e => h (by omega))
theorem good_tr {ys : List Int} {ps : List (Int × Int)} (nd : ys.Nodup) (g : GoodP ys ps) {a b : Int} (h : OM.Tr (OM.Mem ps) a b) : ∃ i j : Nat, i < j ∧ ys[i]? = some a ∧ ys[j]? = some b := by
  induction h with
  | one r => exact g _ r
  | more r _ ih =>
    obtain ⟨i, j, h1, h2, h3⟩ := g _ r
    obtain ⟨j', k, h4, h5, h6⟩ := ih
    have e : j = j' := (List.getElem?_inj (List.getElem?_eq_some_iff.mp h3).1 nd).mp (by rw [h3, h5])
    exact ⟨i, k, by omega, h2, h6⟩
theorem good_ac {ys : List Int} {ps : List (Int × Int)} (nd : ys.Nodup) (g : GoodP ys ps) (a : Int) : ¬ OM.Tr (OM.Mem ps) a a := fun h => by
  obtain ⟨i, j, h1, h2, h3⟩ := good_tr nd g h
  have e : i = j := (List.getElem?_inj (List.getElem?_eq_some_iff.mp h2).1 nd).mp (by rw [h2, h3])
  omega
def spLOrder (K : PySem.W.Frag) : Sp := fun vs H Q _ => ∃ (b : Addr) (z : Int), vs = [.ref b, .int 8] ∧ H b = some (.lst [.int z]) ∧ ∀ H' o n l, SameB b H H' → H o = none → OrdAt K H' o n l → OM.Ord n l → Q (.ref o) H'
theorem scLOrder : FnScope ["box", "most", "many", "names", "thin", "pairs", "i", "j"] ["box", "most"] (defScope sLOrder) := ⟨rfl, rfl, rfl, by decide +kernel, rfl, by decide +kernel, by decide +kernel⟩
set_option maxHeartbeats 1000000 in
theorem ok_lorder {f gt gm gc : Addr} {fd dt dm dc : FuncData} (F : Fn K mg "_law_order" sLOrder ["box", "most"] f fd) (Gt : Fn K mg "_law_take" sTake ["box", "many"] gt dt) (Gm : Fn K mg "_law_mixed_up" sMixedUp ["box", "some"] gm dm) (Gc : Fn K mg "_law_closed" sLClosed ["pairs"] gc dc)
    (OT : FnOk P w K mg base CX0 1 gt dt ["box", "many"] spTake) (OX : FnOk P w K mg base CX0 2 gm dm ["box", "some"] spMixed) (OC : FnOk P w K mg base CX0 1 gc dc ["pairs"] (spLClosed K)) (B : Bt mg) : FnOk P w K mg base CX0 3 f fd ["box", "most"] (spLOrder K) := by
  refine F.F.ok scLOrder (fun vs H Q E h => ?_) (fun cdv A outer s H vs Q E hr h => ?_)
  · obtain ⟨b, z, rfl, _⟩ := h; rfl
  · obtain ⟨b, z, rfl, hb, kk⟩ := h
    have hr1 : Room 1 _ := hr.mono (by decide)
    refine ⟨_, pss_cons (ps_set (i := 2) scLOrder.nd rfl (Or.inl rfl) (pe_op op_add pe_int (pe_call OT hr1 rfl Gt.mg Gt.F.kp Gt.b .nil pass0 (pa_cons (pv 0) (pa_cons (pv 1) pa_nil)))))
      (pss_cons (ps_set (i := 3) scLOrder.nd rfl (Or.inl rfl) (pe_call OX hr rfl Gm.mg Gm.F.kp Gm.b .nil pass0 (pa_cons (pv 0) (pa_cons (pe_callTy (call_list_rng rfl) rfl B.list (by decide +kernel) (pa_cons (pe_callTy call_rng rfl B.range (by decide +kernel) (pa_cons (pv 2) pa_nil)) pa_nil)) pa_nil))))
      (pss_cons (ps_set (i := 4) scLOrder.nd rfl (Or.inl rfl) (pe_ix ix_list (pe_lst (pa_cons pe_int (pa_cons pe_int (pa_cons pe_int (pa_cons pe_int pa_nil))))) (pe_call OT hr1 rfl Gt.mg Gt.F.kp Gt.b .nil pass0 (pa_cons (pv 0) (pa_cons pe_int pa_nil))) (fun _ _ => rfl)))
      (pss_cons (ps_set (i := 5) scLOrder.nd rfl (Or.inl rfl) (pe_lst pa_nil))
      (pss_cons (ps_for PassesOwn.never rfl (pi_range1 rfl B.range (pa_cons (pv 2) pa_nil)) (pg_name (i := 6) scLOrder.nd rfl (Or.inl rfl))
        (pss_one (ps_for PassesOwn.never rfl (pi_range2 rfl B.range (pa_cons (pe_op op_add (pv 6) pe_int) (pa_cons (pv 2) pa_nil))) (pg_name (i := 7) scLOrder.nd rfl (Or.inl rfl))
          (pss_one (ps_if (pt_cmpR op_eq (pe_call OT hr1 rfl Gt.mg Gt.F.kp Gt.b .nil pass0 (pa_cons (pv 0) (pa_cons (pv 4) pa_nil))) pe_int (nomark _))
            (pss_one (ps_expr (pe_bm PySem.F.plainAttrs_list PySem.F.slot_list_append PySem.F.type_list_append mt_append (pv 5) (pa_cons (pe_tup (pa_cons (pe_ix ix_list (pv 3) (pv 6) (fun _ _ => rfl)) (pa_cons (pe_ix ix_list (pv 3) (pv 7) (fun _ _ => rfl)) pa_nil))) pa_nil)))) pss_nil)))))
      (pss_one (ps_ret (pe_tup (pa_cons (pv 2) (pa_cons (pe_call OC hr1 rfl Gc.mg Gc.F.kp Gc.b .nil pass0 (pa_cons (pv 5) pa_nil)) pa_nil))))))))), ?_⟩
    -- many
    refine ⟨_, rfl, _, rfl, b, z, 8, rfl, hb, by decide, by decide, fun H1 z1 d s1 hb1 d0 d1 => ⟨_, _, rfl, rfl, ?_⟩⟩
    obtain ⟨n, hn⟩ : ∃ n : Nat, 1 + d = n := ⟨(1 + d).toNat, by omega⟩
    dsimp only
    rw [hn]
    have n1 : 1 ≤ n := by omega
    have n8 : n ≤ 8 := by omega
    -- names
    refine ⟨_, rfl, _, rfl, n, rfl, fun p hp => ⟨p, n, rfl, upd_same, by omega, by omega, fun L hL => ?_⟩⟩
    have e1 : ((List.range (n : Int).toNat).map fun i : Nat => V.int (i : Int)) = (((List.range n).map fun i : Nat => (i : Int)).map V.int) := by rw [Int.toNat_natCast, List.map_map]; rfl
    rw [e1]
    have s2 : Same H1 (upd H1 p (.rng 0 n)) := Same.new hp
    have s3 : Same (upd H1 p (.rng 0 n)) (upd (upd H1 p (.rng 0 n)) L (.lst (((List.range n).map fun i : Nat => (i : Int)).map V.int))) := Same.new hL
    refine ⟨b, L, z1, _, rfl, s3 _ _ (s2 _ _ hb1), upd_same, by rw [List.length_map, List.length_range]; exact n8, fun H2 Nm ys z2 s4 hNm0 hb2 hNm pm => ?_⟩
    have sA : SameB b H H2 := s1.trans (((s2.trans s3).sameB).trans s4)
    have hNmb : Nm ≠ b := (ne_of_none (s3 _ _ (s2 _ _ hb1)) hNm0).symm
    have hNmH : H Nm = none := (s1.trans (s2.trans s3).sameB).free hNmb hNm0
    -- thin
    refine ⟨by show 4 ≤ sizeLine; rw [sizeLine_eq]; omega, fun T4 hT4 => ⟨_, rfl, b, z2, 4, rfl, ?_, by decide, by decide, fun H3 z3 d3 s5 hb3 d30 d31 => ?_⟩⟩
    · exact (Same.new hT4) _ _ hb2
    have hT4b : T4 ≠ b := (ne_of_none hb2 hT4).symm
    obtain ⟨th, hth, hat⟩ := at_ints (ns := [2, 3, 4, 7]) d30 d31
    have hthp : 0 < th ∧ th < 1073741824 := by
      have := List.mem_of_getElem? hth
      simp at this
      omega
    refine ⟨T4, _, d3, _, rfl, rfl, .inl (.inl (s5 T4 _ hT4b upd_same)), hat, ?_⟩
    have sC : SameB b H H3 := sA.trans ((Same.new hT4).sameB.trans s5)
    have hNm3 : H3 Nm = some (.lst (ys.map V.int)) := s5 Nm _ hNmb ((Same.new hT4) _ _ hNm)
    -- pairs
    refine ⟨Nat.zero_le _, fun Pp hPp => ?_⟩
    have hPb : Pp ≠ b := (ne_of_none hb3 hPp).symm
    have hPH : H Pp = none := sC.free hPb hPp
    have hPN : Pp ≠ Nm := (ne_of_none hNm3 hPp).symm
    have hyl : ys.length = n := by rw [pm.length_eq, List.length_map, List.length_range]
    have nd := names_nd pm
    have name : ∀ {i : Nat}, i < n → ∃ x, ys[i]? = some x ∧ atI (ys.map V.int) (i : Int) = some (.int x) := fun {i} hi => by
      obtain ⟨x, h1, h2⟩ := at_ints (ns := ys) (k := (i : Int)) (by omega) (by rw [List.length_map]; omega)
      exact ⟨x, by simpa using h1, h2⟩
    refine ⟨_, rfl, n, rfl, by omega, by omega, ?_⟩
    rw [Int.toNat_natCast]
    refine for_range (fun i σ' H' => ∃ (x y : Option V) (z : Int) (vs : List V) (ps : List (Int × Int)), σ' = [some (.ref b), some (.int 8), some (.int n), some (.ref Nm), some (.int th), some (.ref Pp), x, y] ∧ SameB b H H' ∧ H' b = some (.lst [.int z]) ∧ H' Nm = some (.lst (ys.map V.int)) ∧ H' Pp = some (.lst vs) ∧ PairsV K H' vs ps ∧ GoodP ys ps ∧ ps.length ≤ 8 * i)
      ⟨_, _, z3, [], [], rfl, sC.putN hPH, by rw [upd_ne hPb.symm]; exact hb3, by rw [upd_ne hPN.symm]; exact hNm3, upd_same, .nil, fun p hp => absurd hp (by simp), Nat.zero_le _⟩ ?_ ?_
    · rintro i σ' H4 hi ⟨x, y, z4, vs, ps, rfl, s6, hb4, hN4, hP4, hpv, gp, hpl⟩
      rw [Int.zero_add]
      refine ⟨_, rfl, _, _, rfl, rfl, _, rfl, _, _, rfl, ⟨by omega, by omega, by omega, by omega⟩, ?_⟩
      have e2 : ((n : Int) - ((i : Int) + 1)).toNat = n - (i + 1) := by omega
      rw [e2]
      refine for_range (fun j σ' H' => ∃ (y : Option V) (z : Int) (vs : List V) (ps : List (Int × Int)), σ' = [some (.ref b), some (.int 8), some (.int n), some (.ref Nm), some (.int th), some (.ref Pp), some (.int i), y] ∧ SameB b H H' ∧ H' b = some (.lst [.int z]) ∧ H' Nm = some (.lst (ys.map V.int)) ∧ H' Pp = some (.lst vs) ∧ PairsV K H' vs ps ∧ GoodP ys ps ∧ ps.length ≤ 8 * i + j)
        ⟨_, z4, vs, ps, rfl, s6, hb4, hN4, hP4, hpv, gp, hpl⟩ ?_ ?_
      · rintro j σ' H5 hj ⟨y, z5, vs, ps, rfl, s7, hb5, hN5, hP5, hpv, gp, hpl⟩
        have e3 : (i : Int) + 1 + (j : Int) = ((i + 1 + j : Nat) : Int) := by omega
        rw [e3]
        refine ⟨_, rfl, _, rfl, b, z5, th, rfl, hb5, hthp.1, hthp.2, fun H6 z6 d6 s8 hb6 d60 d61 => ⟨rfl, _, rfl, ?_⟩⟩
        have hN6 := s8 _ _ hNmb hN5
        have hP6 := s8 _ _ hPb hP5
        have hpv6 := hpv.grow (s8.grow hb5)
        refine ite2 (fun _ => ?_) (fun _ => ?_)
        · obtain ⟨x1, hx1, ha1⟩ := name (i := i) hi
          obtain ⟨x2, hx2, ha2⟩ := name (i := i + 1 + j) (by omega)
          refine ⟨_, rfl, .inl ⟨rfl, _, .inl (.inl hP6)⟩, _, rfl, _, rfl, Nm, _, _, _, rfl, rfl, .inl (.inl hN6), ha1, _, rfl, _, rfl, Nm, _, _, _, rfl, rfl, .inl (.inl hN6), ha2, two_le _ _, fun q hq => ?_⟩
          have hPq : Pp ≠ q := ne_of_none hP6 hq
          have hNq : Nm ≠ q := ne_of_none hN6 hq
          have hbq : b ≠ q := ne_of_none hb6 hq
          have hP7 : upd H6 q (.tup [.int x1, .int x2]) Pp = some (.lst vs) := by rw [upd_ne hPq]; exact hP6
          have hvl := hpv.len
          refine ⟨Pp, vs, _, rfl, rfl, hP7, by rw [sizeLine_eq]; omega, _, z6, vs ++ [.ref q], ps ++ [(x1, x2)], rfl, ?_, ?_, ?_, upd_same, ?_, ?_, ?_⟩
          · exact ((s7.trans s8).putN ((s7.trans s8).free (fun e => by subst e; exact hbq rfl) hq)).putN hPH
          · rw [upd_ne hPb.symm, upd_ne hbq]; exact hb6
          · rw [upd_ne hPN.symm, upd_ne hNq]; exact hN6
          · have g1 : Grow H6 (upd H6 q (.tup [.int x1, .int x2])) := Grow.new hq
            have g2 : ∀ o, Grow (upd H6 q (.tup [.int x1, .int x2])) (upd (upd H6 q (.tup [.int x1, .int x2])) Pp o) := fun o => Grow.list hP7
            refine PairsV.snoc ?_ (hpv6.grow (g1.trans (g2 _)))
            exact SqT.grow (.inl (.inl upd_same)) (g2 _)
          · intro p hp
            rcases List.mem_append.mp hp with h | h
            · exact gp p h
            · have e := List.mem_singleton.mp h
              subst e
              exact ⟨i, i + 1 + j, by omega, hx1, hx2⟩
          · rw [List.length_append]; simp; omega
        · exact ⟨_, z6, vs, ps, rfl, s7.trans s8, hb6, hN6, hP6, hpv6, gp, by omega⟩
      · rintro σ' H5 ⟨y, z5, vs, ps, rfl, s7, hb5, hN5, hP5, hpv, gp, hpl⟩
        exact ⟨_, _, z5, vs, ps, rfl, s7, hb5, hN5, hP5, hpv, gp, by omega⟩
    · rintro σ' H4 ⟨x, y, z4, vs, ps, rfl, s6, hb4, hN4, hP4, hpv, gp, hpl⟩
      have wn := good_wn pm gp
      have ac := good_ac nd gp
      refine ⟨_, rfl, _, rfl, n, Pp, vs, ps, rfl, n1, n8, .inl (.inl hP4), hpv, wn, ac, fun H5 t ws s7 ht ht5 hp5 => ⟨two_le _ _, fun o ho => ?_⟩⟩
      have hob : o ≠ b := (ne_of_none (s7 _ _ hb4) ho).symm
      have nw := Same.new (o := .tup [.int n, .ref t]) ho
      exact kk _ o n _ (s6.trans (s7.trans nw).sameB) ((s6.trans s7.sameB).free hob ho) ⟨t, ws, .inl (.inl upd_same), .inl (.inl (nw _ _ ht5)), hp5.same nw⟩ (OM.ord_of n1 n8 wn ac)
end
end RO

end

section
set_option linter.all false
set_option maxRecDepth 100000
namespace RO
open PySem L2
/-! ### texts of pairs -/
theorem shown6 : ∀ p ∈ L2.ST.smalls, (pd p).shown.length = 6 ∧ (pd p).showable = true := by decide +kernel
theorem shown1 : ∀ n ∈ List.range 9, (PyData.int (n : Nat)).shown.length = 1 ∧ (PyData.int (n : Nat)).showable = true := by decide +kernel
theorem tf_len {c : Nat} : ∀ (ts : List Str) (k : Nat) (acc : Str), (∀ t ∈ ts, t.length + 2 ≤ c) → (textFrom k acc ts).length ≤ acc.length + c * ts.length
  | [], k, acc, _ => by show acc.length ≤ _; omega
  | t :: r, k, acc, h => by
    have ih := tf_len r (k + 1) (acc ++ (if k > 0 then ", " else "" : String) ++ t) fun u hu => h u (List.mem_cons_of_mem _ hu)
    have e : (acc ++ (if k > 0 then ", " else "" : String) ++ t).length = acc.length + (if k > 0 then 2 else 0) + t.length := by
      rw [strLen_append, strLen_append]
      split <;> rfl
    rw [e] at ih
    have ht := h t (List.mem_cons_self ..)
    show (textFrom (k + 1) _ r).length ≤ _
    have e2 : c * (t :: r).length = c * r.length + c := by rw [List.length_cons, Nat.mul_succ]
    rw [e2]
    have : (if k > 0 then 2 else 0 : Nat) ≤ 2 := by split <;> omega
    omega
theorem tt_len (ts : List Str) : (tupleText ts).length ≤ piled ts + 3 := by
  unfold tupleText
  rw [strLen_append, strLen_append]
  have e1 : ((("(" : String) : Str)).length = 1 := rfl
  have e3 : (((if ts.length == 1 then ",)" else ")" : String) : Str)).length ≤ 2 := by split <;> decide
  rw [e1]
  by_cases h : ts = []
  · subst h
    have : (Str.join ", " []).length = 0 := rfl
    omega
  · have := join_length_add ts h
    omega
theorem shownAll_map (l : List (Int × Int)) : PyData.shownAll (l.map pd) = l.map fun p => (pd p).shown := by
  induction l with
  | nil => simp [PyData.shownAll]
  | cons p l ih => rw [List.map_cons, PyData.shownAll, ih]; rfl
theorem showAll_map {l : List (Int × Int)} (h : ∀ p, p ∈ l → Sm p) : PyData.showableAll (l.map pd) = true := by
  induction l with
  | nil => simp [PyData.showableAll]
  | cons p l ih => rw [List.map_cons, PyData.showableAll, (shown6 p (L2.ST.mem_smalls (h p (List.mem_cons_self ..)))).2, ih fun q hq => h q (List.mem_cons_of_mem _ hq)]; rfl
theorem piled_map {l : List (Int × Int)} (h : ∀ p, p ∈ l → Sm p) : piled (l.map fun p => (pd p).shown) = 8 * l.length := by
  induction l with
  | nil => rfl
  | cons p l ih => rw [List.map_cons, piled_cons, (shown6 p (L2.ST.mem_smalls (h p (List.mem_cons_self ..)))).1, ih fun q hq => h q (List.mem_cons_of_mem _ hq), List.length_cons]; omega
section
variable {K : PySem.W.Frag} {H : Hp} {Q : VK}
theorem repr_list {a : Addr} {vs : List V} {l : List (Int × Int)} (h : SqL K H a vs) (hp : PairsV K H vs l) (hl : l.length < 64) (hs : ∀ p, p ∈ l → Sm p) (q : Q (.str (PyData.shown (.list (l.map pd)))) H) : WRepr K [.ref a] H Q := by
  refine ⟨⟨a, .list (l.map pd), rfl, .lst h (pairs_rep hp), ?_, ?_, ?_, ?_, q⟩⟩
  · rw [PyData.showable]; exact showAll_map hs
  · exact PyData.hasDict_of_canLay _ (by rw [PyData.canLay0]; exact lay_ps l)
  · have := depth_ps l
    rw [PyData.depth]; omega
  · rw [PyData.shown, shownAll_map]
    unfold listText
    rw [strLen_append]
    have := tf_len (c := 8) (l.map fun p => (pd p).shown) 0 "[" fun t ht => by
      obtain ⟨p, hp, rfl⟩ := List.mem_map.mp ht
      rw [(shown6 p (L2.ST.mem_smalls (hs p hp))).1]; omega
    rw [List.length_map] at this
    have e1 : ((("[" : String) : Str)).length = 1 := rfl
    have e2 : ((("]" : String) : Str)).length = 1 := rfl
    rw [e1] at this
    rw [e2, sizeLine_eq]; omega
theorem repr_ord {o : Addr} {n : Nat} {l : List (Int × Int)} (h : OrdAt K H o n l) (h8 : n ≤ 8) (hl : l.length < 64) (hs : ∀ p, p ∈ l → Sm p) (q : Q (.str (PyData.shown (.tuple [.int n, .tuple (l.map pd)]))) H) : WRepr K [.ref o] H Q := by
  have hn := shown1 n (List.mem_range.mpr (by omega))
  refine ⟨⟨o, _, rfl, h.rep, ?_, ?_, ?_, ?_, q⟩⟩
  · rw [PyData.showable, PyData.showableAll, PyData.showableAll, PyData.showableAll, hn.2, PyData.showable, showAll_map hs]; rfl
  · exact PyData.hasDict_of_canLay _ (by simp only [PyData.canLay0, PyData.canLayAll0, lay_ps]; rfl)
  · have := depth_ps l
    simp only [PyData.depth, PyData.depthAll]; omega
  · rw [PyData.shown, PyData.shownAll, PyData.shownAll, PyData.shownAll, PyData.shown.eq_def (.tuple (l.map pd))]
    simp only []
    rw [shownAll_map]
    have h1 := tt_len (l.map fun p => (pd p).shown)
    rw [piled_map hs] at h1
    have h2 := tt_len [(PyData.int n).shown, tupleText (l.map fun p => (pd p).shown)]
    rw [piled_cons, piled_cons, piled_nil, hn.1] at h2
    rw [sizeLine_eq]; omega
end
theorem neR {d : PyData} (h : d.canLay0 = true) : (if true = true then !PyData.eqv d d else PyData.eqv d d) = false := by
  rw [if_pos rfl, PySem.SeqAt.eqv_refl d h]; rfl
theorem lay_o (n : Int) (l : List (Int × Int)) : (PyData.tuple [.int n, .tuple (l.map pd)]).canLay0 = true := by
  simp only [PyData.canLay0, PyData.canLayAll0, lay_ps]; rfl
theorem str_ne (x : Str) : (!decide (V.str x = V.str x)) = false := by simp
theorem nx_iff {n : Nat} {l : List (Int × Int)} {p : Int × Int} (w : OM.Wn n l) : (List.range n).filter (btwB l p.1 p.2) = [] ↔ OM.isNext l p := by
  have key := btw_any (a := p.1) (b := p.2) w
  rw [List.any_map, List.any_eq_true] at key
  rw [List.filter_eq_nil_iff]
  constructor
  · intro h c hc
    obtain ⟨x, hx, hb⟩ := key.mpr ⟨c, hc⟩
    exact h x hx hb
  · intro h x hx hb
    obtain ⟨c, hc⟩ := key.mp ⟨x, hx, hb⟩
    exact h c hc
theorem eqv_nil (cs : List Int) : PyData.eqv (.list (cs.map PyData.int)) (.list []) = decide (cs = []) := by
  cases cs with
  | nil => simp [PyData.eqv, PyData.eqvAll]
  | cons c cs => simp [PyData.eqv, PyData.eqvAll]
end RO

end

section
set_option linter.all false
set_option maxRecDepth 100000
namespace RO
open PySem L2
/-! ### words -/
def sg (a : Int) : Str := Str.ofString (toString a)
def word (p : Int × Int) : Str := sg p.1 ++ Str.ofString "<" ++ sg p.2
def blank : Str := Str.ofString " "
def chr (c : Option Nat) : Option Str := c.map fun c => ⟨#[c]⟩
theorem fig_all : ∀ n ∈ List.range 9, (sg (n : Nat)).length = 1 ∧ Txt.find (Str.ofString "0123456789") (sg (n : Nat)) = (n : Nat) ∧ (sg (n : Nat)).cps.toList.contains 32 = false ∧ ((n : Nat) : Int).natAbs.log2 < 1920 := by decide +kernel
theorem word_all : ∀ p ∈ L2.ST.smalls, (word p).length = 3 ∧ chr (atI (word p).cps.toList 0) = some (sg p.1) ∧ chr (atI (word p).cps.toList 1) = some (Str.ofString "<") ∧ chr (atI (word p).cps.toList 2) = some (sg p.2) ∧ (word p).cps.toList.contains 32 = false := by decide +kernel
theorem fig_at {a : Int} (h0 : 0 ≤ a) (h9 : a < 9) : (sg a).length = 1 ∧ Txt.find (Str.ofString "0123456789") (sg a) = a ∧ 32 ∉ (sg a).cps.toList ∧ a.natAbs.log2 < 1920 := by
  obtain ⟨n, rfl⟩ : ∃ n : Nat, a = n := ⟨a.toNat, by omega⟩
  obtain ⟨h1, h2, h3, h4⟩ := fig_all n (List.mem_range.mpr (by omega))
  exact ⟨h1, h2, fun z => by simp at h3; exact h3 (by simpa using z), h4⟩
theorem chr_some {c : Option Nat} {x : Str} (h : chr c = some x) : ∃ k, c = some k ∧ (⟨#[k]⟩ : Str) = x := by
  cases c with
  | none => cases h
  | some k => exact ⟨k, rfl, Option.some.inj h⟩
theorem word_free {p : Int × Int} (h : Sm p) : 32 ∉ (word p).cps.toList := fun z => by
  have := (word_all p (L2.ST.mem_smalls h)).2.2.2.2
  simp at this
  exact this (by simpa using z)
theorem word_len {p : Int × Int} (h : Sm p) : (word p).length = 3 := (word_all p (L2.ST.mem_smalls h)).1
theorem blank_eq : blank = ⟨#[32]⟩ := by decide
/-! ### split undoes join -/
theorem sep_inj {c : Nat} : ∀ {a b x y : List Nat}, c ∉ a → c ∉ b → a ++ c :: x = b ++ c :: y → a = b ∧ x = y
  | [], [], x, y, _, _, h => by simp at h; exact ⟨rfl, h⟩
  | [], b :: bs, x, y, _, hb, h => by
    simp at h
    exact absurd (List.mem_cons.mpr (.inl h.1)) hb
  | a :: as, [], x, y, ha, _, h => by
    simp at h
    exact absurd (List.mem_cons.mpr (.inl h.1.symm)) ha
  | a :: as, b :: bs, x, y, ha, hb, h => by
    simp at h
    obtain ⟨e1, e2⟩ := sep_inj (a := as) (b := bs) (fun z => ha (List.mem_cons_of_mem _ z)) (fun z => hb (List.mem_cons_of_mem _ z)) h.2
    exact ⟨by rw [h.1, e1], e2⟩
theorem join_list2 (c : Nat) (a b : Str) (r : List Str) : (Str.join ⟨#[c]⟩ (a :: b :: r)).cps.toList = a.cps.toList ++ c :: (Str.join ⟨#[c]⟩ (b :: r)).cps.toList := by
  show (a ++ ⟨#[c]⟩ ++ Str.join ⟨#[c]⟩ (b :: r)).cps.toList = _
  rw [Str.cps_append, Str.cps_append]
  simp
theorem str_ext {a b : Str} (h : a.cps.toList = b.cps.toList) : a = b := Str.ext' (Array.toList_inj.mp h)
theorem join_inj {c : Nat} : ∀ {A B : List Str}, A ≠ [] → B ≠ [] → (∀ a ∈ A, c ∉ a.cps.toList) → (∀ b ∈ B, c ∉ b.cps.toList) → Str.join ⟨#[c]⟩ A = Str.join ⟨#[c]⟩ B → A = B
  | [], _, h, _, _, _, _ => absurd rfl h
  | _, [], _, h, _, _, _ => absurd rfl h
  | [a], [b], _, _, _, _, h => by
    have e : a = b := h
    rw [e]
  | [a], b :: b2 :: r, _, _, ha, _, h => by
    have e : a.cps.toList = b.cps.toList ++ c :: (Str.join ⟨#[c]⟩ (b2 :: r)).cps.toList := by
      rw [← join_list2, ← h]; rfl
    exact absurd (by rw [e]; simp) (ha a (List.mem_cons_self ..))
  | a :: a2 :: r, [b], _, _, _, hb, h => by
    have e : b.cps.toList = a.cps.toList ++ c :: (Str.join ⟨#[c]⟩ (a2 :: r)).cps.toList := by
      rw [← join_list2, h]; rfl
    exact absurd (by rw [e]; simp) (hb b (List.mem_cons_self ..))
  | a :: a2 :: r, b :: b2 :: q, _, _, ha, hb, h => by
    have e := congrArg (fun x : Str => x.cps.toList) h
    simp only [join_list2] at e
    obtain ⟨e1, e2⟩ := sep_inj (ha a (List.mem_cons_self ..)) (hb b (List.mem_cons_self ..)) e
    have := join_inj (A := a2 :: r) (B := b2 :: q) (by simp) (by simp) (fun x hx => ha x (List.mem_cons_of_mem _ hx)) (fun x hx => hb x (List.mem_cons_of_mem _ hx)) (str_ext e2)
    rw [str_ext e1, this]
theorem split_join {ws : List Str} (h : ws ≠ []) (hw : ∀ w ∈ ws, 32 ∉ w.cps.toList) : Txt.split (Str.join blank ws) blank = ws := by
  rw [blank_eq]
  refine join_inj (c := 32) ?_ h (StrLaws.split_free _ 32) hw (StrLaws.join_split _ _)
  intro z
  have := PyProof.Rows.split_pos (Str.join ⟨#[32]⟩ ws) ⟨#[32]⟩
  rw [z] at this
  simp at this
/-- the text of an order -/
def wordsOf (n : Nat) (ps : List (Int × Int)) : List Str := sg n :: ps.map word
def textOf (n : Nat) (ps : List (Int × Int)) : Str := Str.join blank (wordsOf n ps)
theorem words_free {n : Nat} {ps : List (Int × Int)} (h8 : n ≤ 8) (hs : ∀ p, p ∈ ps → Sm p) : ∀ w ∈ wordsOf n ps, 32 ∉ w.cps.toList := fun w hw => by
  rcases List.mem_cons.mp hw with e | e
  · subst e; exact (fig_at (a := (n : Int)) (by omega) (by omega)).2.2.1
  · obtain ⟨p, hp, rfl⟩ := List.mem_map.mp e
    exact word_free (hs p hp)
theorem text_split {n : Nat} {ps : List (Int × Int)} (h8 : n ≤ 8) (hs : ∀ p, p ∈ ps → Sm p) : Txt.split (textOf n ps) blank = wordsOf n ps := split_join (by unfold wordsOf; simp) (words_free h8 hs)
theorem words_sum {n : Nat} {ps : List (Int × Int)} (h8 : n ≤ 8) (hs : ∀ p, p ∈ ps → Sm p) : ((wordsOf n ps).map (·.length)).sum = 1 + 3 * ps.length := by
  have key : ((ps.map word).map (·.length)).sum = 3 * ps.length := by
    induction ps with
    | nil => rfl
    | cons p ps ih =>
      rw [List.map_cons, List.map_cons, List.sum_cons, ih (fun q hq => hs q (List.mem_cons_of_mem _ hq)), word_len (hs p (List.mem_cons_self ..)), List.length_cons]
      omega
  unfold wordsOf
  rw [List.map_cons, List.sum_cons, key, (fig_at (a := (n : Int)) (by omega) (by omega)).1]
theorem text_len {n : Nat} {ps : List (Int × Int)} (h8 : n ≤ 8) (hs : ∀ p, p ∈ ps → Sm p) (hl : ps.length < 64) : (textOf n ps).length ≤ 100000 := by
  have h := StrLaws.join_length_le blank (wordsOf n ps)
  rw [words_sum h8 hs] at h
  have e : blank.length = 1 := rfl
  have e2 : (wordsOf n ps).length = ps.length + 1 := by unfold wordsOf; simp
  rw [e, e2] at h
  unfold textOf
  omega
end RO

end

section
set_option linter.all false
set_option maxRecDepth 100000
namespace RO
open PySem L2
section
variable {X : Cx}
/-- x = [..], x a plain local -/
theorem ps_comp {NB : List Str} {own : Nat} {ixs : List Nat} {scope : Scope} {tg iter elt : Expr} {ifs : List Expr} {wi : TI} {g : TG} {tt : TT} {te : TE} {pos : Pos} {i : Nat} {y : Str} {py spos : Pos} (hc : X.calm = true) (S : CompScope X NB own ixs scope) (hi : PI X tg iter wi)
    (hg : ∀ C ex s3 H3 pn, PG (blk X NB scope C ex s3 H3 pn) tg g) (ht : ∀ C ex s3 H3 pn, PTs (blk X NB scope C ex s3 H3 pn) ifs tt) (he : ∀ C ex s3 H3 pn, PE (blk X NB scope C ex s3 H3 pn) elt te)
    (hN : X.N.Nodup) (hy : X.N[i]? = some y) (hl : X.env.scope.names.lookup y = some .local)
    (hsw : swapsWith (.ListComp elt [⟨tg, iter, ifs, 0⟩] scope pos) (some (.Name y py)) spos.line X.env = pure true) (hs : ∀ x, foldedSetIterable iter X.env x = pure x := by intro _; rfl) :
    PS X (.Assign [.Name y py] (.ListComp elt [⟨tg, iter, ifs, 0⟩] scope pos) spos) (fun D σ H => CompWant own ixs wi g tt te σ H fun v H' => D.nx (σ.set i (some v)) H') :=
  fun pins s σ H D I h => ps_lcomp hc S hi hg ht he hN hy hl hsw hs pins s σ H D I h.out
theorem ps_comp0 {NB : List Str} {own : Nat} {ixs : List Nat} {scope : Scope} {tg iter elt : Expr} {ifs : List Expr} {wi : TI} {g : TG} {tt : TT} {te : TE} {pos : Pos} {i : Nat} {y : Str} {py spos : Pos} {st : Stmt} (hst : st = .Assign [.Name y py] (.ListComp elt [⟨tg, iter, ifs, 0⟩] scope pos) spos) (hc : X.calm = true) (S : CompScope X NB own ixs scope) (hi : PI X tg iter wi)
    (hg : ∀ C ex s3 H3 pn, PG (blk X NB scope C ex s3 H3 pn) tg g) (ht : ∀ C ex s3 H3 pn, PTs (blk X NB scope C ex s3 H3 pn) ifs tt) (he : ∀ C ex s3 H3 pn, PE (blk X NB scope C ex s3 H3 pn) elt te)
    (hN : X.N.Nodup) (hy : X.N[i]? = some y) (hl : X.env.scope.names.lookup y = some .local)
    (hsw : swapsWith (.ListComp elt [⟨tg, iter, ifs, 0⟩] scope pos) (some (.Name y py)) spos.line X.env = pure true) (hs : ∀ x, foldedSetIterable iter X.env x = pure x := by intro _; rfl) :
    PS X st (fun D σ H => CompWant own ixs wi g tt te σ H fun v H' => D.nx (σ.set i (some v)) H') := by
  subst hst
  exact ps_comp hc S hi hg ht he hN hy hl hsw hs
end
section
variable {P : Program} {w : World} {K : PySem.W.Frag} {mg : Str → Option Value} {base : Heap}
/-- read_figure -/
def spFigure : Sp := fun vs H Q _ => ∃ a : Int, vs = [.str (sg a)] ∧ 0 ≤ a ∧ a < 9 ∧ Q (.int a) H
theorem scFigure : FnScope ["word"] ["word"] (defScope sFigure) := ⟨rfl, rfl, rfl, by decide +kernel, rfl, by decide +kernel, by decide +kernel⟩
theorem ok_figure {f : Addr} {fd : FuncData} {tf : Tok} (F : Fn K mg "read_figure" sFigure ["word"] f fd) (B : Bt mg) (mF : mg "FIGURES" = some (.str "0123456789" tf)) : FnOk P w K mg base CX0 1 f fd ["word"] spFigure := by
  refine F.F.ok scFigure (fun vs H Q E h => ?_) (fun cdv A outer s H vs Q E hr h => ?_)
  · obtain ⟨a, rfl, _⟩ := h; rfl
  · obtain ⟨a, rfl, h0, h9, k⟩ := h
    refine ⟨_, pss_cons (ps_if (pt_cmpR op_ne (pe_callB call_len_str rfl B.len PySem.boot_len (pa_cons (pv 0) pa_nil)) pe_int (nomark _)) (pss_one (ps_ret (pe_un un_neg pe_int))) pss_nil)
      (pss_one (ps_ret (pe_bm PySem.F.plainAttrs_str PySem.F.slot_str_find PySem.F.type_str_find mt_find (pe_glob rfl mF (show RelV (.str "0123456789") _ from ⟨_, rfl⟩)) (pa_cons (pv 0) pa_nil)))), ?_⟩
    obtain ⟨h1, h2, _, _⟩ := fig_at h0 h9
    refine ⟨_, rfl, _, rfl, by rw [h1, sizeLine_eq]; omega, rfl, _, rfl, ?_⟩
    refine ifF (by rw [h1]; simp) ?_
    refine ⟨rfl, _, rfl, _, _, rfl, rfl, ?_⟩
    have e : Txt.find (Str.ofString "0123456789") (sg a) = a := h2
    rw [e]
    exact k
/-- read_pair -/
def spReadPair (K : PySem.W.Frag) : Sp := fun vs H Q _ => ∃ (p : Int × Int) (n : Nat), vs = [.str (word p), .int n] ∧ n ≤ 8 ∧ ((0 ≤ p.1 ∧ p.1 < n) ∧ (0 ≤ p.2 ∧ p.2 < n)) ∧ p.1 ≠ p.2 ∧ ∀ H' a, Same H H' → SqT K H' a [.int p.1, .int p.2] → Q (.ref a) H'
theorem scReadPair : FnScope ["word", "many", "pair"] ["word", "many"] (defScope sReadPair) := ⟨rfl, rfl, rfl, by decide +kernel, rfl, by decide +kernel, by decide +kernel⟩
theorem ok_readPair {f g gp : Addr} {fd dg dp : FuncData} (F : Fn K mg "read_pair" sReadPair ["word", "many"] f fd) (G : Fn K mg "read_figure" sFigure ["word"] g dg) (Gp : Fn K mg "is_pair" sIsPair ["thing", "many"] gp dp)
    (OF : FnOk P w K mg base CX0 1 g dg ["word"] spFigure) (OP : FnOk P w K mg base CX0 3 gp dp ["thing", "many"] (spPair K)) (B : Bt mg) : FnOk P w K mg base CX0 4 f fd ["word", "many"] (spReadPair K) := by
  refine F.F.ok scReadPair (fun vs H Q E h => ?_) (fun cdv A outer s H vs Q E hr h => ?_)
  · obtain ⟨p, n, rfl, _⟩ := h; rfl
  · obtain ⟨p, n, rfl, h8, hw, hne, k⟩ := h
    refine ⟨_, pss_cons (ps_if (PW.pt (pw_or (pt_cmpR op_ne (pe_callB call_len_str rfl B.len PySem.boot_len (pa_cons (pv 0) pa_nil)) pe_int (nomark _)) (pw_or1 (pt_cmpR op_ne (pe_ix ix_str (pv 0) pe_int (fun _ _ => rfl)) pe_str (nomark _))))) (pss_one (ps_ret pe_non)) pss_nil)
      (pss_cons (ps_set (i := 2) scReadPair.nd rfl (Or.inl rfl) (pe_tup (pa_cons (pe_call OF (hr.mono (by decide)) rfl G.mg G.F.kp G.b .nil pass0 (pa_cons (pe_ix ix_str (pv 0) pe_int (fun _ _ => rfl)) pa_nil)) (pa_cons (pe_call OF (hr.mono (by decide)) rfl G.mg G.F.kp G.b .nil pass0 (pa_cons (pe_ix ix_str (pv 0) pe_int (fun _ _ => rfl)) pa_nil)) pa_nil))))
      (pss_cons (ps_if (PW.pt (pw_or (pt_not (pt_val (pe_call OP hr rfl Gp.mg Gp.F.kp Gp.b .nil pass0 (pa_cons (pv 2) (pa_cons (pv 1) pa_nil))) fun _ => rfl)) (pw_or1 (pt_cmpR op_eq (pe_ix ix_tup (pv 2) pe_int (fun _ _ => rfl)) (pe_ix ix_tup (pv 2) pe_int (fun _ _ => rfl)) (nomark _))))) (pss_one (ps_ret pe_non)) pss_nil)
      (pss_one (ps_ret (pv 2))))), ?_⟩
    have hsm : Sm p := ⟨⟨hw.1.1, by omega⟩, hw.2.1, by omega⟩
    obtain ⟨w1, w2, w3, w4, _⟩ := word_all p (L2.ST.mem_smalls hsm)
    obtain ⟨c0, e0, f0⟩ := chr_some w2
    obtain ⟨c1, e1, f1⟩ := chr_some w3
    obtain ⟨c2, e2, f2⟩ := chr_some w4
    have hz : (word p).length ≤ sizeLine := by rw [w1, sizeLine_eq]; omega
    refine ⟨_, rfl, _, rfl, hz, rfl, _, rfl, ?_⟩
    refine ifF (by rw [w1]; simp) ?_
    refine ⟨_, rfl, word p, 1, c1, rfl, rfl, hz, e1, rfl, _, rfl, ?_⟩
    refine ifF (by rw [f1]; simp) ?_
    refine ⟨_, rfl, word p, 0, c0, rfl, rfl, hz, e0, p.1, by rw [f0]; rfl, by omega, by omega, ?_⟩
    refine ⟨_, rfl, word p, 2, c2, rfl, rfl, hz, e2, p.2, by rw [f2]; rfl, by omega, by omega, two_le _ _, fun a ha => ?_⟩
    have hq : SqT K (upd H a (.tup [.int p.1, .int p.2])) a [.int p.1, .int p.2] := .inl (.inl upd_same)
    refine ⟨_, rfl, _, rfl, a, p.1, p.2, n, rfl, hq, _, rfl, ?_⟩
    rw [decide_eq_true hw]
    refine iteF ⟨_, rfl, a, _, 0, .int p.1, rfl, rfl, hq, rfl, _, rfl, a, _, 1, .int p.2, rfl, rfl, hq, rfl, rfl, _, rfl, ?_⟩
    refine ifF (by simp [hne]) ?_
    exact ⟨_, rfl, k _ a (Same.new ha) hq⟩
/-- read_pairs -/
def spReadPairs (K : PySem.W.Frag) : Sp := fun vs H Q _ => ∃ (W : Addr) (w0 : Str) (ps : List (Int × Int)) (n : Nat), vs = [.ref W, .int n] ∧ n ≤ 8 ∧ SqL K H W ((w0 :: ps.map word).map V.str) ∧ OM.Wn n ps ∧ OM.Ris ps ∧ (∀ p, p ∈ ps → p.1 ≠ p.2) ∧ ps.length < 64 ∧
  ∀ H' L vs, Same H H' → H L = none → H' L = some (.lst vs) → PairsV K H' vs ps → Q (.ref L) H'
theorem scReadPairs : FnScope ["words", "many", "pairs", "at", "pair"] ["words", "many"] (defScope sReadPairs) := ⟨rfl, rfl, rfl, by decide +kernel, rfl, by decide +kernel, by decide +kernel⟩
theorem le_last {ps : List (Int × Int)} {i : Nat} {p q : Int × Int} (hr : OM.Ris ps) (hp : ps[i]? = some p) (hq : ps[i + 1]? = some q) : HL.lexLe [q.1, q.2] [p.1, p.2] = false := by
  have hlt : OM.plt p q := by
    have h1 := List.getElem?_eq_some_iff.mp hp
    have h2 := List.getElem?_eq_some_iff.mp hq
    obtain ⟨l1, e1⟩ := h1
    obtain ⟨l2, e2⟩ := h2
    have := List.pairwise_iff_getElem.mp hr i (i + 1) l1 l2 (by omega)
    rw [e1, e2] at this
    exact this
  unfold OM.plt at hlt
  rw [HL.lexLe_cons, HL.lexLe_cons]
  by_cases c : q.1 = p.1
  · rw [if_pos c]
    by_cases c2 : q.2 = p.2
    · omega
    · rw [if_neg c2]; exact decide_eq_false (by omega)
  · rw [if_neg c]; exact decide_eq_false (by omega)
theorem at_last {α : Type} {xs : List α} {i : Nat} (h : xs.length = i + 1) : atI xs (-1) = xs[i]? := by
  unfold atI ixN
  rw [if_neg (by omega), if_pos (by omega)]
  have : ((-1 : Int) + (xs.length : Int)).toNat = i := by omega
  rw [this]; rfl
set_option maxHeartbeats 1000000 in
theorem ok_readPairs {f g : Addr} {fd dg : FuncData} (F : Fn K mg "read_pairs" sReadPairs ["words", "many"] f fd) (G : Fn K mg "read_pair" sReadPair ["word", "many"] g dg) (OR : FnOk P w K mg base CX0 4 g dg ["word", "many"] (spReadPair K)) (B : Bt mg) : FnOk P w K mg base CX0 5 f fd ["words", "many"] (spReadPairs K) := by
  refine F.F.ok scReadPairs (fun vs H Q E h => ?_) (fun cdv A outer s H vs Q E hr h => ?_)
  · obtain ⟨W, w0, ps, n, rfl, _⟩ := h; rfl
  · obtain ⟨W, w0, ps, n, rfl, h8, hW, wn, hris, hne, hl, k⟩ := h
    refine ⟨_, pss_cons (ps_set (i := 2) scReadPairs.nd rfl (Or.inl rfl) (pe_lst pa_nil))
      (pss_cons (ps_for PassesOwn.never rfl (pi_range2 rfl B.range (pa_cons pe_int (pa_cons (pe_callB call_len_seq rfl B.len PySem.boot_len (pa_cons (pv 0) pa_nil)) pa_nil))) (pg_name (i := 3) scReadPairs.nd rfl (Or.inl rfl))
        (pss_cons (ps_set (i := 4) scReadPairs.nd rfl (Or.inl rfl) (pe_call OR hr rfl G.mg G.F.kp G.b .nil pass0 (pa_cons (pe_ix ix_list (pv 0) (pv 3) (fun _ _ => rfl)) (pa_cons (pv 1) pa_nil))))
        (pss_cons (ps_if (pt_cmpR op_isN (pv 4) pe_non (nomark _)) pss_never pss_nil)
        (pss_cons (ps_if (PW.pt (pw_and (pt_truth (pv 2) (fun _ => rfl)) (pw_and1 (pt_cmpR (op_leT hr.units0) (pv 4) (pe_ix ix_list (pv 2) (pe_un un_neg pe_int) (fun _ _ => rfl)) (nomark _))))) pss_never pss_nil)
        (pss_one (ps_expr (pe_bm PySem.F.plainAttrs_list PySem.F.slot_list_append PySem.F.type_list_append mt_append (pv 2) (pa_cons (pv 4) pa_nil))))))))
      (pss_one (ps_ret (pv 2)))), ?_⟩
    refine ⟨Nat.zero_le _, fun L hL => ?_⟩
    have s1 : Same H (upd H L (.lst [])) := Same.new hL
    have hlen : ((w0 :: ps.map word).map V.str).length = ps.length + 1 := by simp
    refine ⟨_, rfl, W, _, rfl, .inl (s1.seq hW), 1, _, rfl, ⟨by omega, by omega, by omega, by rw [hlen]; omega⟩, ?_⟩
    have e1 : (((((w0 :: ps.map word).map V.str).length : Nat) : Int) - 1).toNat = ps.length := by rw [hlen]; omega
    rw [e1]
    refine for_range (fun i σ' H' => (∃ x y, σ' = [some (.ref W), some (.int n), some (.ref L), x, y]) ∧ Same H H' ∧ ∃ vs, H' L = some (.lst vs) ∧ PairsV K H' vs (ps.take i)) ⟨⟨_, _, rfl⟩, s1, [], upd_same, .nil⟩ ?_ ?_
    · rintro i σ' H2 hi ⟨⟨x, y, rfl⟩, s2, vs, hv, hpv⟩
      have e2 : (1 : Int) + (i : Int) = ((i + 1 : Nat) : Int) := by omega
      rw [e2]
      obtain ⟨p, hp⟩ : ∃ p, ps[i]? = some p := ⟨_, List.getElem?_eq_getElem hi⟩
      have hm := List.mem_of_getElem? hp
      have hat : atI ((w0 :: ps.map word).map V.str) ((i + 1 : Nat) : Int) = some (.str (word p)) := by
        rw [at_nat (by rw [hlen]; omega), List.getElem?_map, List.getElem?_cons_succ, List.getElem?_map, hp]; rfl
      refine ⟨_, rfl, _, rfl, W, _, _, _, rfl, rfl, s2.seq hW, hat, _, rfl, p, n, rfl, h8, wn p hm, hne p hm, fun H3 a s3 ha => ?_⟩
      refine ⟨_, rfl, rfl, _, rfl, iteF ?_⟩
      have hv3 := s3 _ _ hv
      have hpv3 := hpv.same s3
      have hvl := hpv.len
      rw [List.length_take] at hvl
      have fin : tDrop (tBM K "list" rAppend (tVar 2) (tCons (tVar 4) tNil)) { nx := fun σ' H' => (∃ x y, σ' = [some (.ref W), some (.int n), some (.ref L), x, y]) ∧ Same H H' ∧ ∃ vs, H' L = some (.lst vs) ∧ PairsV K H' vs (ps.take (i + 1)), rt := Q } [some (.ref W), some (.int n), some (.ref L), some (.int ((i + 1 : Nat) : Int)), some (.ref a)] H3 := by
        refine ⟨_, rfl, .inl ⟨rfl, _, .inl (.inl hv3)⟩, _, rfl, L, vs, _, rfl, rfl, hv3, by rw [sizeLine_eq]; omega, ⟨_, _, rfl⟩, (s2.trans s3).put hL, _, upd_same, ?_⟩
        rw [take_snoc hp]
        have g2 : ∀ o, Grow H3 (upd H3 L o) := fun o => Grow.list hv3
        exact PairsV.snoc (ha.grow (g2 _)) (hpv3.grow (g2 _))
      refine ⟨_, rfl, !vs.isEmpty, .inl ⟨vs, .inl (.inl hv3), rfl⟩, ?_⟩
      cases i with
      | zero =>
        have e0 : vs = [] := List.eq_nil_of_length_eq_zero (by omega)
        subst e0
        exact iteF (iteF fin)
      | succ j =>
        obtain ⟨q, hq⟩ : ∃ q, ps[j]? = some q := ⟨_, List.getElem?_eq_getElem (by omega)⟩
        have hq2 : (ps.take (j + 1))[j]? = some q := by rw [List.getElem?_take_of_lt (by omega)]; exact hq
        obtain ⟨v, ev, b, rfl, hb⟩ := Paired.getQ hpv3 hq2
        have e0 : vs.isEmpty = false := by
          cases vs with
          | nil => simp at ev
          | cons _ _ => rfl
        rw [e0]
        refine iteT ⟨_, rfl, _, rfl, _, rfl, L, vs, -1, _, rfl, rfl, .inl (.inl hv3), by rw [at_last (i := j) (by omega)]; exact ev, ?_⟩
        refine ⟨a, b, [p.1, p.2], [q.1, q.2], rfl, rfl, ha, hb, _, rfl, ?_⟩
        rw [le_last hris hq hp]
        exact iteF fin
    · rintro σ' H2 ⟨⟨x, y, rfl⟩, s2, vs, hv, hpv⟩
      rw [take_all] at hpv
      exact ⟨_, rfl, k H2 L vs s2 hL hv hpv⟩
end
end RO

end

section
set_option linter.all false
set_option maxRecDepth 100000
namespace RO
open PySem L2
/-! a method of a written text is met with the text as a letter: else the elaborator looks the method up -/
section
variable {X : Cx} {o e : Expr} {apos cpos pos : Pos} {sep : Str} {te : TE}
theorem pe_joino (ho : PE X o (tC (.str sep))) (he : PE X e te) (hbase : attributeBase o "join" X.env (eval o X.env) = eval o X.env)
    (hfew : ((backTo cpos (starEach [e] X.env)).all (fun x => !x.1) && (backToKw cpos (keywordEach [] X.env)).all (fun x => x.1.isSome) && decide ([e].length + ([] : List Keyword).length + (if ([] : List Keyword).isEmpty then 0 else 1) < 30)) = true)
    (hline : (apos.endLine == cpos.line) = true) (hs : starEach [e] X.env = (false, eval e X.env) :: starEach [] X.env) (hplain : (backTo cpos (starEach ([] : List Expr) X.env)).any (·.1) = false) :
    PE X (.Call (.Attribute o "join" apos) [e] [] cpos) (tBM X.K "str" (rJoin X.K) (tC (.str sep)) (tCons te tNil)) :=
  pe_bm PySem.F.plainAttrs_str PySem.F.slot_str_join PySem.F.type_str_join mt_join ho (pa_cons he pa_nil hs) hbase hfew hline hs hplain
theorem ps_retjoin {st : Stmt} (hst : st = .Return (some (.Call (.Attribute o "join" apos) [e] [] cpos)) pos) (ho : PE X o (tC (.str sep))) (he : PE X e te) (hbase : attributeBase o "join" X.env (eval o X.env) = eval o X.env)
    (hfew : ((backTo cpos (starEach [e] X.env)).all (fun x => !x.1) && (backToKw cpos (keywordEach [] X.env)).all (fun x => x.1.isSome) && decide ([e].length + ([] : List Keyword).length + (if ([] : List Keyword).isEmpty then 0 else 1) < 30)) = true)
    (hline : (apos.endLine == cpos.line) = true) (hs : starEach [e] X.env = (false, eval e X.env) :: starEach [] X.env) (hplain : (backTo cpos (starEach ([] : List Expr) X.env)).any (·.1) = false) :
    PS X st (tRet (tBM X.K "str" (rJoin X.K) (tC (.str sep)) (tCons te tNil))) := by
  subst hst
  exact ps_ret (pe_joino ho he hbase hfew hline hs hplain)
/-- if a or t != sep.join(e) or c: .. -/
theorem ps_ifjoin {st : Stmt} {a t c : Expr} {p5 p6 p7 : Pos} {body : List Stmt} {tA tC' : TT} {tt : TE} {tb : TS} (hst : st = .If (.BoolOp .Or [a, .Compare t [.NotEq] [.Call (.Attribute o "join" apos) [e] [] cpos] p5, c] p6) body [] p7) (ha : PT X a tA) (ht : PE X t tt) (hc : PT X c tC') (hb : PSs X body tb)
    (ho : PE X o (tC (.str sep))) (he : PE X e te) (hbase : attributeBase o "join" X.env (eval o X.env) = eval o X.env)
    (hfew : ((backTo cpos (starEach [e] X.env)).all (fun x => !x.1) && (backToKw cpos (keywordEach [] X.env)).all (fun x => x.1.isSome) && decide ([e].length + ([] : List Keyword).length + (if ([] : List Keyword).isEmpty then 0 else 1) < 30)) = true)
    (hline : (apos.endLine == cpos.line) = true) (hs : starEach [e] X.env = (false, eval e X.env) :: starEach [] X.env) (hplain : (backTo cpos (starEach ([] : List Expr) X.env)).any (·.1) = false) :
    PS X st (tIfS (tOr tA (tOr (tTest (tOp rNe tt (tBM X.K "str" (rJoin X.K) (tC (.str sep)) (tCons te tNil)))) tC')) tb tNext) := by
  subst hst
  exact ps_if (PW.pt (pw_or ha (pw_or (pt_cmpR op_ne ht (pe_joino ho he hbase hfew hline hs hplain) (nomark _)) (pw_or1 hc)))) hb pss_nil
end
end RO

end

section
set_option linter.all false
set_option maxRecDepth 100000
namespace RO
open PySem L2
theorem shaped_l (l : List (Int × Int)) : PySem.SeqAt.shaped (.list (l.map pd)) = true := by
  have := depth_ps l
  unfold PySem.SeqAt.shaped; rw [PyData.canLay0, lay_ps, PyData.depth]; simp; omega
theorem lay_l (l : List (Int × Int)) : (PyData.list (l.map pd)).canLay0 = true := by rw [PyData.canLay0]; exact lay_ps l
theorem next_len {n : Nat} {l : List (Int × Int)} (O : OM.Ord n l) : (OM.nexts l).length < 64 := Nat.lt_of_le_of_lt (List.length_filter_le ..) (ord_len O)
theorem next_ris {n : Nat} {l : List (Int × Int)} (O : OM.Ord n l) : OM.Ris (OM.nexts l) := OM.ris_filter _ O.ris
theorem next_ne {n : Nat} {l : List (Int × Int)} (O : OM.Ord n l) : ∀ p, p ∈ OM.nexts l → p.1 ≠ p.2 := fun p hp e => by
  obtain ⟨a, b⟩ := p
  simp only at e
  subst e
  exact O.irr a (OM.mem_nexts.mp hp).1
theorem next_sm {n : Nat} {l : List (Int × Int)} (O : OM.Ord n l) : ∀ p, p ∈ OM.nexts l → Sm p := fun p hp => wn_small O.hi O.wn p (OM.mem_nexts.mp hp).1
theorem one_le (x : V) : ([x] : List V).length ≤ sizeLine := by show 1 ≤ sizeLine; rw [sizeLine_eq]; omega
section
variable {P : Program} {w : World} {K : PySem.W.Frag} {mg : Str → Option Value} {base : Heap}
/-- read_order, of an order's text -/
def spRead (K : PySem.W.Frag) : Sp := fun vs H Q _ => ∃ (n : Nat) (l : List (Int × Int)), vs = [.str (textOf n (OM.nexts l))] ∧ OM.Ord n l ∧ ∀ H' t, Same H H' → H t = none → OrdAt K H' t n l → Q (.ref t) H'
theorem scRead : FnScope ["text", "words", "many", "pairs", "order"] ["text"] (defScope sRead) := ⟨rfl, rfl, rfl, by decide +kernel, rfl, by decide +kernel, by decide +kernel⟩
set_option maxHeartbeats 1000000 in
theorem ok_read {f gf gm gp gc gi gn : Addr} {fd df dm dp dc di dn : FuncData} (F : Fn K mg "read_order" sRead ["text"] f fd) (Gf : Fn K mg "read_figure" sFigure ["word"] gf df) (Gm : Fn K mg "is_many" sIsMany ["thing"] gm dm) (Gp : Fn K mg "read_pairs" sReadPairs ["words", "many"] gp dp) (Gc : Fn K mg "closed" sClosed ["many", "pairs"] gc dc) (Gi : Fn K mg "is_order" sIsOrder ["thing"] gi di) (Gn : Fn K mg "next_pairs" sNextPairs ["order"] gn dn)
    (OF : FnOk P w K mg base CX0 1 gf df ["word"] spFigure) (OM' : FnOk P w K mg base CX0 2 gm dm ["thing"] (spMany K)) (OP : FnOk P w K mg base CX0 5 gp dp ["words", "many"] (spReadPairs K)) (OC : FnOk P w K mg base CX0 2 gc dc ["many", "pairs"] (spClosed K)) (OI : FnOk P w K mg base CX0 4 gi di ["thing"] (spIsOrder K)) (ON : FnOk P w K mg base CX0 6 gn dn ["order"] (spNext K)) (B : Bt mg) (mS : mg "str" = none) : FnOk P w K mg base CX0 7 f fd ["text"] (spRead K) := by
  refine F.F.ok scRead (fun vs H Q E h => ?_) (fun cdv A outer s H vs Q E hr h => ?_)
  · obtain ⟨n, l, rfl, _⟩ := h; rfl
  · obtain ⟨n, l, rfl, O, k⟩ := h
    refine ⟨_, pss_cons (ps_if (pt_not (pt_val (pe_callB call_isi rfl B.isi (by decide +kernel) (pa_cons (pv 0) (pa_cons (pe_bltn rfl mS (by decide +kernel) (show RelV (.ty "str") _ from rfl)) pa_nil))) fun _ => rfl)) pss_never pss_nil)
      (pss_cons (ps_set (i := 1) scRead.nd rfl (Or.inl rfl) (pe_bm PySem.F.plainAttrs_str PySem.F.slot_str_split PySem.F.type_str_split mt_split (pv 0) (pa_cons pe_str pa_nil)))
      (pss_cons (ps_set (i := 2) scRead.nd rfl (Or.inl rfl) (pe_call OF (hr.mono (by decide)) rfl Gf.mg Gf.F.kp Gf.b .nil pass0 (pa_cons (pe_ix ix_list (pv 1) pe_int (fun _ _ => rfl)) pa_nil)))
      (pss_cons (ps_if (pt_not (pt_val (pe_call OM' (hr.mono (by decide)) rfl Gm.mg Gm.F.kp Gm.b .nil pass0 (pa_cons (pv 2) pa_nil)) fun _ => rfl)) pss_never pss_nil)
      (pss_cons (ps_set (i := 3) scRead.nd rfl (Or.inl rfl) (pe_call OP (hr.mono (by decide)) rfl Gp.mg Gp.F.kp Gp.b .nil pass0 (pa_cons (pv 1) (pa_cons (pv 2) pa_nil))))
      (pss_cons (ps_set (i := 4) scRead.nd rfl (Or.inl rfl) (pe_tup (pa_cons (pv 2) (pa_cons (pe_call OC (hr.mono (by decide)) rfl Gc.mg Gc.F.kp Gc.b .nil pass0 (pa_cons (pv 2) (pa_cons (pv 3) pa_nil))) pa_nil))))
      (pss_cons (ps_if (PW.pt (pw_or (pt_not (pt_val (pe_call OI (hr.mono (by decide)) rfl Gi.mg Gi.F.kp Gi.b .nil pass0 (pa_cons (pv 4) pa_nil)) fun _ => rfl)) (pw_or1 (pt_cmpR (op_neD hr.units) (pe_call ON hr rfl Gn.mg Gn.F.kp Gn.b .nil pass0 (pa_cons (pv 4) pa_nil)) (pv 3) (nomark _))))) pss_never pss_nil)
      (pss_one (ps_ret (pv 4))))))))), ?_⟩
    have h1 := O.lo
    have h8 := O.hi
    have hl := next_len O
    have hsm := next_sm O
    refine ⟨_, rfl, _, _, _, true, rfl, .str _, rfl, _, rfl, iteF ?_⟩
    refine ⟨_, rfl, rfl, _, _, rfl, rfl, by decide, text_len h8 hsm hl, fun W hW => ?_⟩
    have es : Txt.split (textOf n (OM.nexts l)) (Str.ofString " ") = wordsOf n (OM.nexts l) := text_split h8 hsm
    rw [es]
    have s1 : Same H (upd H W (.lst ((wordsOf n (OM.nexts l)).map V.str))) := Same.new hW
    have hW1 : (upd H W (.lst ((wordsOf n (OM.nexts l)).map V.str))) W = some (.lst ((wordsOf n (OM.nexts l)).map V.str)) := upd_same
    generalize upd H W (.lst ((wordsOf n (OM.nexts l)).map V.str)) = H1 at s1 hW1
    have hat : atI ((wordsOf n (OM.nexts l)).map V.str) 0 = some (.str (sg n)) := by
      rw [show (0 : Int) = ((0 : Nat) : Int) from rfl, at_nat (by unfold wordsOf; simp)]; rfl
    refine ⟨_, rfl, W, _, 0, .str (sg n), rfl, rfl, .inl (.inl hW1), hat, (n : Int), rfl, by omega, by omega, ?_⟩
    refine ⟨_, rfl, n, rfl, _, rfl, ?_⟩
    rw [show decide (1 ≤ (n : Int) ∧ (n : Int) ≤ 8) = true from decide_eq_true ⟨by omega, by omega⟩]
    refine iteF ⟨_, rfl, _, rfl, W, sg n, OM.nexts l, n, rfl, h8, .inl (.inl hW1), O.nexts_wn, next_ris O, next_ne O, hl, fun H2 L vs s2 hL hv hpv => ?_⟩
    refine ⟨_, rfl, _, rfl, _, rfl, n, L, vs, OM.nexts l, rfl, h1, h8, .inl (.inl (.inl hv)), hpv, O.nexts_wn, fun H3 t ws s3 ht ht3 hp3 => ⟨two_le _ _, fun o ho => ?_⟩⟩
    rw [O.nexts_closed] at hp3
    have n4 := Same.new (o := .tup [.int n, .ref t]) ho
    have oA : OrdAt K (upd H3 o (.tup [.int n, .ref t])) o n l := ⟨t, ws, .inl (.inl upd_same), .inl (.inl (n4 _ _ ht3)), hp3.same n4⟩
    have s03 := s1.trans (s2.trans s3)
    have ho0 := s03.free ho
    have s04 := s03.trans n4
    have s24 := s3.trans n4
    generalize upd H3 o (.tup [.int n, .ref t]) = H4 at n4 oA s04 s24
    refine ⟨_, rfl, o, n, l, rfl, oA, O, fun H5 s5 => ⟨_, rfl, iteF ?_⟩⟩
    refine ⟨_, rfl, o, n, l, rfl, oA.same s5, O, fun H6 D ws6 s6 hD0 hD6 hp6 => ?_⟩
    have s56 := s24.trans (s5.trans s6)
    refine ⟨_, rfl, .list ((OM.nexts l).map pd), .list ((OM.nexts l).map pd), .lst (.inl (.inl hD6)) (pairs_rep hp6), .lst (.inl (.inl (s56 _ _ hv))) (pairs_rep (hpv.same s56)), shaped_l _, shaped_l _, _, rfl, ?_⟩
    rw [neR (lay_l _)]
    exact iteF ⟨_, rfl, k H6 o (s04.trans (s5.trans s6)) ho0 (oA.same (s5.trans s6))⟩
/-- show_order -/
def spShow (K : PySem.W.Frag) : Sp := fun vs H Q _ => ∃ (o : Addr) (n : Nat) (l : List (Int × Int)), vs = [.ref o] ∧ OrdAt K H o n l ∧ OM.Ord n l ∧ ∀ H', Same H H' → Q (.str (textOf n (OM.nexts l))) H'
theorem scShow : FnScope ["order", "words"] ["order"] (defScope sShow) := ⟨rfl, rfl, rfl, by decide +kernel, rfl, by decide +kernel, by decide +kernel⟩
theorem ok_show {f gn : Addr} {fd dn : FuncData} (F : Fn K mg "show_order" sShow ["order"] f fd) (Gn : Fn K mg "next_pairs" sNextPairs ["order"] gn dn) (ON : FnOk P w K mg base CX0 6 gn dn ["order"] (spNext K)) (mS : mg "str" = none) : FnOk P w K mg base CX0 7 f fd ["order"] (spShow K) := by
  refine F.F.ok scShow (fun vs H Q E h => ?_) (fun cdv A outer s H vs Q E hr h => ?_)
  · obtain ⟨o, n, l, rfl, _⟩ := h; rfl
  · obtain ⟨o, n, l, rfl, hoA, O, k⟩ := h
    have hb : defBody sShow = [(defBody sShow).getD 0 (.Pass ⟨0, 0, 0, 0⟩), (defBody sShow).getD 1 (.Pass ⟨0, 0, 0, 0⟩)] := rfl
    generalize hst1 : (defBody sShow).getD 1 (.Pass ⟨0, 0, 0, 0⟩) = st1 at hb
    generalize hst : (defBody sShow).getD 0 (.Pass ⟨0, 0, 0, 0⟩) = st0 at hb
    rw [hb]
    refine ⟨_, pss_cons (ps_comp0 hst.symm (NB := ["a", "b"]) (own := 2) (ixs := []) (i := 1) (y := "words") rfl (compScope (by kernel_rfl)) (pi_list (pe_call ON hr rfl Gn.mg Gn.F.kp Gn.b .nil pass0 (pa_cons (pv 0) pa_nil)))
        (fun C ex s3 H3 pn => pg_two K 0 1 nd_ab rfl rfl rfl rfl rfl rfl) (fun C ex s3 H3 pn => pts_nil) (fun C ex s3 H3 pn => pe_fmt (by decide) (pv 0) (pv 1)) scShow.nd rfl rfl (by kernel_rfl))
      (pss_one (ps_retjoin hst1.symm pe_str (pe_op op_cat (pe_lst (pa_cons (pe_callTy call_str_int rfl mS (by decide +kernel) (pa_cons (pe_ix ix_tup (pv 0) pe_int (fun _ _ => rfl)) pa_nil)) pa_nil)) (pv 1)) rfl rfl rfl rfl rfl)), ?_⟩
    have h8 := O.hi
    have hl := next_len O
    have hsm := next_sm O
    refine t_comp ⟨_, rfl, o, n, l, rfl, hoA, O, fun H1 D0 ws0 s1 hD0 hD1 hp1 => ⟨D0, rfl, ⟨ws0, .inl (.inl hD1)⟩, fun D hD => ?_⟩⟩
    refine cw_list (xs := ws0) (fun i σ' H' => (∃ x y, σ' = [x, y]) ∧ Same H1 H' ∧ H' D = some (.lst ((((OM.nexts l).take i).map word).map V.str))) ⟨⟨_, _, rfl⟩, (Same.refl H1).put hD, upd_same⟩ (fun i σ' H' _ q => .inl (.inl (q.2.1 _ _ hD1))) ?_ ?_
    · rintro i x σ' H2 hx ⟨⟨_, _, rfl⟩, s2, hv⟩
      obtain ⟨p, hpi, b, rfl, hb⟩ := (hp1.same s2).at hx
      have sm := hsm p (List.mem_of_getElem? hpi)
      obtain ⟨a1, _, _, a4⟩ := fig_at (a := p.1) sm.1.1 (by have := sm.1.2; omega)
      obtain ⟨b1, _, _, b4⟩ := fig_at (a := p.2) sm.2.1 (by have := sm.2.2; omega)
      refine ct_two1 hb ⟨_, rfl, p.1, rfl, a4, Nat.le_trans (Nat.le_of_eq a1) (by decide), _, rfl, p.2, rfl, b4, Nat.le_trans (Nat.le_of_eq b1) (by decide), _, hv, ?_, ⟨_, _, rfl⟩, s2.put hD, ?_⟩
      · rw [List.length_map, List.length_map, List.length_take, sizeLine_eq]; omega
      · rw [upd_same, take_snoc hpi, List.map_append, List.map_append]; rfl
    rintro σ' H2 ⟨_, s2, hv⟩
    rw [hp1.len, take_all] at hv
    refine ⟨⟨_, hv⟩, ?_⟩
    obtain ⟨t, ws, ho, ht, hp⟩ := id hoA
    have s02 := s1.trans s2
    obtain ⟨c1, _, _, c4⟩ := fig_at (a := (n : Int)) (by omega) (by omega)
    refine ⟨rfl, _, rfl, o, _, 0, .int n, rfl, rfl, ho.grow s02.grow, rfl, n, rfl, c4, one_le _, fun q hq => ?_⟩
    have n3 := Same.new (o := .lst [.str (sg n)]) hq
    refine ⟨_, rfl, q, D, [.str (sg n)], _, rfl, rfl, upd_same, n3 _ _ hv, ?_, fun r hr => ?_⟩
    · rw [List.length_map, List.length_map, sizeLine_eq]; simp; omega
    have n4 := Same.new (o := .lst ([.str (sg n)] ++ ((OM.nexts l).map word).map V.str)) hr
    refine ⟨_, r, wordsOf n (OM.nexts l), rfl, rfl, .inl (.inl upd_same), by decide, ?_, k _ (s02.trans (n3.trans n4))⟩
    rw [words_sum h8 hsm]
    unfold wordsOf
    simp; omega
end
end RO

end

section
set_option linter.all false
set_option maxRecDepth 100000
namespace RO
open PySem L2
def forTg (s : Stmt) : Expr := match s with | .For t _ _ _ _ => t | _ => .Constant .none 0 ⟨0, 0, 0, 0⟩
def forIt (s : Stmt) : Expr := match s with | .For _ i _ _ _ => i | _ => .Constant .none 0 ⟨0, 0, 0, 0⟩
def forBd (s : Stmt) : List Stmt := match s with | .For _ _ b _ _ => b | _ => []
def forPs (s : Stmt) : Pos := match s with | .For _ _ _ _ p => p | _ => ⟨0, 0, 0, 0⟩
def lawFor : Stmt := (defBody sLaw).getD 0 (.Pass ⟨0, 0, 0, 0⟩)
def lawSt (i : Nat) : Stmt := (forBd lawFor).getD i (.Pass ⟨0, 0, 0, 0⟩)
theorem law_split : defBody sLaw = [.For (forTg lawFor) (forIt lawFor) [lawSt 0, lawSt 1, lawSt 2, lawSt 3, lawSt 4] [] (forPs lawFor), (defBody sLaw).getD 1 (.Pass ⟨0, 0, 0, 0⟩)] := rfl
section
variable {P : Program} {w : World} {K : PySem.W.Frag} {mg : Str → Option Value} {base : Heap}
def spLaw (K : PySem.W.Frag) : Sp := fun vs H Q _ => ∃ (a : Addr) (ns : List Int), vs = [.ref a] ∧ SqL K H a (ns.map V.int) ∧ ns.length ≤ 63 ∧ ∀ H', Q (.bl true) H'
theorem scLaw : FnScope ["script", "k", "order", "words", "a", "b", "text"] ["script"] (defScope sLaw) := ⟨rfl, rfl, rfl, by decide +kernel, rfl, by decide +kernel, by decide +kernel⟩
theorem nd_cabo : (["c", "a", "b", "order"] : List Str).Nodup := by decide +kernel
structure Fns (P : Program) (w : World) (K : PySem.W.Frag) (mg : Str → Option Value) (base : Heap) (g1 g2 g3 g4 : Addr) (d1 d2 d3 d4 : FuncData) : Prop where
  F1 : Fn K mg "_law_box" sBox ["script", "k"] g1 d1
  O1 : FnOk P w K mg base CX0 2 g1 d1 ["script", "k"] (spBox K)
  F2 : Fn K mg "_law_order" sLOrder ["box", "most"] g2 d2
  O2 : FnOk P w K mg base CX0 3 g2 d2 ["box", "most"] (spLOrder K)
  F3 : Fn K mg "show_order" sShow ["order"] g3 d3
  O3 : FnOk P w K mg base CX0 7 g3 d3 ["order"] (spShow K)
  F4 : Fn K mg "read_order" sRead ["text"] g4 d4
  O4 : FnOk P w K mg base CX0 7 g4 d4 ["text"] (spRead K)
open Classical in
set_option maxHeartbeats 2000000 in
theorem ok_law {f g1 g2 g3 g4 : Addr} {fd d1 d2 d3 d4 : FuncData} (F : Fn K mg "law" sLaw ["script"] f fd) (T : Fns P w K mg base g1 g2 g3 g4 d1 d2 d3 d4) (B : Bt mg) (mS : mg "str" = none) : FnOk P w K mg base CX0 8 f fd ["script"] (spLaw K) := by
  refine F.F.ok scLaw (fun vs H Q E h => ?_) (fun cdv A outer s H vs Q E hr h => ?_)
  · obtain ⟨a, ns, rfl, _⟩ := h; rfl
  · obtain ⟨a, ns, rfl, hS, hlen, kk⟩ := h
    have hb := law_split
    generalize hst : lawSt 4 = st4 at hb
    rw [hb]
    refine ⟨_, pss_cons (ps_for PassesOwn.never rfl (pi_range1 rfl B.range (pa_cons (pe_callB (call_max2 rfl) rfl B.max (by decide +kernel) (pa_cons pe_int (pa_cons (pe_callB (call_min2 rfl) rfl B.min (by decide +kernel) (pa_cons (pe_callB call_len_seq rfl B.len PySem.boot_len (pa_cons (pv 0) pa_nil)) (pa_cons pe_int pa_nil))) pa_nil))) pa_nil))
        (pg_name (i := 1) scLaw.nd rfl (Or.inl rfl))
        (pss_cons (ps_set (i := 2) scLaw.nd rfl (Or.inr rfl) (pe_call T.O2 (hr.mono (by decide)) rfl T.F2.mg T.F2.F.kp T.F2.b .nil pass0 (pa_cons (pe_call T.O1 (hr.mono (by decide)) rfl T.F1.mg T.F1.F.kp T.F1.b .nil pass0 (pa_cons (pv 0) (pa_cons (pv 1) pa_nil))) (pa_cons pe_int pa_nil))))
        (pss_cons (ps_set (i := 3) scLaw.nd rfl (Or.inl rfl) (pe_lst (pa_cons (pe_callTy call_str_int rfl mS (by decide +kernel) (pa_cons (pe_ix ix_tup (pv 2) pe_int (fun _ _ => rfl)) pa_nil)) pa_nil)))
        (pss_cons (ps_for PassesOwn.never rfl (pi_tup (pe_ix ix_tup (pv 2) pe_int (fun _ _ => rfl))) (pg_tup rfl (pgs_cons (pg_name (i := 4) scLaw.nd rfl (Or.inr rfl)) (pgs_cons (pg_name (i := 5) scLaw.nd rfl (Or.inr rfl)) pgs_nil)))
          (pss_one (ps_if (pt_cmpR (op_eqD hr.units) (pe_comp (NB := ["c", "a", "b", "order"]) (own := 1) (ixs := [4, 5, 2]) rfl (compScope (by kernel_rfl)) (pi_range1 rfl B.range (pa_cons (pe_ix ix_tup (pv 2) pe_int (fun _ _ => rfl)) pa_nil))
              (fun C ex s3 H3 pn => pg_name (i := 0) nd_cabo rfl (Or.inl rfl) (hf := Or.inr rfl))
              (fun C ex s3 H3 pn => pts_one (PW.pt (pw_and (pt_cmpR (opin K hr.u100) (pe_tup (pa_cons (pv 1) (pa_cons (pv 0) pa_nil))) (pe_ix (ixt K) (pv 3) pe_int (fun _ _ => rfl)) (by with_unfolding_all rfl)) (pw_and1 (pt_cmpR (opin K hr.u100) (pe_tup (pa_cons (pv 0) (pa_cons (pv 2) pa_nil))) (pe_ix (ixt K) (pv 3) pe_int (fun _ _ => rfl)) (by with_unfolding_all rfl))))))
              (fun C ex s3 H3 pn => pv 0)) (pe_lst pa_nil) (nomark _))
            (pss_one (ps_expr (pe_bm PySem.F.plainAttrs_list PySem.F.slot_list_append PySem.F.type_list_append mt_append (pv 3) (pa_cons (pe_op op_add_str (pe_op op_add_str (pe_callTy call_str_int rfl mS (by decide +kernel) (pa_cons (pv 4) pa_nil)) pe_str) (pe_callTy call_str_int rfl mS (by decide +kernel) (pa_cons (pv 5) pa_nil))) pa_nil)))) pss_nil)))
        (pss_cons (ps_set (i := 6) scLaw.nd rfl (Or.inl rfl) (pe_call T.O3 hr rfl T.F3.mg T.F3.F.kp T.F3.b .nil pass0 (pa_cons (pv 2) pa_nil)))
        (pss_one (ps_ifjoin hst.symm (pt_not (pt_val (pe_callB call_isi rfl B.isi (by decide +kernel) (pa_cons (pv 6) (pa_cons (pe_bltn rfl mS (by decide +kernel) (show RelV (.ty "str") _ from rfl)) pa_nil))) fun _ => rfl)) (pv 6)
          (pt_cmpR op_ne (pe_callB (call_wrepr hr.gd hr.u100) rfl B.repr (by decide +kernel) (pa_cons (pe_call T.O4 hr rfl T.F4.mg T.F4.F.kp T.F4.b .nil pass0 (pa_cons (pv 6) pa_nil)) pa_nil)) (pe_callB (call_wrepr hr.gd hr.u100) rfl B.repr (by decide +kernel) (pa_cons (pv 2) pa_nil)) (nomark _))
          (pss_one (ps_ret pe_bl)) pe_str (pv 3) rfl rfl rfl rfl rfl)))))))
      (pss_one (ps_ret pe_bl)), ?_⟩
    refine ⟨_, rfl, a, _, rfl, .inl hS, _, _, rfl, _, _, rfl, _, rfl, ?_, ?_, ?_⟩
    · rw [List.length_map]; split <;> split <;> omega
    · rw [List.length_map]; split <;> split <;> omega
    refine for_range (fun i σ' H' => (∃ x1 x2 x3 x4 x5 x6, σ' = [some (.ref a), x1, x2, x3, x4, x5, x6]) ∧ Same H H') ⟨⟨_, _, _, _, _, _, rfl⟩, Same.refl H⟩ ?_ (fun σ' H' _ => kk H')
    rintro i σ' H' hi ⟨⟨x1, x2, x3, x4, x5, x6, rfl⟩, s0⟩
    rw [Int.zero_add]
    -- order
    refine ⟨_, rfl, _, rfl, a, ns, i, rfl, s0.seq hS, by omega, fun H1 b z s1 hb0 hb1 => ⟨b, z, rfl, hb1, fun H2 o n l s2 ho0 hoA O => ?_⟩⟩
    have s02 : Same H' H2 := fun c u e => s2 c u (ne_of_none e hb0) (s1 c u e)
    have h1 := O.lo
    have h8 := O.hi
    have hl := ord_len O
    have hsm := wn_small O.hi O.wn
    obtain ⟨t, ws, ho, ht, hp⟩ := id hoA
    obtain ⟨f1, _, _, f4⟩ := fig_at (a := (n : Int)) (by omega) (by omega)
    -- words
    refine ⟨_, rfl, o, _, 0, .int n, rfl, rfl, ho, rfl, n, rfl, f4, one_le _, fun D hD => ?_⟩
    have s3 : Same H2 (upd H2 D (.lst [.str (sg n)])) := Same.new hD
    refine ⟨_, rfl, o, _, 1, .ref t, rfl, rfl, ho.grow s3.grow, rfl, t, rfl, ⟨ws, ht.grow s3.grow⟩, for_tup (xs := ws) (fun j σ' H' => (∃ x y, σ' = [some (.ref a), some (.int i), some (.ref o), some (.ref D), x, y, x6]) ∧ Same H2 H' ∧ H' D = some (.lst ((wordsOf n ((l.take j).filter fun p => decide (OM.isNext l p))).map V.str)))
      ⟨⟨_, _, rfl⟩, s3, upd_same⟩ (fun j σ' H' _ q => ht.grow q.2.1.grow) ?_ ?_⟩
    · rintro j x σ' H4 hx ⟨⟨_, _, rfl⟩, s4, hv⟩
      obtain ⟨p, hpi, b, rfl, hb⟩ := (hp.same s4).at hx
      have sm := hsm p (List.mem_of_getElem? hpi)
      obtain ⟨a1, _, _, a4⟩ := fig_at (a := p.1) sm.1.1 (by have := sm.1.2; omega)
      obtain ⟨b1, _, _, b4⟩ := fig_at (a := p.2) sm.2.1 (by have := sm.2.2; omega)
      refine g_two hb ?_
      refine t_comp ⟨_, rfl, o, _, 0, .int n, rfl, rfl, ho.grow s4.grow, rfl, n, rfl, by omega, by omega, fun D2 hD2 => ?_⟩
      rw [Int.toNat_natCast]
      refine cw_range (fun m σ' H' => (∃ x, σ' = [x, some (.int p.1), some (.int p.2), some (.ref o)]) ∧ Same H4 H' ∧ H' D2 = some (.lst ((((List.range m).filter (btwB l p.1 p.2)).map fun c : Nat => (c : Int)).map V.int)))
        ⟨⟨_, rfl⟩, (Same.refl H4).put hD2, upd_same⟩ ?_ ?_
      · rintro m σ' H5 hm ⟨⟨_, rfl⟩, s5, hv5⟩
        rw [Int.zero_add]
        have fin : ∀ {H6 : Hp} {r : Bool}, Same H5 H6 → r = btwB l p.1 p.2 m → (if r = true then tVar 0 [some (.int m), some (.int p.1), some (.int p.2), some (.ref o)] H6 fun v H7 => ∃ acc, H7 D2 = some (.lst acc) ∧ acc.length < sizeLine ∧ ((∃ x, [some (V.int m), some (V.int p.1), some (V.int p.2), some (V.ref o)] = [x, some (.int p.1), some (.int p.2), some (.ref o)]) ∧ Same H4 (upd H7 D2 (.lst (acc ++ [v]))) ∧ (upd H7 D2 (.lst (acc ++ [v]))) D2 = some (.lst ((((List.range (m + 1)).filter (btwB l p.1 p.2)).map fun c : Nat => (c : Int)).map V.int)))
            else ((∃ x, [some (V.int m), some (V.int p.1), some (V.int p.2), some (V.ref o)] = [x, some (.int p.1), some (.int p.2), some (.ref o)]) ∧ Same H4 H6 ∧ H6 D2 = some (.lst ((((List.range (m + 1)).filter (btwB l p.1 p.2)).map fun c : Nat => (c : Int)).map V.int)))) := fun {H6 r} s6 e => by
          cases r with
          | true =>
            refine iteT ⟨_, rfl, _, s6 _ _ hv5, ?_, ⟨_, rfl⟩, (s5.trans s6).put hD2, ?_⟩
            · rw [List.length_map, List.length_map]
              refine Nat.lt_of_le_of_lt (List.length_filter_le ..) ?_
              rw [List.length_range, sizeLine_eq]; omega
            · rw [upd_same, List.range_succ, List.filter_append, List.filter_cons_of_pos e.symm, List.filter_nil, List.map_append, List.map_append]; rfl
          | false =>
            refine iteF ⟨⟨_, rfl⟩, s5.trans s6, ?_⟩
            rw [List.range_succ, List.filter_append, List.filter_cons_of_neg (by rw [← e]; exact Bool.false_ne_true), List.filter_nil, List.append_nil]
            exact s6 _ _ hv5
        refine ⟨_, rfl, _, rfl, two_le _ _, fun q hq => ?_⟩
        have s6 : Same H5 (upd H5 q (.tup [.int p.1, .int m])) := Same.new hq
        have s46 := (s4.trans s5).trans s6
        refine ⟨_, rfl, o, _, 1, .ref t, rfl, rfl, ho.grow s46.grow, rfl, t, ws, pd (p.1, m), l.map pd, rfl, .inr (ht.grow s46.grow), pairs_rep (hp.same s46), rep_pair (p := (p.1, (m : Int))) (.inl (.inl upd_same)), shaped_p _, shaped_all l, _, rfl, ?_⟩
        rw [if_neg Bool.false_ne_true, any_pd]
        by_cases c1 : (p.1, (m : Int)) ∈ l
        · rw [decide_eq_true c1]
          refine iteT ⟨_, rfl, _, rfl, two_le _ _, fun q2 hq2 => ?_⟩
          have s7 : Same (upd H5 q (.tup [.int p.1, .int m])) (upd (upd H5 q (.tup [.int p.1, .int m])) q2 (.tup [.int m, .int p.2])) := Same.new hq2
          have s47 := s46.trans s7
          refine ⟨_, rfl, o, _, 1, .ref t, rfl, rfl, ho.grow s47.grow, rfl, t, ws, pd (m, p.2), l.map pd, rfl, .inr (ht.grow s47.grow), pairs_rep (hp.same s47), rep_pair (p := ((m : Int), p.2)) (.inl (.inl upd_same)), shaped_p _, shaped_all l, _, rfl, ?_⟩
          rw [if_neg Bool.false_ne_true, any_pd]
          exact fin (s6.trans s7) (by unfold btwB; rw [decide_eq_true c1, Bool.true_and])
        · rw [decide_eq_false c1]
          exact iteF (fin s6 (by unfold btwB; rw [decide_eq_false c1, Bool.false_and]))
      rintro σ' H5 ⟨_, s5, hv5⟩
      refine ⟨⟨_, hv5⟩, Nat.zero_le _, fun e he => ?_⟩
      have s6 : Same H5 (upd H5 e (.lst [])) := Same.new he
      refine ⟨.list ((((List.range n).filter (btwB l p.1 p.2)).map fun c : Nat => (c : Int)).map PyData.int), .list [], .lst (.inl (.inl (s6 _ _ hv5))) (reps_ints _), .lst (.inl (.inl upd_same)) .nil, shaped_ints _, by decide +kernel, _, rfl, ?_⟩
      rw [if_neg Bool.false_ne_true, eqv_nil]
      have s46 := (s4.trans s5).trans s6
      have hv6 := (s5.trans s6) _ _ hv
      by_cases c1 : OM.isNext l p
      · rw [decide_eq_true (by rw [(nx_iff O.wn).mpr c1]; rfl)]
        have l1 : (Str.ofString (toString p.1)).length = 1 := a1
        have l2 : (Str.ofString (toString p.2)).length = 1 := b1
        have l3 : (Str.ofString "<").length = 1 := rfl
        refine iteT ⟨_, rfl, .inl ⟨rfl, _, .inl (.inl hv6)⟩, _, rfl, p.1, rfl, a4, _, _, rfl, rfl, ?_, _, rfl, p.2, rfl, b4, _, _, rfl, rfl, ?_, D, _, _, rfl, rfl, hv6, ?_, ⟨_, _, rfl⟩, s46.put hD, ?_⟩
        · rw [l1, l3, sizeLine_eq]; omega
        · rw [strLen_append, l1, l2, l3, sizeLine_eq]; omega
        · unfold wordsOf
          rw [List.length_map, List.length_cons, List.length_map]
          have := List.length_filter_le (fun p : Int × Int => decide (OM.isNext l p)) (l.take j)
          refine Nat.lt_of_le_of_lt (Nat.succ_le_succ (List.length_filter_le ..)) ?_
          rw [List.length_take, sizeLine_eq]; omega
        · rw [upd_same, take_snoc hpi, List.filter_append, List.filter_cons_of_pos (by simpa using c1), List.filter_nil]
          unfold wordsOf
          rw [List.map_append, List.map_cons, List.map_cons, List.map_append]; rfl
      · rw [decide_eq_false (fun z => c1 ((nx_iff O.wn).mp (List.map_eq_nil_iff.mp z)))]
        refine iteF ⟨⟨_, _, rfl⟩, s46, ?_⟩
        rw [take_snoc hpi, List.filter_append, List.filter_cons_of_neg (by simpa using c1), List.filter_nil, List.append_nil]
        exact hv6
    rintro σ' H5 ⟨⟨xa, xb, rfl⟩, s5, hv⟩
    rw [hp.len, take_all] at hv
    have en : (l.filter fun p => decide (OM.isNext l p)) = OM.nexts l := by
      unfold OM.nexts
      exact List.filter_congr fun p _ => by congr
    rw [en] at hv
    have hnl := next_len O
    have hns := next_sm O
    -- text
    refine ⟨_, rfl, o, n, l, rfl, hoA.same s5, O, fun H6 s6 => ?_⟩
    have s26 := s5.trans s6
    refine ⟨_, rfl, _, _, _, true, rfl, .str _, rfl, _, rfl, iteF ?_⟩
    refine ⟨_, rfl, rfl, _, rfl, _, D, wordsOf n (OM.nexts l), rfl, rfl, .inl (.inl (s6 _ _ hv)), by decide, ?_, rfl, _, rfl, ?_⟩
    · rw [words_sum h8 hns]
      unfold wordsOf
      simp; omega
    refine ifF (by show ¬ (!decide (V.str (textOf n (OM.nexts l)) = V.str (textOf n (OM.nexts l)))) = true; simp) ?_
    refine ⟨_, rfl, n, l, rfl, O, fun H7 t7 s7 ht7 hA7 => ?_⟩
    refine repr_ord hA7 h8 hl hsm ⟨_, rfl, repr_ord (hoA.same (s26.trans s7)) h8 hl hsm ⟨rfl, _, rfl, ?_⟩⟩
    rw [str_ne]
    exact iteF ⟨⟨_, _, _, _, _, _, rfl⟩, s0.trans (s02.trans (s26.trans s7))⟩
end
end RO

end

section
set_option linter.all false
set_option maxRecDepth 100000
namespace RO
open PySem L2

theorem all_mk {l : PySem.W.OpenLaw} {w : World} {K : PySem.W.Frag} {h : Heap} {mg : Str → Option Value} {fa f1 f2 f3 f4 f5 f6 f7 f8 f9 f10 f11 f12 f13 f14 f15 f16 f17 f18 f19 f20 f21 f22 f23 f24 : Addr} (X : K.In h) (G : h.Ns mainGlobals mg) (hfa : mg "law" = some (.ref fa))
    {od1 an1 od2 an2 od3 an3 od4 an4 od5 an5 od6 an6 od7 an7 od8 an8 od9 an9 od10 an10 od11 an11 od12 an12 od13 an13 od14 an14 od15 an15 od16 an16 od17 an17 od18 an18 od19 an19 od20 an20 od21 an21 od22 an22 od23 an23 od24 an24 : Option Addr} {sl1 sl2 sl3 sl4 sl5 sl6 sl7 sl8 sl9 sl10 sl11 sl12 sl13 sl14 sl15 sl16 sl17 sl18 sl19 sl20 sl21 sl22 sl23 sl24 : Array (Option Value)} {oc1 kV1 dc1 pm1 cd1 ct1 oc2 kV2 dc2 pm2 cd2 ct2 oc3 kV3 dc3 pm3 cd3 ct3 oc4 kV4 dc4 pm4 cd4 ct4 oc5 kV5 dc5 pm5 cd5 ct5 oc6 kV6 dc6 pm6 cd6 ct6 oc7 kV7 dc7 pm7 cd7 ct7 oc8 kV8 dc8 pm8 cd8 ct8 oc9 kV9 dc9 pm9 cd9 ct9 oc10 kV10 dc10 pm10 cd10 ct10 oc11 kV11 dc11 pm11 cd11 ct11 oc12 kV12 dc12 pm12 cd12 ct12 oc13 kV13 dc13 pm13 cd13 ct13 oc14 kV14 dc14 pm14 cd14 ct14 oc15 kV15 dc15 pm15 cd15 ct15 oc16 kV16 dc16 pm16 cd16 ct16 oc17 kV17 dc17 pm17 cd17 ct17 oc18 kV18 dc18 pm18 cd18 ct18 oc19 kV19 dc19 pm19 cd19 ct19 oc20 kV20 dc20 pm20 cd20 ct20 oc21 kV21 dc21 pm21 cd21 ct21 oc22 kV22 dc22 pm22 cd22 ct22 oc23 kV23 dc23 pm23 cd23 ct23 oc24 kV24 dc24 pm24 cd24 ct24 : Value} {t8 tf : Tok}
    (a1 : PySem.W.nsIn K mainGlobals "is_whole" = some (some (.ref f1))) (l1 : K.lookup f1 = some ⟨oc1, od1, .func (PySem.W.fnOf "is_whole" "is_whole" (defArgs sIsWhole) (defBody sIsWhole) (defScope sIsWhole) .none kV1 dc1 pm1 an1 cd1 ct1), sl1⟩) (c1 : PySem.W.codeIn K cd1 "is_whole" = true) (k1 : PySem.W.keepIn K (.ref f1) = true)
    (a2 : PySem.W.nsIn K mainGlobals "is_below" = some (some (.ref f2))) (l2 : K.lookup f2 = some ⟨oc2, od2, .func (PySem.W.fnOf "is_below" "is_below" (defArgs sIsBelow) (defBody sIsBelow) (defScope sIsBelow) .none kV2 dc2 pm2 an2 cd2 ct2), sl2⟩) (c2 : PySem.W.codeIn K cd2 "is_below" = true) (k2 : PySem.W.keepIn K (.ref f2) = true)
    (a3 : PySem.W.nsIn K mainGlobals "is_many" = some (some (.ref f3))) (l3 : K.lookup f3 = some ⟨oc3, od3, .func (PySem.W.fnOf "is_many" "is_many" (defArgs sIsMany) (defBody sIsMany) (defScope sIsMany) .none kV3 dc3 pm3 an3 cd3 ct3), sl3⟩) (c3 : PySem.W.codeIn K cd3 "is_many" = true) (k3 : PySem.W.keepIn K (.ref f3) = true)
    (a4 : PySem.W.nsIn K mainGlobals "is_pair" = some (some (.ref f4))) (l4 : K.lookup f4 = some ⟨oc4, od4, .func (PySem.W.fnOf "is_pair" "is_pair" (defArgs sIsPair) (defBody sIsPair) (defScope sIsPair) .none kV4 dc4 pm4 an4 cd4 ct4), sl4⟩) (c4 : PySem.W.codeIn K cd4 "is_pair" = true) (k4 : PySem.W.keepIn K (.ref f4) = true)
    (a5 : PySem.W.nsIn K mainGlobals "every_pair" = some (some (.ref f5))) (l5 : K.lookup f5 = some ⟨oc5, od5, .func (PySem.W.fnOf "every_pair" "every_pair" (defArgs sEveryPair) (defBody sEveryPair) (defScope sEveryPair) .none kV5 dc5 pm5 an5 cd5 ct5), sl5⟩) (c5 : PySem.W.codeIn K cd5 "every_pair" = true) (k5 : PySem.W.keepIn K (.ref f5) = true)
    (a6 : PySem.W.nsIn K mainGlobals "is_order" = some (some (.ref f6))) (l6 : K.lookup f6 = some ⟨oc6, od6, .func (PySem.W.fnOf "is_order" "is_order" (defArgs sIsOrder) (defBody sIsOrder) (defScope sIsOrder) .none kV6 dc6 pm6 an6 cd6 ct6), sl6⟩) (c6 : PySem.W.codeIn K cd6 "is_order" = true) (k6 : PySem.W.keepIn K (.ref f6) = true)
    (a7 : PySem.W.nsIn K mainGlobals "closed" = some (some (.ref f7))) (l7 : K.lookup f7 = some ⟨oc7, od7, .func (PySem.W.fnOf "closed" "closed" (defArgs sClosed) (defBody sClosed) (defScope sClosed) .none kV7 dc7 pm7 an7 cd7 ct7), sl7⟩) (c7 : PySem.W.codeIn K cd7 "closed" = true) (k7 : PySem.W.keepIn K (.ref f7) = true)
    (a8 : PySem.W.nsIn K mainGlobals "has_ring" = some (some (.ref f8))) (l8 : K.lookup f8 = some ⟨oc8, od8, .func (PySem.W.fnOf "has_ring" "has_ring" (defArgs sHasRing) (defBody sHasRing) (defScope sHasRing) .none kV8 dc8 pm8 an8 cd8 ct8), sl8⟩) (c8 : PySem.W.codeIn K cd8 "has_ring" = true) (k8 : PySem.W.keepIn K (.ref f8) = true)
    (a9 : PySem.W.nsIn K mainGlobals "need_order" = some (some (.ref f9))) (l9 : K.lookup f9 = some ⟨oc9, od9, .func (PySem.W.fnOf "need_order" "need_order" (defArgs sNeedOrder) (defBody sNeedOrder) (defScope sNeedOrder) .none kV9 dc9 pm9 an9 cd9 ct9), sl9⟩) (c9 : PySem.W.codeIn K cd9 "need_order" = true) (k9 : PySem.W.keepIn K (.ref f9) = true)
    (a10 : PySem.W.nsIn K mainGlobals "next_pairs" = some (some (.ref f10))) (l10 : K.lookup f10 = some ⟨oc10, od10, .func (PySem.W.fnOf "next_pairs" "next_pairs" (defArgs sNextPairs) (defBody sNextPairs) (defScope sNextPairs) .none kV10 dc10 pm10 an10 cd10 ct10), sl10⟩) (c10 : PySem.W.codeIn K cd10 "next_pairs" = true) (k10 : PySem.W.keepIn K (.ref f10) = true)
    (a11 : PySem.W.nsIn K mainGlobals "is_parted" = some (some (.ref f11))) (l11 : K.lookup f11 = some ⟨oc11, od11, .func (PySem.W.fnOf "is_parted" "is_parted" (defArgs sIsParted) (defBody sIsParted) (defScope sIsParted) .none kV11 dc11 pm11 an11 cd11 ct11), sl11⟩) (c11 : PySem.W.codeIn K cd11 "is_parted" = true) (k11 : PySem.W.keepIn K (.ref f11) = true)
    (a12 : PySem.W.nsIn K mainGlobals "show_order" = some (some (.ref f12))) (l12 : K.lookup f12 = some ⟨oc12, od12, .func (PySem.W.fnOf "show_order" "show_order" (defArgs sShow) (defBody sShow) (defScope sShow) .none kV12 dc12 pm12 an12 cd12 ct12), sl12⟩) (c12 : PySem.W.codeIn K cd12 "show_order" = true) (k12 : PySem.W.keepIn K (.ref f12) = true)
    (a13 : PySem.W.nsIn K mainGlobals "read_order" = some (some (.ref f13))) (l13 : K.lookup f13 = some ⟨oc13, od13, .func (PySem.W.fnOf "read_order" "read_order" (defArgs sRead) (defBody sRead) (defScope sRead) .none kV13 dc13 pm13 an13 cd13 ct13), sl13⟩) (c13 : PySem.W.codeIn K cd13 "read_order" = true) (k13 : PySem.W.keepIn K (.ref f13) = true)
    (a14 : PySem.W.nsIn K mainGlobals "read_pairs" = some (some (.ref f14))) (l14 : K.lookup f14 = some ⟨oc14, od14, .func (PySem.W.fnOf "read_pairs" "read_pairs" (defArgs sReadPairs) (defBody sReadPairs) (defScope sReadPairs) .none kV14 dc14 pm14 an14 cd14 ct14), sl14⟩) (c14 : PySem.W.codeIn K cd14 "read_pairs" = true) (k14 : PySem.W.keepIn K (.ref f14) = true)
    (a15 : PySem.W.nsIn K mainGlobals "read_pair" = some (some (.ref f15))) (l15 : K.lookup f15 = some ⟨oc15, od15, .func (PySem.W.fnOf "read_pair" "read_pair" (defArgs sReadPair) (defBody sReadPair) (defScope sReadPair) .none kV15 dc15 pm15 an15 cd15 ct15), sl15⟩) (c15 : PySem.W.codeIn K cd15 "read_pair" = true) (k15 : PySem.W.keepIn K (.ref f15) = true)
    (a16 : PySem.W.nsIn K mainGlobals "read_figure" = some (some (.ref f16))) (l16 : K.lookup f16 = some ⟨oc16, od16, .func (PySem.W.fnOf "read_figure" "read_figure" (defArgs sFigure) (defBody sFigure) (defScope sFigure) .none kV16 dc16 pm16 an16 cd16 ct16), sl16⟩) (c16 : PySem.W.codeIn K cd16 "read_figure" = true) (k16 : PySem.W.keepIn K (.ref f16) = true)
    (a17 : PySem.W.nsIn K mainGlobals "_law_cell" = some (some (.ref f17))) (l17 : K.lookup f17 = some ⟨oc17, od17, .func (PySem.W.fnOf "_law_cell" "_law_cell" (defArgs sCell) (defBody sCell) (defScope sCell) .none kV17 dc17 pm17 an17 cd17 ct17), sl17⟩) (c17 : PySem.W.codeIn K cd17 "_law_cell" = true) (k17 : PySem.W.keepIn K (.ref f17) = true)
    (a18 : PySem.W.nsIn K mainGlobals "_law_mix" = some (some (.ref f18))) (l18 : K.lookup f18 = some ⟨oc18, od18, .func (PySem.W.fnOf "_law_mix" "_law_mix" (defArgs sMix) (defBody sMix) (defScope sMix) .none kV18 dc18 pm18 an18 cd18 ct18), sl18⟩) (c18 : PySem.W.codeIn K cd18 "_law_mix" = true) (k18 : PySem.W.keepIn K (.ref f18) = true)
    (a19 : PySem.W.nsIn K mainGlobals "_law_box" = some (some (.ref f19))) (l19 : K.lookup f19 = some ⟨oc19, od19, .func (PySem.W.fnOf "_law_box" "_law_box" (defArgs sBox) (defBody sBox) (defScope sBox) .none kV19 dc19 pm19 an19 cd19 ct19), sl19⟩) (c19 : PySem.W.codeIn K cd19 "_law_box" = true) (k19 : PySem.W.keepIn K (.ref f19) = true)
    (a20 : PySem.W.nsIn K mainGlobals "_law_take" = some (some (.ref f20))) (l20 : K.lookup f20 = some ⟨oc20, od20, .func (PySem.W.fnOf "_law_take" "_law_take" (defArgs sTake) (defBody sTake) (defScope sTake) .none kV20 dc20 pm20 an20 cd20 ct20), sl20⟩) (c20 : PySem.W.codeIn K cd20 "_law_take" = true) (k20 : PySem.W.keepIn K (.ref f20) = true)
    (a21 : PySem.W.nsIn K mainGlobals "_law_mixed_up" = some (some (.ref f21))) (l21 : K.lookup f21 = some ⟨oc21, od21, .func (PySem.W.fnOf "_law_mixed_up" "_law_mixed_up" (defArgs sMixedUp) (defBody sMixedUp) (defScope sMixedUp) .none kV21 dc21 pm21 an21 cd21 ct21), sl21⟩) (c21 : PySem.W.codeIn K cd21 "_law_mixed_up" = true) (k21 : PySem.W.keepIn K (.ref f21) = true)
    (a22 : PySem.W.nsIn K mainGlobals "_law_closed" = some (some (.ref f22))) (l22 : K.lookup f22 = some ⟨oc22, od22, .func (PySem.W.fnOf "_law_closed" "_law_closed" (defArgs sLClosed) (defBody sLClosed) (defScope sLClosed) .none kV22 dc22 pm22 an22 cd22 ct22), sl22⟩) (c22 : PySem.W.codeIn K cd22 "_law_closed" = true) (k22 : PySem.W.keepIn K (.ref f22) = true)
    (a23 : PySem.W.nsIn K mainGlobals "_law_order" = some (some (.ref f23))) (l23 : K.lookup f23 = some ⟨oc23, od23, .func (PySem.W.fnOf "_law_order" "_law_order" (defArgs sLOrder) (defBody sLOrder) (defScope sLOrder) .none kV23 dc23 pm23 an23 cd23 ct23), sl23⟩) (c23 : PySem.W.codeIn K cd23 "_law_order" = true) (k23 : PySem.W.keepIn K (.ref f23) = true)
    (a24 : PySem.W.nsIn K mainGlobals "law" = some (some (.ref f24))) (l24 : K.lookup f24 = some ⟨oc24, od24, .func (PySem.W.fnOf "law" "law" (defArgs sLaw) (defBody sLaw) (defScope sLaw) .none kV24 dc24 pm24 an24 cd24 ct24), sl24⟩) (c24 : PySem.W.codeIn K cd24 "law" = true) (k24 : PySem.W.keepIn K (.ref f24) = true)
    (z1 : PySem.W.nsIn K mainGlobals "isinstance" = some none)
    (z2 : PySem.W.nsIn K mainGlobals "int" = some none)
    (z3 : PySem.W.nsIn K mainGlobals "bool" = some none)
    (z4 : PySem.W.nsIn K mainGlobals "tuple" = some none)
    (z5 : PySem.W.nsIn K mainGlobals "list" = some none)
    (z6 : PySem.W.nsIn K mainGlobals "len" = some none)
    (z7 : PySem.W.nsIn K mainGlobals "all" = some none)
    (z8 : PySem.W.nsIn K mainGlobals "any" = some none)
    (z9 : PySem.W.nsIn K mainGlobals "range" = some none)
    (z10 : PySem.W.nsIn K mainGlobals "sorted" = some none)
    (z11 : PySem.W.nsIn K mainGlobals "set" = some none)
    (z12 : PySem.W.nsIn K mainGlobals "abs" = some none)
    (z13 : PySem.W.nsIn K mainGlobals "divmod" = some none)
    (z14 : PySem.W.nsIn K mainGlobals "max" = some none)
    (z15 : PySem.W.nsIn K mainGlobals "min" = some none)
    (z16 : PySem.W.nsIn K mainGlobals "repr" = some none)
    (zs : PySem.W.nsIn K mainGlobals "str" = some none) (zf : PySem.W.nsIn K mainGlobals "FIGURES" = some (some (.str "0123456789" tf)))
    (z0 : PySem.W.nsIn K mainGlobals "MOST_THINGS" = some (some (.int 8 t8))) :
    ∃ fd : FuncData, (∀ (s : Shared) (v : Value), BindsTo s fd ⟨[v], []⟩ [("script", v)]) ∧ ∀ base : Heap, K.In base → base.Ns mainGlobals mg → FnOk l.prog w K mg base CX0 8 fa fd ["script"] (spLaw K) := by
  have e := hfa.symm.trans (PySem.W.mg_of X G a24)
  cases e
  have B : Bt mg := ⟨PySem.W.mg_none_of X G z1, PySem.W.mg_none_of X G z2, PySem.W.mg_none_of X G z3, PySem.W.mg_none_of X G z4, PySem.W.mg_none_of X G z5, PySem.W.mg_none_of X G z6, PySem.W.mg_none_of X G z7, PySem.W.mg_none_of X G z8, PySem.W.mg_none_of X G z9, PySem.W.mg_none_of X G z10, PySem.W.mg_none_of X G z11, PySem.W.mg_none_of X G z12, PySem.W.mg_none_of X G z13, PySem.W.mg_none_of X G z14, PySem.W.mg_none_of X G z15, PySem.W.mg_none_of X G z16⟩
  have m8 := PySem.W.mg_of X G z0
  have mS := PySem.W.mg_none_of X G zs
  have mF := PySem.W.mg_of X G zf
  have U1 := fun_mk (st := sIsWhole) l1 c1 k1
  have F1 : Fn K mg "is_whole" sIsWhole ["thing"] f1 _ := ⟨PySem.W.mg_of X G a1, U1, U1.binds (ps := ["thing"]) fun _ _ _ _ _ _ us hl => match us, hl with | [_], _ => rfl⟩
  have U2 := fun_mk (st := sIsBelow) l2 c2 k2
  have F2 : Fn K mg "is_below" sIsBelow ["thing", "bound"] f2 _ := ⟨PySem.W.mg_of X G a2, U2, U2.binds (ps := ["thing", "bound"]) fun _ _ _ _ _ _ us hl => match us, hl with | [_, _], _ => rfl⟩
  have U3 := fun_mk (st := sIsMany) l3 c3 k3
  have F3 : Fn K mg "is_many" sIsMany ["thing"] f3 _ := ⟨PySem.W.mg_of X G a3, U3, U3.binds (ps := ["thing"]) fun _ _ _ _ _ _ us hl => match us, hl with | [_], _ => rfl⟩
  have U4 := fun_mk (st := sIsPair) l4 c4 k4
  have F4 : Fn K mg "is_pair" sIsPair ["thing", "many"] f4 _ := ⟨PySem.W.mg_of X G a4, U4, U4.binds (ps := ["thing", "many"]) fun _ _ _ _ _ _ us hl => match us, hl with | [_, _], _ => rfl⟩
  have U5 := fun_mk (st := sEveryPair) l5 c5 k5
  have F5 : Fn K mg "every_pair" sEveryPair ["many"] f5 _ := ⟨PySem.W.mg_of X G a5, U5, U5.binds (ps := ["many"]) fun _ _ _ _ _ _ us hl => match us, hl with | [_], _ => rfl⟩
  have U6 := fun_mk (st := sIsOrder) l6 c6 k6
  have F6 : Fn K mg "is_order" sIsOrder ["thing"] f6 _ := ⟨PySem.W.mg_of X G a6, U6, U6.binds (ps := ["thing"]) fun _ _ _ _ _ _ us hl => match us, hl with | [_], _ => rfl⟩
  have U7 := fun_mk (st := sClosed) l7 c7 k7
  have F7 : Fn K mg "closed" sClosed ["many", "pairs"] f7 _ := ⟨PySem.W.mg_of X G a7, U7, U7.binds (ps := ["many", "pairs"]) fun _ _ _ _ _ _ us hl => match us, hl with | [_, _], _ => rfl⟩
  have U8 := fun_mk (st := sHasRing) l8 c8 k8
  have F8 : Fn K mg "has_ring" sHasRing ["pairs"] f8 _ := ⟨PySem.W.mg_of X G a8, U8, U8.binds (ps := ["pairs"]) fun _ _ _ _ _ _ us hl => match us, hl with | [_], _ => rfl⟩
  have U9 := fun_mk (st := sNeedOrder) l9 c9 k9
  have F9 : Fn K mg "need_order" sNeedOrder ["thing"] f9 _ := ⟨PySem.W.mg_of X G a9, U9, U9.binds (ps := ["thing"]) fun _ _ _ _ _ _ us hl => match us, hl with | [_], _ => rfl⟩
  have U10 := fun_mk (st := sNextPairs) l10 c10 k10
  have F10 : Fn K mg "next_pairs" sNextPairs ["order"] f10 _ := ⟨PySem.W.mg_of X G a10, U10, U10.binds (ps := ["order"]) fun _ _ _ _ _ _ us hl => match us, hl with | [_], _ => rfl⟩
  have U11 := fun_mk (st := sIsParted) l11 c11 k11
  have F11 : Fn K mg "is_parted" sIsParted ["order", "a", "b"] f11 _ := ⟨PySem.W.mg_of X G a11, U11, U11.binds (ps := ["order", "a", "b"]) fun _ _ _ _ _ _ us hl => match us, hl with | [_, _, _], _ => rfl⟩
  have U12 := fun_mk (st := sShow) l12 c12 k12
  have F12 : Fn K mg "show_order" sShow ["order"] f12 _ := ⟨PySem.W.mg_of X G a12, U12, U12.binds (ps := ["order"]) fun _ _ _ _ _ _ us hl => match us, hl with | [_], _ => rfl⟩
  have U13 := fun_mk (st := sRead) l13 c13 k13
  have F13 : Fn K mg "read_order" sRead ["text"] f13 _ := ⟨PySem.W.mg_of X G a13, U13, U13.binds (ps := ["text"]) fun _ _ _ _ _ _ us hl => match us, hl with | [_], _ => rfl⟩
  have U14 := fun_mk (st := sReadPairs) l14 c14 k14
  have F14 : Fn K mg "read_pairs" sReadPairs ["words", "many"] f14 _ := ⟨PySem.W.mg_of X G a14, U14, U14.binds (ps := ["words", "many"]) fun _ _ _ _ _ _ us hl => match us, hl with | [_, _], _ => rfl⟩
  have U15 := fun_mk (st := sReadPair) l15 c15 k15
  have F15 : Fn K mg "read_pair" sReadPair ["word", "many"] f15 _ := ⟨PySem.W.mg_of X G a15, U15, U15.binds (ps := ["word", "many"]) fun _ _ _ _ _ _ us hl => match us, hl with | [_, _], _ => rfl⟩
  have U16 := fun_mk (st := sFigure) l16 c16 k16
  have F16 : Fn K mg "read_figure" sFigure ["word"] f16 _ := ⟨PySem.W.mg_of X G a16, U16, U16.binds (ps := ["word"]) fun _ _ _ _ _ _ us hl => match us, hl with | [_], _ => rfl⟩
  have U17 := fun_mk (st := sCell) l17 c17 k17
  have F17 : Fn K mg "_law_cell" sCell ["script", "k"] f17 _ := ⟨PySem.W.mg_of X G a17, U17, U17.binds (ps := ["script", "k"]) fun _ _ _ _ _ _ us hl => match us, hl with | [_, _], _ => rfl⟩
  have U18 := fun_mk (st := sMix) l18 c18 k18
  have F18 : Fn K mg "_law_mix" sMix ["cell", "k"] f18 _ := ⟨PySem.W.mg_of X G a18, U18, U18.binds (ps := ["cell", "k"]) fun _ _ _ _ _ _ us hl => match us, hl with | [_, _], _ => rfl⟩
  have U19 := fun_mk (st := sBox) l19 c19 k19
  have F19 : Fn K mg "_law_box" sBox ["script", "k"] f19 _ := ⟨PySem.W.mg_of X G a19, U19, U19.binds (ps := ["script", "k"]) fun _ _ _ _ _ _ us hl => match us, hl with | [_, _], _ => rfl⟩
  have U20 := fun_mk (st := sTake) l20 c20 k20
  have F20 : Fn K mg "_law_take" sTake ["box", "many"] f20 _ := ⟨PySem.W.mg_of X G a20, U20, U20.binds (ps := ["box", "many"]) fun _ _ _ _ _ _ us hl => match us, hl with | [_, _], _ => rfl⟩
  have U21 := fun_mk (st := sMixedUp) l21 c21 k21
  have F21 : Fn K mg "_law_mixed_up" sMixedUp ["box", "some"] f21 _ := ⟨PySem.W.mg_of X G a21, U21, U21.binds (ps := ["box", "some"]) fun _ _ _ _ _ _ us hl => match us, hl with | [_, _], _ => rfl⟩
  have U22 := fun_mk (st := sLClosed) l22 c22 k22
  have F22 : Fn K mg "_law_closed" sLClosed ["pairs"] f22 _ := ⟨PySem.W.mg_of X G a22, U22, U22.binds (ps := ["pairs"]) fun _ _ _ _ _ _ us hl => match us, hl with | [_], _ => rfl⟩
  have U23 := fun_mk (st := sLOrder) l23 c23 k23
  have F23 : Fn K mg "_law_order" sLOrder ["box", "most"] f23 _ := ⟨PySem.W.mg_of X G a23, U23, U23.binds (ps := ["box", "most"]) fun _ _ _ _ _ _ us hl => match us, hl with | [_, _], _ => rfl⟩
  have U24 := fun_mk (st := sLaw) l24 c24 k24
  have F24 : Fn K mg "law" sLaw ["script"] fa _ := ⟨PySem.W.mg_of X G a24, U24, U24.binds (ps := ["script"]) fun _ _ _ _ _ _ us hl => match us, hl with | [_], _ => rfl⟩
  refine ⟨PySem.W.fnOf "law" "law" (defArgs sLaw) (defBody sLaw) (defScope sLaw) .none kV24 dc24 pm24 an24 cd24 ct24, fun s v => .of_eq rfl, fun base _ _ => ?_⟩
  have OBelow : FnOk l.prog w K mg base CX0 2 f2 _ ["thing", "bound"] (spBelow K) := ok_isBelow F2 F1 B
  have OMany : FnOk l.prog w K mg base CX0 2 f3 _ ["thing"] (spMany K) := ok_isMany F3 F1 B m8
  have OPair : FnOk l.prog w K mg base CX0 3 f4 _ ["thing", "many"] (spPair K) := ok_isPair F4 F2 OBelow B
  have OEvery : FnOk l.prog w K mg base CX0 1 f5 _ ["many"] (spEvery K) := ok_every F5 B
  have OClosed : FnOk l.prog w K mg base CX0 2 f7 _ ["many", "pairs"] (spClosed K) := ok_closed F7 F5 OEvery B
  have ORing : FnOk l.prog w K mg base CX0 1 f8 _ ["pairs"] (spRing K) := ok_ring F8 B
  have OIs : FnOk l.prog w K mg base CX0 4 f6 _ ["thing"] (spIsOrder K) := ok_isOrder F6 F3 F4 F7 F8 OMany OPair OClosed ORing B
  have ONeed : FnOk l.prog w K mg base CX0 5 f9 _ ["thing"] (spNeed K) := ok_need F9 F6 OIs
  have OParted : FnOk l.prog w K mg base CX0 1 f11 _ ["order", "a", "b"] (spParted K) := ok_parted F11 B
  have ONext : FnOk l.prog w K mg base CX0 6 f10 _ ["order"] (spNext K) := ok_next F10 F9 F11 ONeed OParted
  have OFig : FnOk l.prog w K mg base CX0 1 f16 _ ["word"] spFigure := ok_figure F16 B mF
  have ORPair : FnOk l.prog w K mg base CX0 4 f15 _ ["word", "many"] (spReadPair K) := ok_readPair F15 F16 F4 OFig OPair B
  have ORPairs : FnOk l.prog w K mg base CX0 5 f14 _ ["words", "many"] (spReadPairs K) := ok_readPairs F14 F15 ORPair B
  have ORead : FnOk l.prog w K mg base CX0 7 f13 _ ["text"] (spRead K) := ok_read F13 F16 F3 F14 F7 F6 F10 OFig OMany ORPairs OClosed OIs ONext B mS
  have OShow : FnOk l.prog w K mg base CX0 7 f12 _ ["order"] (spShow K) := ok_show F12 F10 ONext mS
  have OCell : FnOk l.prog w K mg base CX0 1 f17 _ ["script", "k"] (spCell K) := ok_cell F17 B
  have OMix : FnOk l.prog w K mg base CX0 1 f18 _ ["cell", "k"] spMix := ok_mix F18
  have OBox : FnOk l.prog w K mg base CX0 2 f19 _ ["script", "k"] (spBox K) := ok_box F19 F17 F18 OCell OMix B
  have OTake : FnOk l.prog w K mg base CX0 1 f20 _ ["box", "many"] spTake := ok_take F20 B
  have OMixed : FnOk l.prog w K mg base CX0 2 f21 _ ["box", "some"] spMixed := ok_mixed F21 F20 OTake B
  have OLClosed : FnOk l.prog w K mg base CX0 1 f22 _ ["pairs"] (spLClosed K) := ok_lclosed F22 B
  have OLOrder : FnOk l.prog w K mg base CX0 3 f23 _ ["box", "most"] (spLOrder K) := ok_lorder F23 F20 F21 F22 OTake OMixed OLClosed B
  exact ok_law F24 ⟨F19, OBox, F23, OLOrder, F12, OShow, F13, ORead⟩ B mS
theorem walk {l : PySem.W.OpenLaw} {q : Program} {loose : List Str} {XP : (Str → Option Value) → Heap → Prop} {YP : World → Heap → Prop} {d : DefRec} {K : Params → PySem.W.Frag} (hn : l.most = some 63) (hdf : d.params.defaults = [])
    (hY : ∀ (w : World) (h : Heap), YP w h → (K w.params).In h)
    (F : ∀ (w : World) (mg : Str → Option Value) (fa : Addr) (h : Heap), (K w.params).In h → h.Ns mainGlobals mg → mg d.name = some (.ref fa) →
      ∃ fd : FuncData, (∀ (s : Shared) (u : Value), BindsTo s fd ⟨[u], []⟩ [("script", u)]) ∧ ∀ base : Heap, (K w.params).In base → base.Ns mainGlobals mg → FnOk l.prog w (K w.params) mg base CX0 8 fa fd ["script"] (spLaw (K w.params))) :
    PySem.W.WalkO q loose XP YP l.row.toRowW d [] (fun f vs => PySem.call f vs) :=
  L2.walk_of (n := 63) (k := 8) (x := "script") (CX := fun _ => CX0) (sp := fun w => spLaw (K w.params)) hn (by decide) hdf ⟨rfl, by decide, by decide, rfl⟩ hY F (fun _ _ a ns hl _ hS => ⟨a, ns, rfl, hS, hl, fun _ => rfl⟩) fun _ _ _ _ _ z => z
end RO
open PySem PySem.W PyProof.Rows
set_option maxRecDepth 100000 in
set_option maxHeartbeats 0 in
theorem PySem.Challenge.cw_rowsorder_k05_orders_written_holds : PySem.Challenge.rw_rowsorder_k05_orders_written.Holds := by
  w_on; o_law; k_head; (case hw => w_witness2)
  k_fill
  refine RO.walk (l := PySem.Challenge.rw_rowsorder_k05_orders_written) rfl rfl (fun w h Y => PySem.W.kIn_of Y) ?F
  case F =>
    intro w mg fa h KX G hmg
    refine' RO.all_mk KX G hmg ?a1 ?l1 ?c1 ?k1 ?a2 ?l2 ?c2 ?k2 ?a3 ?l3 ?c3 ?k3 ?a4 ?l4 ?c4 ?k4 ?a5 ?l5 ?c5 ?k5 ?a6 ?l6 ?c6 ?k6 ?a7 ?l7 ?c7 ?k7 ?a8 ?l8 ?c8 ?k8 ?a9 ?l9 ?c9 ?k9 ?a10 ?l10 ?c10 ?k10 ?a11 ?l11 ?c11 ?k11 ?a12 ?l12 ?c12 ?k12 ?a13 ?l13 ?c13 ?k13 ?a14 ?l14 ?c14 ?k14 ?a15 ?l15 ?c15 ?k15 ?a16 ?l16 ?c16 ?k16 ?a17 ?l17 ?c17 ?k17 ?a18 ?l18 ?c18 ?k18 ?a19 ?l19 ?c19 ?k19 ?a20 ?l20 ?c20 ?k20 ?a21 ?l21 ?c21 ?k21 ?a22 ?l22 ?c22 ?k22 ?a23 ?l23 ?c23 ?k23 ?a24 ?l24 ?c24 ?k24 ?z1 ?z2 ?z3 ?z4 ?z5 ?z6 ?z7 ?z8 ?z9 ?z10 ?z11 ?z12 ?z13 ?z14 ?z15 ?z16 ?zs ?zf ?z0
    (case a1 => k_is); (case l1 => k_is); (case c1 => k_is); (case k1 => k_is)
    (case a2 => k_is); (case l2 => k_is); (case c2 => k_is); (case k2 => k_is)
    (case a3 => k_is); (case l3 => k_is); (case c3 => k_is); (case k3 => k_is)
    (case a4 => k_is); (case l4 => k_is); (case c4 => k_is); (case k4 => k_is)
    (case a5 => k_is); (case l5 => k_is); (case c5 => k_is); (case k5 => k_is)
    (case a6 => k_is); (case l6 => k_is); (case c6 => k_is); (case k6 => k_is)
    (case a7 => k_is); (case l7 => k_is); (case c7 => k_is); (case k7 => k_is)
    (case a8 => k_is); (case l8 => k_is); (case c8 => k_is); (case k8 => k_is)
    (case a9 => k_is); (case l9 => k_is); (case c9 => k_is); (case k9 => k_is)
    (case a10 => k_is); (case l10 => k_is); (case c10 => k_is); (case k10 => k_is)
    (case a11 => k_is); (case l11 => k_is); (case c11 => k_is); (case k11 => k_is)
    (case a12 => k_is); (case l12 => k_is); (case c12 => k_is); (case k12 => k_is)
    (case a13 => k_is); (case l13 => k_is); (case c13 => k_is); (case k13 => k_is)
    (case a14 => k_is); (case l14 => k_is); (case c14 => k_is); (case k14 => k_is)
    (case a15 => k_is); (case l15 => k_is); (case c15 => k_is); (case k15 => k_is)
    (case a16 => k_is); (case l16 => k_is); (case c16 => k_is); (case k16 => k_is)
    (case a17 => k_is); (case l17 => k_is); (case c17 => k_is); (case k17 => k_is)
    (case a18 => k_is); (case l18 => k_is); (case c18 => k_is); (case k18 => k_is)
    (case a19 => k_is); (case l19 => k_is); (case c19 => k_is); (case k19 => k_is)
    (case a20 => k_is); (case l20 => k_is); (case c20 => k_is); (case k20 => k_is)
    (case a21 => k_is); (case l21 => k_is); (case c21 => k_is); (case k21 => k_is)
    (case a22 => k_is); (case l22 => k_is); (case c22 => k_is); (case k22 => k_is)
    (case a23 => k_is); (case l23 => k_is); (case c23 => k_is); (case k23 => k_is)
    (case a24 => k_is); (case l24 => k_is); (case c24 => k_is); (case k24 => k_is)
    (case z1 => k_is); (case z2 => k_is); (case z3 => k_is); (case z4 => k_is); (case z5 => k_is); (case z6 => k_is); (case z7 => k_is); (case z8 => k_is); (case z9 => k_is); (case z10 => k_is); (case z11 => k_is); (case z12 => k_is); (case z13 => k_is); (case z14 => k_is); (case z15 => k_is); (case z16 => k_is); (case zs => k_is); (case zf => k_is); (case z0 => k_is)

end
