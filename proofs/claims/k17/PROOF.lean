import PyProof.Rows.All
import Wide.All
import OpenK.AllK
import Wide.FinOn
import Lean
import PyProof.EqAt
import PyProof.EqKinds
import PyProof.TupleCall
import PyProof.NeKinds
import PyProof.ExcArgsOwn
import PyProof.ZipIter
import PyProof.AutoIntG2
import KE.KStateDown
import PyProof.Draws
import PyProof.EnumMake
import PyProof.Rows.EnumRows
import PyProof.Rows.StrNews2
import PyProof.Rows.StrJoin2
import KE.KPairTest
import PyProof.StrLawsFirst
import PyProof.Rows.StrFromFirst
import PyProof.StrLawsIdx
import PyProof.StrBlockI
import PySem.Challenge.RW_goldplaces_k17_read_or_refused
set_option Elab.async false
set_option linter.all false
set_option maxRecDepth 100000
/-! THE HAND LAYER, for ints, bools, texts, own classes, LISTS and tuples (index, slices, in, append, pop ..), calls, loops. Paste it whole ahead of your own text; what your proof does not reach may be deleted. -/
namespace L2
open PySem PySem.Spec PyProof.Rows

/-- a key: an int or a str -/
abbrev Key := Sum Int Str
def keyIs : Key → Value → Bool
  | .inl k, v => Value.isInt k v
  | .inr x, v => Value.isStrOf x v
def keyH (w : World) : Key → Int
  | .inl k => hashInt k
  | .inr x => hashStr w x
theorem keyIs_shape : ∀ {k : Key} {v : Value}, keyIs k v = true → (∃ i t, k = Sum.inl i ∧ v = Value.int i t) ∨ (∃ x t, k = Sum.inr x ∧ v = Value.str x t)
  | .inl i, v, h => by
    obtain ⟨t, e⟩ := Value.isInt_shape (k := i) (v := v) h
    exact .inl ⟨i, t, rfl, e⟩
  | .inr x, v, h => by
    obtain ⟨t, e⟩ := Value.isStrOf_shape (x := x) (v := v) h
    exact .inr ⟨x, t, rfl, e⟩
theorem keyIs_int (i : Int) (t : Tok) : keyIs (.inl i) (.int i t) = true := by simp [keyIs, Value.isInt]
theorem keyIs_str (x : Str) (t : Tok) : keyIs (.inr x) (.str x t) = true := by simp [keyIs, Value.isStrOf]
theorem key_ll (a b : Int) : decide ((Sum.inl a : Key) = Sum.inl b) = (a == b) := by
  by_cases e : a = b
  · subst e; simp
  · have h : ¬ (Sum.inl a : Key) = Sum.inl b := fun q => e (Sum.inl.inj q)
    rw [decide_eq_false h]
    exact (beq_eq_false_iff_ne.mpr e).symm
theorem key_rr (a b : Str) : decide ((Sum.inr a : Key) = Sum.inr b) = decide (a = b) := by
  by_cases e : a = b
  · subst e; simp
  · have h : ¬ (Sum.inr a : Key) = Sum.inr b := fun q => e (Sum.inr.inj q)
    rw [decide_eq_false h, decide_eq_false e]
theorem key_lr (a : Int) (b : Str) : decide ((Sum.inl a : Key) = Sum.inr b) = false := decide_eq_false (fun q => nomatch q)
theorem key_rl (a : Str) (b : Int) : decide ((Sum.inr a : Key) = Sum.inl b) = false := decide_eq_false (fun q => nomatch q)

def mixKind (prog : Program) (w : World) : PySem.KeyKind prog w Key where
  is := keyIs
  hash := keyH w
  inj := fun v a b ha hb => by
    rcases keyIs_shape ha with ⟨i, t, rfl, rfl⟩ | ⟨x, t, rfl, rfl⟩
    · rcases keyIs_shape hb with ⟨j, u, rfl, e⟩ | ⟨y, u, rfl, e⟩
      · injection e with e1 _; rw [e1]
      · exact nomatch e
    · rcases keyIs_shape hb with ⟨j, u, rfl, e⟩ | ⟨y, u, rfl, e⟩
      · exact nomatch e
      · injection e with e1 _; rw [e1]
  byValue := fun k v h => by
    rcases keyIs_shape h with ⟨i, t, rfl, rfl⟩ | ⟨x, t, rfl, rfl⟩ <;> rfl
  pyHash := fun hv h => by
    rcases keyIs_shape hv with ⟨i, t, rfl, rfl⟩ | ⟨x, t, rfl, rfl⟩
    · exact wpAny_pyHash_int h
    · exact wpAny_pyHash_str h
  eqBool := fun hu hv h => by
    rcases keyIs_shape hu with ⟨i, t, rfl, rfl⟩ | ⟨x, t, rfl, rfl⟩
    · rcases keyIs_shape hv with ⟨j, u, rfl, rfl⟩ | ⟨y, u, rfl, rfl⟩
      · rw [key_ll] at h; exact wpAny_eqBool_int h
      · rw [key_lr] at h; exact SeqAt.EqAt.int_str i t y u _ _ _ _ h
    · rcases keyIs_shape hv with ⟨j, u, rfl, rfl⟩ | ⟨y, u, rfl, rfl⟩
      · rw [key_rl] at h; exact SeqAt.EqAt.str_int x t j u _ _ _ _ h
      · rw [key_rr] at h; exact wpAny_eqBool_str h
  «strs» := fun k x t v h => by
    rcases keyIs_shape h with ⟨i, u, rfl, e⟩ | ⟨y, u, rfl, e⟩
    · exact nomatch e
    · injection e with e1 _
      subst e1
      cases v <;> rfl

theorem mixKind_is (prog : Program) (w : World) (k : Key) (v : Value) : (mixKind prog w).is k v = keyIs k v := rfl
theorem mixKind_int (prog : Program) (w : World) (i : Int) (t : Tok) : (mixKind prog w).is (.inl i) (.int i t) = true := keyIs_int i t
theorem mixKind_str (prog : Program) (w : World) (x : Str) (t : Tok) : (mixKind prog w).is (.inr x) (.str x t) = true := keyIs_str x t
end L2

namespace L2
open PySem PySem.Spec PyProof.Rows

/-- a value, without the heap -/
inductive V where
  | non | bl (b : Bool) | int (i : Int) | str (x : Str) | byt (b : Array UInt8) | flt (b : UInt64) | ref (a : Addr) | ty (n : String)
  deriving DecidableEq

def RelV : V → Value → Prop
  | .non, u => u = Value.none
  | .bl b, u => u = Value.bool b
  | .int i, u => ∃ t, u = Value.int i t
  | .str x, u => ∃ t, u = Value.str x t
  | .byt b, u => ∃ t, u = Value.bytes b t
  | .flt b, u => ∃ t, u = Value.float b t
  | .ref a, u => u = Value.ref a
  | .ty n, u => u = Value.type n

abbrev Vals : List V → List Value → Prop := Paired RelV
theorem Vals.length {xs : List V} {us : List Value} (r : Vals xs us) : xs.length = us.length := Paired.length r
theorem Vals.get : ∀ {xs : List V} {us : List Value} {i : Nat} {x : V}, Vals xs us → xs[i]? = some x → ∃ u, us[i]? = some u ∧ RelV x u
  | _, _, _, _, .nil, e => by simp at e
  | _, _, 0, _, .cons r _, e => by simp at e; subst e; exact ⟨_, rfl, r⟩
  | _, _, i + 1, x, .cons _ t, e => by
    obtain ⟨u, h1, h2⟩ := Vals.get (i := i) (x := x) t (by simpa using e)
    exact ⟨u, by simpa using h1, h2⟩
theorem Vals.set {x : V} {u : Value} (r : RelV x u) : ∀ {xs : List V} {us : List Value} (i : Nat), Vals xs us → Vals (xs.set i x) (us.set i u)
  | _, _, _, .nil => .nil
  | _, _, 0, .cons _ t => .cons r t
  | _, _, i + 1, .cons q t => .cons q (Vals.set r i t)
theorem Vals.append : ∀ {xs ys : List V} {us ws : List Value}, Vals xs us → Vals ys ws → Vals (xs ++ ys) (us ++ ws)
  | _, _, _, _, .nil, s => s
  | _, _, _, _, .cons r t, s => .cons r (Vals.append t s)
theorem Vals.take : ∀ {xs : List V} {us : List Value} (n : Nat), Vals xs us → Vals (xs.take n) (us.take n)
  | _, _, 0, _ => .nil
  | _, _, _ + 1, .nil => .nil
  | _, _, n + 1, .cons r t => .cons r (Vals.take n t)
theorem Vals.drop : ∀ {xs : List V} {us : List Value} (n : Nat), Vals xs us → Vals (xs.drop n) (us.drop n)
  | _, _, 0, r => r
  | _, _, _ + 1, .nil => .nil
  | _, _, n + 1, .cons _ t => Vals.drop n t
theorem Vals.none_of : ∀ {xs : List V} {us : List Value} {i : Nat}, Vals xs us → xs[i]? = none → us[i]? = none := fun {xs us i} r e => by
  have h1 := r.length
  have h2 : xs.length ≤ i := List.getElem?_eq_none_iff.mp e
  exact List.getElem?_eq_none_iff.mpr (by omega)

def RelO : Option V → Option Value → Prop
  | some v, some u => RelV v u
  | none, none => True
  | _, _ => False
def KV {κ : Type} : List (κ × V) → List (κ × Value) → Prop := Paired fun (p : κ × V) (q : κ × Value) => p.1 = q.1 ∧ RelV p.2 q.2

/-- a key of a dict (00_mix): an int or a text -/
def kV : Key → V
  | .inl i => .int i
  | .inr x => .str x

/-- what stands at a tracked address -/
inductive HO where
  /-- a list -/
  | lst (xs : List V)
  /-- a tuple (never changes) -/
  | tup (xs : List V)
  /-- a dict whose keys are ints and texts; one whose keys are tuples of ints and texts (the empty one is both) -/
  | dK (kvs : List (Key × V)) | dT (kvs : List (List Key × V))
  /-- a set of ints: its members, its size -/
  | set (S : Int → Bool) (n : Nat)
  /-- an instance of the class at C, its dict at dx, its attributes -/
  | ins (C dx : Addr) (fs : List (Str × V))
  /-- the dict of the instance at x -/
  | own (x : Addr)
  /-- the dict of an exception -/
  | xd (fs : List (Str × V))
  /-- a bound method, f of x -/
  | met (f x : Addr)
  /-- a range object lo, lo + 1, .. below hi -/
  | rng (lo hi : Int)
  /-- a thing that is known to the object (the script; a dict while a loop walks it): read, never written while it is so -/
  | frz (o : Obj) (u : HO)
  /-- a code object's table -/
  | tbl (ps : Array Value)
  /-- any other thing, by what is true of its one object (a def of one's own: SetO a S n := HO.ext fun h => ..) -/
  | ext (φ : Heap → Prop)

abbrev Hp := Addr → Option HO
def upd (H : Hp) (a : Addr) (o : HO) : Hp := fun b => if b = a then some o else H b
theorem upd_same {H : Hp} {a : Addr} {o : HO} : upd H a o a = some o := by unfold upd; rw [if_pos rfl]
theorem upd_ne {H : Hp} {a b : Addr} {o : HO} (h : b ≠ a) : upd H a o b = H b := by unfold upd; rw [if_neg h]
theorem upd_upd {H : Hp} {a : Addr} {o u : HO} : upd (upd H a o) a u = upd H a u := by
  funext b; unfold upd; split <;> rfl
/-- two objects of different content stand apart -/
theorem ne_of {H : Hp} {a b : Addr} {o u : HO} (h : H a = some o) (h' : H b = some u) (d : o ≠ u) : a ≠ b := by
  intro e; subst e; rw [h] at h'; exact d (Option.some.inj h')
theorem ne_of_none {H : Hp} {a b : Addr} {o : HO} (h : H a = some o) (h' : H b = none) : a ≠ b := by
  intro e; subst e; rw [h] at h'; cases h'

section
variable (P : Program) (w : World)
def ObjOk (H : Hp) (h : Heap) (a : Addr) : HO → Prop
  | .lst xs => xs.length ≤ sizeLine ∧ ∃ (its : List Value) (n : Nat), Vals xs its ∧ h.get? a = some { cls := .type "list", data := .seq its.toArray n }
  | .tup xs => xs.length ≤ sizeLine ∧ ∃ its : List Value, Vals xs its ∧ IsTup h a its.toArray
  | .dK kvs => kvs.length ≤ sizeLine ∧ (a == sysModules) = false ∧ ∃ vs, KV kvs vs ∧ h.DictOf (mixKind P w) a vs
  | .dT kvs => kvs.length ≤ sizeLine ∧ (a == sysModules) = false ∧ ∃ xs : List (List Key × Addr × Value),
      Paired (fun (p : List Key × V) (q : List Key × Addr × Value) => p.1 = q.1 ∧ H q.2.1 = some (.tup (p.1.map kV)) ∧ RelV p.2 q.2.2) kvs xs ∧
      ∃ o es ep, h.get? a = some o ∧ o.ExactDict ∧ o.data = .dict es ep ∧ es.toList = xs.map (entryOfKey (tupleKind (mixKind P w))) ∧ (xs.map (·.1)).Nodup
  | .set S n => h.SetOf (intKind P w) a S n
  | .ins C dx fs => H dx = some (.own a) ∧ fs.length ≤ 1000 ∧ dx ≠ a ∧ h.get? a = some (PySem.W.instObj C dx) ∧
      ∃ mA, h.Ns1 dx mA ∧ (∀ f, RelO (fs.lookup f) (mA f)) ∧ PySem.Within mA (fs.map (·.1))
  | .own _ => ∃ o, h.get? a = some o
  | .xd fs => ∃ mA, h.Ns1 a mA ∧ ∀ f, RelO (fs.lookup f) (mA f)
  | .rng lo hi => ∃ t u v, h.get? a = some { cls := .type "range", data := .fields #[.int lo t, .int hi u, .int 1 v] }
  | .frz o u => h.get? a = some o ∧ ObjOk H h a u
  | .tbl ps => h.get? a = some { cls := .none, data := .fields ps }
  | .met f x => h.get? a = some (PySem.W.methodObj (.ref f) (.ref x))
  | .ext φ => φ h ∧ (∃ o, h.get? a = some o) ∧ ∀ h1 h2 : Heap, φ h1 → (∀ o, h1.get? a = some o → h2.get? a = some o) → φ h2
/-- the abstract heap is held -/
def HOk (H : Hp) (h : Heap) : Prop := ∀ a o, H a = some o → ObjOk P w H h a o
end

section
variable {P : Program} {w : World} {H H' : Hp} {h h' : Heap} {a : Addr} {o : HO}
theorem ObjOk.lt (x : ObjOk P w H h a o) : a < h.objs.size := by
  cases o with
  | lst xs => obtain ⟨_, _, _, _, e⟩ := x; exact Heap.lt_size e
  | tup xs => obtain ⟨_, _, _, p⟩ := x; exact p.lt
  | dK kvs => obtain ⟨_, _, _, _, o, _, _, e, _⟩ := x; exact Heap.lt_size e
  | dT kvs => obtain ⟨_, _, _, _, o, _, _, e, _⟩ := x; exact Heap.lt_size e
  | set S n => obtain ⟨o, _, _, _, e, _⟩ := x; exact Heap.lt_size e
  | ins C dx fs => obtain ⟨_, _, _, e, _⟩ := x; exact Heap.lt_size e
  | own y => obtain ⟨_, e⟩ := x; exact Heap.lt_size e
  | xd fs => obtain ⟨_, ⟨_, _, _, e, _⟩, _⟩ := x; exact Heap.lt_size e
  | rng lo hi => obtain ⟨_, _, _, e⟩ := x; exact Heap.lt_size e
  | frz ob u => obtain ⟨e, _⟩ := x; exact Heap.lt_size e
  | tbl ps => exact Heap.lt_size (show h.get? a = some _ from x)
  | met f y => exact Heap.lt_size (show h.get? a = some _ from x)
  | ext φ => obtain ⟨_, ⟨_, e⟩, _⟩ := x; exact Heap.lt_size e
theorem Paired.mapP {α β : Type} {F G : α → β → Prop} : ∀ {l₁ : List α} {l₂ : List β}, Paired F l₁ l₂ → (∀ a b, F a b → G a b) → Paired G l₁ l₂
  | _, _, .nil, _ => .nil
  | _, _, .cons r t, f => .cons (f _ _ r) (Paired.mapP t f)
theorem Paired.imp' {α β : Type} {F G : α → β → Prop} (f : ∀ a b, F a b → G a b) {l₁ : List α} {l₂ : List β} (r : Paired F l₁ l₂) : Paired G l₁ l₂ := Paired.mapP r f
/-- what an object's description leans on: its own object, its own dict, the tuples -/
theorem ObjOk.stay (x : ObjOk P w H h a o) (k : ∀ b u, (b = a ∨ H b = some (.own a)) → h.get? b = some u → h'.get? b = some u)
    (ho : ∀ b, H b = some (.own a) → H' b = some (.own a)) (ht : ∀ b xs, H b = some (.tup xs) → H' b = some (.tup xs)) : ObjOk P w H' h' a o := by
  induction o with
  | lst xs => obtain ⟨z, its, n, r, e⟩ := x; exact ⟨z, its, n, r, k _ _ (.inl rfl) e⟩
  | tup xs => obtain ⟨z, its, r, ob, e, c⟩ := x; exact ⟨z, its, r, ob, k _ _ (.inl rfl) e, c⟩
  | dK kvs => obtain ⟨z, y, vs, r, ob, es, ep, e, c⟩ := x; exact ⟨z, y, vs, r, ob, es, ep, k _ _ (.inl rfl) e, c⟩
  | dT kvs =>
    obtain ⟨z, y, xs, r, ob, es, ep, e, c⟩ := x
    exact ⟨z, y, xs, Paired.mapP r fun p q z => ⟨z.1, ht _ _ z.2.1, z.2.2⟩, ob, es, ep, k _ _ (.inl rfl) e, c⟩
  | set S n => obtain ⟨ob, es, ep, t, e, c⟩ := x; exact ⟨ob, es, ep, t, k _ _ (.inl rfl) e, c⟩
  | ins C dx fs =>
    obtain ⟨d, z, ne, e, mA, ⟨od, es, ep, e2, c⟩, r⟩ := x
    exact ⟨ho _ d, z, ne, k _ _ (.inl rfl) e, mA, ⟨od, es, ep, k _ _ (.inr d) e2, c⟩, r⟩
  | own y => obtain ⟨ob, e⟩ := x; exact ⟨ob, k _ _ (.inl rfl) e⟩
  | xd fs => obtain ⟨mA, ⟨od, es, ep, e, c⟩, r⟩ := x; exact ⟨mA, ⟨od, es, ep, k _ _ (.inl rfl) e, c⟩, r⟩
  | rng lo hi => obtain ⟨t, u, v, e⟩ := x; exact ⟨t, u, v, k _ _ (.inl rfl) e⟩
  | frz ob u ih => obtain ⟨e, q⟩ := x; exact ⟨k _ _ (.inl rfl) e, ih q⟩
  | tbl ps =>
    have e : h.get? a = some { cls := .none, data := .fields ps } := x
    show h'.get? a = some { cls := .none, data := .fields ps }
    exact k a _ (.inl rfl) e
  | met f y =>
    have e : h.get? a = some (PySem.W.methodObj (.ref f) (.ref y)) := x
    show h'.get? a = some (PySem.W.methodObj (.ref f) (.ref y))
    exact k a _ (.inl rfl) e
  | ext φ => obtain ⟨p, ⟨o, e⟩, st⟩ := x; exact ⟨st _ _ p fun o q => k _ _ (.inl rfl) q, ⟨o, k _ _ (.inl rfl) e⟩, st⟩
theorem HOk.lt (x : HOk P w H h) (e : H a = some o) : a < h.objs.size := (x a o e).lt
theorem HOk.fresh (x : HOk P w H h) (e : h.objs.size ≤ a) : H a = none := by
  cases q : H a with
  | none => rfl
  | some u => exact absurd (Nat.lt_of_lt_of_le (x.lt q) e) (Nat.lt_irrefl _)
/-- every object of the heap is kept -/
theorem HOk.kept (x : HOk P w H h) (k : ∀ b u, h.get? b = some u → h'.get? b = some u) : HOk P w H h' := fun a o e =>
  (x a o e).stay (fun b u _ q => k b u q) (fun _ q => q) fun _ _ q => q
/-- a new object is laid and tracked -/
theorem HOk.laid (x : HOk P w H h) (k : ∀ b u, h.get? b = some u → h'.get? b = some u) (hp : h.objs.size ≤ a) (new : ObjOk P w (upd H a o) h' a o) : HOk P w (upd H a o) h' := fun b u e => by
  have hn := x.fresh hp
  by_cases hb : b = a
  · subst hb; rw [upd_same] at e; cases e; exact new
  · rw [upd_ne hb] at e
    exact (x b u e).stay (fun c v _ q => k c v q) (fun c q => by rw [upd_ne (ne_of_none q hn)]; exact q) fun c xs q => by rw [upd_ne (ne_of_none q hn)]; exact q
end

/-- what may be read as u: it is u, or a known u -/
def Rd (H : Hp) (a : Addr) (u : HO) : Prop := H a = some u ∨ ∃ o, H a = some (.frz o u)
theorem Rd.of {H : Hp} {a : Addr} {u : HO} (h : H a = some u) : Rd H a u := .inl h
theorem Rd.ok {P : Program} {w : World} {H : Hp} {h : Heap} {a : Addr} {u : HO} (r : Rd H a u) (x : HOk P w H h) : ObjOk P w H h a u := by
  rcases r with r | ⟨o, r⟩
  · exact x a u r
  · obtain ⟨_, q⟩ := x a _ r
    exact q
/-- what may be written -/
def Mut : Option HO → Prop
  | some (.lst _) => True
  | some (.dK _) => True
  | some (.dT _) => True
  | some (.set _ _) => True
  | some (.ins _ _ _) => True
  | some (.ext _) => True
  | _ => False
section
variable {P : Program} {w : World} {H : Hp} {h h' : Heap} {x e : Addr} {o' : HO}
/-- the object at e is changed: x itself, or the dict of the instance x -/
theorem HOk.write (ok : HOk P w H h) (mu : Mut (H x)) (he : e = x ∨ H e = some (.own x)) (k : ∀ b u, b ≠ e → h.get? b = some u → h'.get? b = some u) (heo : ∃ u, h'.get? e = some u)
    (new : ObjOk P w (upd H x o') h' x o') : HOk P w (upd H x o') h' := fun b u q => by
  have nown : ∀ c y, H c = some (.own y) → c ≠ x := fun c y r z => by subst z; rw [r] at mu; exact mu
  have ntup : ∀ c xs, H c = some (.tup xs) → c ≠ x := fun c xs r z => by subst z; rw [r] at mu; exact mu
  by_cases hb : b = x
  · subst hb; rw [upd_same] at q; cases q; exact new
  · rw [upd_ne hb] at q
    by_cases hbe : b = e
    · have q' : H b = some (.own x) := by
        rcases he with z | z
        · exact absurd (hbe.trans z) hb
        · rw [hbe]; exact z
      rw [q] at q'; cases q'
      obtain ⟨v, hv⟩ := heo
      exact ⟨v, by rw [hbe]; exact hv⟩
    · refine (ok b u q).stay (fun c v hc r => k c v ?_ r) (fun c r => by rw [upd_ne (nown c b r)]; exact r) fun c xs r => by rw [upd_ne (ntup c xs r)]; exact r
      rcases hc with rfl | hc
      · exact hbe
      · rintro rfl
        rcases he with z | z
        · exact nown c b hc z
        · rw [hc] at z; cases z; exact hb rfl
end

/-! ### kept unless tracked; of the frames at fs (the callers') the slots may change (an exception that passes writes there); of the records at ex (iterators) nothing is said -/
structure Un (fs ex : List Addr) (H H' : Hp) (h h' : Heap) : Prop where
  keep : ∀ b o, h.get? b = some o → H b = none → b ∉ fs → b ∉ ex → h'.get? b = some o
  slot : ∀ b o, h.get? b = some o → H b = none → b ∈ fs → b ∉ ex → ∃ sl, h'.get? b = some { o with slots := sl }
  free : ∀ b o, h.get? b = some o → H b = none → b ∉ ex → H' b = none
  there : ∀ b o, h.get? b = some o → b ∉ ex → ∃ o', h'.get? b = some o'
  tups : ∀ b xs, H b = some (.tup xs) → H' b = some (.tup xs)
  frzs : ∀ b o u, H b = some (.frz o u) → H' b = some (.frz o u)
  tbls : ∀ b ps, H b = some (.tbl ps) → ∃ more, H' b = some (.tbl (ps ++ more))
section
variable {fs fs' ex ex' : List Addr} {H H1 H2 : Hp} {h h1 h2 h' : Heap} {a x e : Addr} {o : HO}
theorem Un.any (u : Un fs ex H H1 h h1) {b : Addr} {ob : Obj} (q : h.get? b = some ob) (n : H b = none) (hx : b ∉ ex) : ∃ sl, h1.get? b = some { ob with slots := sl } := by
  by_cases hb : b ∈ fs
  · exact u.slot b ob q n hb hx
  · exact ⟨ob.slots, u.keep b ob q n hb hx⟩
theorem Un.trans (a : Un fs ex H H1 h h1) (b : Un fs ex H1 H2 h1 h2) : Un fs ex H H2 h h2 where
  keep := fun c ob q n hc hx => b.keep c ob (a.keep c ob q n hc hx) (a.free c ob q n hx) hc hx
  slot := fun c ob q n hc hx => by
    obtain ⟨sl, e1⟩ := a.slot c ob q n hc hx
    obtain ⟨sl', e2⟩ := b.slot c _ e1 (a.free c ob q n hx) hc hx
    exact ⟨sl', e2⟩
  free := fun c ob q n hx => by
    obtain ⟨o', e1⟩ := a.there c ob q hx
    exact b.free c o' e1 (a.free c ob q n hx) hx
  there := fun c ob q hx => by
    obtain ⟨o', e1⟩ := a.there c ob q hx
    exact b.there c o' e1 hx
  tups := fun c xs q => b.tups c xs (a.tups c xs q)
  frzs := fun c ob xs q => b.frzs c ob xs (a.frzs c ob xs q)
  tbls := fun c ps q => by
    obtain ⟨m1, e1⟩ := a.tbls c ps q
    obtain ⟨m2, e2⟩ := b.tbls c _ e1
    exact ⟨m1 ++ m2, by rw [e2, Array.append_assoc]⟩
theorem Un.kept (k : ∀ b u, h.get? b = some u → h'.get? b = some u) : Un fs ex H H h h' :=
  ⟨fun b ob q _ _ _ => k b ob q, fun b ob q _ _ _ => ⟨ob.slots, k b ob q⟩, fun _ _ _ n _ => n, fun b ob q _ => ⟨ob, k b ob q⟩, fun _ _ q => q, fun _ _ _ q => q, fun _ ps q => ⟨#[], by rw [q]; simp⟩⟩
theorem Un.refl : Un fs ex H H h h := Un.kept fun _ _ q => q
theorem Un.laid (k : ∀ b u, h.get? b = some u → h'.get? b = some u) (hp : h.objs.size ≤ a) (hn : H a = none) : Un fs ex H (upd H a o) h h' where
  keep := fun b u q _ _ _ => k b u q
  slot := fun b u q _ _ _ => ⟨u.slots, k b u q⟩
  free := fun b u q n _ => by rw [upd_ne (Nat.ne_of_lt (Nat.lt_of_lt_of_le (Heap.lt_size q) hp))]; exact n
  there := fun b u q _ => ⟨u, k b u q⟩
  tups := fun b xs q => by rw [upd_ne (ne_of_none q hn)]; exact q
  frzs := fun b u xs q => by rw [upd_ne (ne_of_none q hn)]; exact q
  tbls := fun b ps q => ⟨#[], by rw [upd_ne (ne_of_none q hn), q]; simp⟩
theorem Un.write (mu : Mut (H x)) (he : e = x ∨ H e = some (.own x)) (k : ∀ b u, b ≠ e → h.get? b = some u → h'.get? b = some u) (heo : ∃ u, h'.get? e = some u) : Un fs ex H (upd H x o) h h' := by
  have hx : ∀ b, H b = none → b ≠ x := fun b n z => by subst z; rw [n] at mu; exact mu
  have hb : ∀ b, H b = none → b ≠ e := fun b n z => by
    subst z
    rcases he with r | r
    · exact hx b n r
    · rw [n] at r; cases r
  have hm : ∀ b u, H b = some u → ¬ Mut (some u) → b ≠ x := fun b u q nm z => by subst z; rw [q] at mu; exact nm mu
  refine ⟨fun b u q n _ _ => k b u (hb b n) q, fun b u q n _ _ => ⟨u.slots, k b u (hb b n) q⟩, fun b u q n _ => by rw [upd_ne (hx b n)]; exact n, fun b u q _ => ?_,
    fun b xs q => by rw [upd_ne (hm b _ q fun z => z)]; exact q, fun b u xs q => by rw [upd_ne (hm b _ q fun z => z)]; exact q, fun b ps q => ⟨#[], by rw [upd_ne (hm b _ q fun z => z), q]; simp⟩⟩
  by_cases hbe : b = e
  · subst hbe; exact heo
  · exact ⟨u, k b u hbe q⟩
theorem Un.mono (u : Un fs ex H H1 h h1) (hs : ∀ b ∈ fs, b ∈ fs') (hx : ∀ b ∈ ex, b ∈ ex') : Un fs' ex' H H1 h h1 :=
  ⟨fun b ob q n hb he => u.keep b ob q n (fun z => hb (hs b z)) fun z => he (hx b z), fun _ _ q n _ he => u.any q n fun z => he (hx _ z), fun b ob q n he => u.free b ob q n fun z => he (hx b z), fun b ob q he => u.there b ob q fun z => he (hx b z), u.tups, u.frzs, u.tbls⟩
end

/-! ### the heap without what is tracked -/
def trk (h : Heap) (H : Hp) : List Addr := (List.range h.objs.size).filter fun a => (H a).isSome
def hidT (h : Heap) (H : Hp) : Heap := PySem.W.hideAll h (trk h H)
theorem hidT_size (h : Heap) (H : Hp) : (hidT h H).objs.size = h.objs.size := PySem.W.hideAll_size _ _
theorem hidT_get {h : Heap} {H : Hp} {b : Addr} {o : Obj} (e : h.get? b = some o) (n : H b = none) : (hidT h H).get? b = some o :=
  PySem.W.hideAll_get _ e fun hm => by
    have q : (H b).isSome = true := (List.mem_filter.mp hm).2
    rw [n] at q; simp at q
theorem of_hidT {h : Heap} {H : Hp} {b : Addr} {o : Obj} (e : (hidT h H).get? b = some o) : h.get? b = some o ∧ H b = none := by
  have e' : h.get? b = some o := PySem.W.of_hideAll (trk h H) e
  refine ⟨e', ?_⟩
  cases q : H b with
  | none => rfl
  | some x =>
    have hm : b ∈ trk h H := List.mem_filter.mpr ⟨List.mem_range.mpr (Heap.lt_size e'), by simp [q]⟩
    have z : (hidT h H).get? b = none := PySem.W.hideAll_none (trk h H) hm
    rw [z] at e; cases e

/-! ### OpenK's ledger, filled with every new object but one -/
def allNews (g h : Heap) (L : Addr) : List (Addr × Obj) := (List.range h.objs.size).filterMap fun a => if a = L ∨ (g.get? a).isSome = true then none else (h.get? a).map fun o => (a, o)
theorem mem_allNews {g h : Heap} {L a : Addr} {o : Obj} (h1 : a ≠ L) (h2 : g.get? a = none) (h3 : h.get? a = some o) : (a, o) ∈ allNews g h L :=
  List.mem_filterMap.mpr ⟨a, List.mem_range.mpr (Heap.lt_size h3), by simp [h1, h2, h3]⟩
theorem of_mem_allNews {g h : Heap} {L : Addr} {p : Addr × Obj} (hp : p ∈ allNews g h L) : p.1 ≠ L ∧ g.get? p.1 = none ∧ h.get? p.1 = some p.2 := by
  obtain ⟨b, _, e⟩ := List.mem_filterMap.mp hp
  split at e
  · cases e
  · rename_i hn
    cases q : h.get? b with
    | none => rw [q] at e; simp at e
    | some u =>
      rw [q] at e
      simp only [Option.map_some, Option.some.injEq] at e
      subst e
      refine ⟨fun z => hn (.inl z), ?_, q⟩
      show g.get? b = none
      cases r : g.get? b with
      | none => rfl
      | some v => exact (hn (.inr (by simp [r]))).elim
def rest (g h : Heap) (L d : Addr) : List (Addr × Obj) := (allNews g h L).filter fun p => decide (p.1 ≠ d)
theorem rest_ne {g h : Heap} {L d : Addr} : ∀ p ∈ rest g h L d, p.1 ≠ d := fun p hp => of_decide_eq_true (List.mem_filter.mp hp).2
theorem mem_rest {g h : Heap} {L d a : Addr} {o : Obj} (h1 : a ≠ L) (h2 : g.get? a = none) (h3 : h.get? a = some o) (h4 : a ≠ d) : (a, o) ∈ rest g h L d :=
  List.mem_filter.mpr ⟨mem_allNews h1 h2 h3, decide_eq_true h4⟩
theorem news_all {g h : Heap} {L : Addr} : News g L h (allNews g h L) := fun p hp => let ⟨a, b, c⟩ := of_mem_allNews hp; ⟨c, a, b⟩
theorem news_at {g h : Heap} {L d : Addr} {o : Obj} (h1 : d ≠ L) (h2 : g.get? d = none) (h3 : h.get? d = some o) : News g L h ((d, o) :: rest g h L d) := fun p hp => by
  rcases List.mem_cons.mp hp with rfl | hp
  · exact ⟨h3, h1, h2⟩
  · exact news_all p (List.mem_filter.mp hp).1
/-- behind a rule that changed d alone: all else but the frame is kept -/
theorem kept_of_news {g h h' : Heap} {L d : Addr} {m : Str → Option Value} (k : ∀ b o, g.get? b = some o → h.get? b = some o) (F : Fr g L h' m) (N : News g L h' (rest g h L d)) :
    ∀ b o, b ≠ L → b ≠ d → h.get? b = some o → h'.get? b = some o := fun b o h1 h2 e => by
  cases q : g.get? b with
  | some u =>
    have := k b u q
    rw [e] at this; cases this
    exact F.keep b _ q
  | none => exact (N (b, o) (mem_rest h1 q e h2)).1
end L2

namespace L2
open PySem PySem.Spec PyProof.Rows

/-- the module's facts, over the base: the heap at the law's entry without what is tracked there -/
structure Mod (K : PySem.W.Frag) (mg : Str → Option Value) (base : Heap) : Prop where
  kin : K.In base
  glob : base.Ns mainGlobals mg
  blt : ∃ mb, base.Ns builtinsNs mb ∧ ∀ x : Str, x ≠ "__name__" → mb x = bootBuiltins x
  nolimit : base.NoLimit

/-- the context: a def's body (or a comprehension's block) running. base: fixed through the whole law; s₀, H₀: the entry; outer: the frames whose slots others may change (a def's callers); stack: all frames that run;
   ex: iterators that were made ahead of the entry and are walked here (a comprehension's); fn: the names whose cells were made at the entry (a def: all; a comprehension's block: its own); calm: not within an except suite; pn: pins that every state bears; xe: what is wanted of an exception that leaves the code -/
structure Cx where
  prog : Program
  w : World
  K : PySem.W.Frag
  mg : Str → Option Value
  base : Heap
  A : Around
  N : List Str
  s₀ : Shared
  H₀ : Hp
  env : Env
  outer : List Env
  stack : List Env
  ex : List Addr
  fn : Str → Bool
  calm : Bool
  pn : List (Addr × Obj)
  xe : Value → Shared → Prop
/-- the callers' frames -/
def frs (l : List Env) : List Addr := l.filterMap (·.frame)
abbrev Cx.fs (X : Cx) : List Addr := frs X.outer

def Vis (sc : Scope) (x : Str) : Prop := sc.names.lookup x = some .local ∨ sc.names.lookup x = some .cell ∨ sc.names.lookup x = some .free
def Loc (sc : Scope) (x : Str) : Prop := sc.names.lookup x = some .local ∨ sc.names.lookup x = some .cell
def Look (env : Env) (h : Heap) (m : Str → Option Value) (x : Str) (u : Value) : Prop :=
  (env.kindOf x = some .local ∧ m x = some u) ∨ ((env.kindOf x = some .cell ∨ env.kindOf x = some .free) ∧ ∃ c, env.cells.lookup x = some c ∧ h.IsCell c (some u))

structure Cx.Ok (X : Cx) : Prop where
  mod : Mod X.K X.mg X.base
  kind : X.env.scope.kind = .function
  glob : X.env.globals = mainGlobals
  blt : X.env.builtins = builtinsNs
  above : X.s₀.heap.objs.size ≤ X.env.locals
  inj : ∀ x y c, X.env.cells.lookup x = some c → X.env.cells.lookup y = some c → x = y
  has : ∀ x, (X.env.kindOf x = some .cell ∨ X.env.kindOf x = some .free) → ∃ c, X.env.cells.lookup x = some c
  cab : ∀ x c, X.fn x = true → X.env.cells.lookup x = some c → X.s₀.heap.objs.size ≤ c
  hd : X.calm = true → X.A.handled = none
  frames : X.A.frames = some X.stack
  stk : X.stack = X.outer ∨ (X.stack = X.env :: X.outer ∧ X.env.frame = some X.env.locals)
  exf : ∀ b ∈ X.ex, b ≠ X.env.locals ∧ ∀ x c, X.env.cells.lookup x = some c → c ≠ b
  bs : ∀ b o, X.base.get? b = some o → X.s₀.heap.get? b = some o ∧ X.H₀ b = none
  bsz : X.base.objs.size ≤ X.s₀.heap.objs.size
  noex : ∀ b o, X.base.get? b = some o → b ∉ X.ex
  exfs : ∀ b ∈ X.ex, b ∉ X.fs
  funs : X.s₀.heap.FunFrames X.base X.outer
  frf : ∀ b ∈ X.fs, X.H₀ b = none

structure Inv (X : Cx) (pins : List (Addr × Obj)) (σ : List (Option V)) (H : Hp) (s : Shared) : Prop where
  ok : X.Ok
  os : s.os = X.s₀.os
  bare : AllBare s.gens
  base : Un X.fs X.ex X.H₀ H X.s₀.heap s.heap
  loc : ∃ m, s.heap.Ns X.env.locals m ∧ ∀ (i : Nat) (x : Str) (v : V), X.N[i]? = some x → σ[i]? = some (some v) → Vis X.env.scope x → ∃ u, RelV v u ∧ Look X.env s.heap m x u
  cell : ∀ x c, X.env.cells.lookup x = some c → ∃ v, s.heap.IsCell c v
  free : H X.env.locals = none
  freeC : ∀ x c, X.env.cells.lookup x = some c → H c = none
  pin : ∀ p ∈ X.pn ++ pins, s.heap.get? p.1 = some p.2 ∧ H p.1 = none ∧ p.1 ≠ X.env.locals ∧ p.1 ∉ X.fs ∧ ∀ v, p.2.data ≠ .cell v
  hok : HOk X.prog X.w H s.heap
  len : σ.length = X.N.length

section
variable {X : Cx} {pins : List (Addr × Obj)} {σ : List (Option V)} {H H' : Hp} {s : Shared} {h' : Heap}

theorem Cx.Ok.nofr (ok : X.Ok) {b : Addr} {o : Obj} (e : X.base.get? b = some o) : b ∉ X.fs := fun hb => by
  have := (ok.funs.mem hb).1
  rw [e] at this; cases this
theorem Inv.bs (I : Inv X pins σ H s) : ∀ b o, X.base.get? b = some o → s.heap.get? b = some o ∧ H b = none := fun b o e =>
  ⟨I.base.keep b o (I.ok.bs b o e).1 (I.ok.bs b o e).2 (I.ok.nofr e) (I.ok.noex b o e), I.base.free b o (I.ok.bs b o e).1 (I.ok.bs b o e).2 (I.ok.noex b o e)⟩
theorem Inv.bk (I : Inv X pins σ H s) : ∀ b o, X.base.get? b = some o → s.heap.get? b = some o := fun b o e => (I.bs b o e).1
theorem Inv.mod (I : Inv X pins σ H s) : Mod X.K X.mg X.base := I.ok.mod
theorem Inv.kIn (I : Inv X pins σ H s) : X.K.In s.heap := I.ok.mod.kin.keeps I.bk
theorem Inv.nolimit (I : Inv X pins σ H s) : s.heap.NoLimit := I.ok.mod.nolimit.keeps I.bk
/-- the frame over the base: for OpenK's rules (K.In X.base is I.mod.kin) -/
theorem Inv.fr (I : Inv X pins σ H s) : ∃ m, Fr X.base X.env.locals s.heap m :=
  let ⟨m, hn, _⟩ := I.loc
  ⟨m, hn, I.bk, Nat.le_trans I.ok.bsz I.ok.above⟩
theorem Inv.lt (I : Inv X pins σ H s) : X.env.locals < s.heap.objs.size := let ⟨_, hn, _⟩ := I.loc; hn.lt
theorem Inv.sz (I : Inv X pins σ H s) : X.s₀.heap.objs.size ≤ s.heap.objs.size := Nat.le_trans I.ok.above (Nat.le_of_lt I.lt)
theorem Inv.nofs (I : Inv X pins σ H s) {a : Addr} (h : s.heap.objs.size ≤ a) : a ∉ X.fs := fun hb => by
  obtain ⟨_, o, ho, _⟩ := I.ok.funs.mem hb
  exact absurd (Nat.lt_of_lt_of_le (Heap.lt_size ho) (Nat.le_trans I.sz h)) (Nat.lt_irrefl _)
theorem Inv.cne (I : Inv X pins σ H s) : ∀ x c, X.env.cells.lookup x = some c → c ≠ X.env.locals := fun x c e z => by
  obtain ⟨v, o, ho, hd⟩ := I.cell x c e
  obtain ⟨m, ⟨o', es, ep, ho', hd', _⟩, _⟩ := I.loc
  rw [z, ho'] at ho; cases ho; rw [hd'] at hd; cases hd
theorem Inv.funs (I : Inv X pins σ H s) : s.heap.FunFrames X.base X.outer := by
  have all : ∀ (l : List Env), (∀ b ∈ frs l, b ∈ X.fs) → X.s₀.heap.FunFrames X.base l → s.heap.FunFrames X.base l := by
    intro l
    induction l with
    | nil => intro _ _; trivial
    | cons env r ih =>
      intro hs hl
      obtain ⟨hk, ⟨L, o, hf, hn, ho, hd⟩, hr⟩ := hl
      have hL : L ∈ X.fs := hs L (by unfold frs; rw [List.filterMap_cons, hf]; exact List.mem_cons_self)
      obtain ⟨sl, e⟩ := I.base.slot L o ho (I.ok.frf L hL) hL fun z => I.ok.exfs L z hL
      exact ⟨hk, ⟨L, _, hf, hn, e, hd⟩, ih (fun b hb => hs b (by unfold frs; rw [List.filterMap_cons, hf]; exact List.mem_cons_of_mem _ hb)) hr⟩
  exact all X.outer (fun _ hb => hb) I.ok.funs

/-- the frames that run, for a call -/
theorem Inv.stack (I : Inv X pins σ H s) : s.heap.FunFrames X.base X.stack := by
  rcases I.ok.stk with e | ⟨e, hf⟩
  · rw [e]; exact I.funs
  · rw [e]
    obtain ⟨m, hn, _⟩ := I.loc
    refine .cons (by rw [I.ok.kind]; decide) hf hn ?_ I.funs
    exact Heap.get?_none_of_le (Nat.le_trans I.ok.bsz I.ok.above)
theorem Inv.stkSub (I : Inv X pins σ H s) : ∀ b ∈ frs X.stack, b ∈ X.env.locals :: X.fs := fun b hb => by
  rcases I.ok.stk with e | ⟨e, hf⟩
  · rw [e] at hb; exact List.mem_cons_of_mem _ hb
  · rw [e] at hb
    unfold frs at hb
    rw [List.filterMap_cons, hf] at hb
    exact hb
theorem Inv.stkFree (I : Inv X pins σ H s) : ∀ b ∈ frs X.stack, H b = none := fun b hb => by
  rcases List.mem_cons.mp (I.stkSub b hb) with e | hb
  · rw [e]; exact I.free
  · obtain ⟨_, o, ho, _⟩ := I.ok.funs.mem hb
    exact I.base.free b o ho (I.ok.frf b hb) fun z => I.ok.exfs b z hb

/-- THE STEP: the untracked objects but the frame and the records at ch are kept (the callers' frames up to slots), the frame's map is kept, the new abstract heap is held -/
theorem Inv.step {g' : Array GenState} {t' : Nat} {d' : Drawn} {ch : List Addr} (I : Inv X pins σ H s)
    (hch : ∀ b ∈ ch, (b ∈ X.ex ∨ X.s₀.heap.objs.size ≤ b) ∧ b ≠ X.env.locals ∧ (∀ x c, X.env.cells.lookup x = some c → c ≠ b) ∧ ∀ p ∈ X.pn ++ pins, p.1 ≠ b)
    (keep : ∀ b o, b ≠ X.env.locals → b ∉ X.fs → b ∉ ch → s.heap.get? b = some o → H b = none → h'.get? b = some o)
    (slot : ∀ b o, b ≠ X.env.locals → b ∈ X.fs → b ∉ ch → s.heap.get? b = some o → H b = none → ∃ sl, h'.get? b = some { o with slots := sl }) (free : ∀ b o, b ∉ ch → s.heap.get? b = some o → H b = none → H' b = none)
    (there : ∀ b o, b ∉ ch → s.heap.get? b = some o → ∃ o', h'.get? b = some o')
    (tups : ∀ b xs, H b = some (.tup xs) → H' b = some (.tup xs)) (frzs : ∀ b o u, H b = some (.frz o u) → H' b = some (.frz o u)) (tbls : ∀ b ps, H b = some (.tbl ps) → ∃ more, H' b = some (.tbl (ps ++ more)))
    (ns : ∀ m, s.heap.Ns X.env.locals m → h'.Ns X.env.locals m) (hok : HOk X.prog X.w H' h') (hg : AllBare g') :
    Inv X pins σ H' { s with heap := h', gens := g', drawn := d', toks := t' } := by
  have neL : ∀ b o, X.s₀.heap.get? b = some o → b ≠ X.env.locals := fun b o e => Nat.ne_of_lt (Nat.lt_of_lt_of_le (Heap.lt_size e) I.ok.above)
  have neC : ∀ b o, X.s₀.heap.get? b = some o → b ∉ X.ex → b ∉ ch := fun b o e hx hb => by
    rcases (hch b hb).1 with z | z
    · exact hx z
    · exact absurd (Nat.lt_of_lt_of_le (Heap.lt_size e) z) (Nat.lt_irrefl _)
  have cellK : ∀ x c, X.env.cells.lookup x = some c → ∀ v, s.heap.IsCell c v → h'.IsCell c v := fun x c e v ⟨o, ho, hd⟩ => by
    have nch : c ∉ ch := fun z => (hch c z).2.2.1 x c e rfl
    by_cases hc : c ∈ X.fs
    · obtain ⟨sl, q⟩ := slot c o (I.cne x c e) hc nch ho (I.freeC x c e)
      exact ⟨_, q, hd⟩
    · exact ⟨o, keep c o (I.cne x c e) hc nch ho (I.freeC x c e), hd⟩
  refine ⟨I.ok, I.os, hg, ⟨fun b o e n hb hx => ?_, fun b o e n hb hx => ?_, fun b o e n hx => ?_, fun b o e hx => ?_, fun b xs e => tups b xs (I.base.tups b xs e), fun b o xs e => frzs b o xs (I.base.frzs b o xs e), fun b ps e => ?_⟩, ?_, fun x c e => ?_, ?_, fun x c e => ?_, fun p hp => ?_, hok, I.len⟩
  · exact keep b o (neL b o e) hb (neC b o e hx) (I.base.keep b o e n hb hx) (I.base.free b o e n hx)
  · obtain ⟨sl, e1⟩ := I.base.slot b o e n hb hx
    obtain ⟨sl', e2⟩ := slot b _ (neL b o e) hb (neC b o e hx) e1 (I.base.free b o e n hx)
    exact ⟨sl', e2⟩
  · obtain ⟨o', e1⟩ := I.base.there b o e hx
    exact free b o' (neC b o e hx) e1 (I.base.free b o e n hx)
  · obtain ⟨o', e1⟩ := I.base.there b o e hx
    exact there b o' (neC b o e hx) e1
  · obtain ⟨m1, e1⟩ := I.base.tbls b ps e
    obtain ⟨m2, e2⟩ := tbls b _ e1
    exact ⟨m1 ++ m2, by rw [e2, Array.append_assoc]⟩
  · obtain ⟨m, hn, hl⟩ := I.loc
    refine ⟨m, ns m hn, fun i x v e1 e2 e3 => ?_⟩
    obtain ⟨u, r, l⟩ := hl i x v e1 e2 e3
    refine ⟨u, r, ?_⟩
    rcases l with l | ⟨k, c, e, z⟩
    · exact .inl l
    · exact .inr ⟨k, c, e, cellK x c e _ z⟩
  · obtain ⟨v, z⟩ := I.cell x c e
    exact ⟨v, cellK x c e v z⟩
  · obtain ⟨m, ⟨o, _, _, ho, _⟩, _⟩ := I.loc
    exact free _ o (fun z => (hch _ z).2.1 rfl) ho I.free
  · obtain ⟨v, o, ho, hd⟩ := I.cell x c e
    exact free c o (fun z => (hch c z).2.2.1 x c e rfl) ho (I.freeC x c e)
  · obtain ⟨e, n, ne, nf, d⟩ := I.pin p hp
    have nch : p.1 ∉ ch := fun z => (hch p.1 z).2.2.2 p hp rfl
    exact ⟨keep p.1 p.2 ne nf nch e n, free p.1 p.2 nch e n, ne, nf, d⟩
/-- .. where the frame's own object is kept too -/
theorem Inv.un {t' : Nat} (I : Inv X pins σ H s) (u : Un X.fs [] H H' s.heap h') (hok : HOk X.prog X.w H' h') : Inv X pins σ H' { s with heap := h', toks := t' } := by
  obtain ⟨m, ⟨o, es, ep, ho, r⟩, _⟩ := id I.loc
  obtain ⟨sl, hL⟩ := u.any ho I.free (by simp)
  exact I.step (g' := s.gens) (d' := s.drawn) (ch := []) (fun _ z => nomatch z) (fun b o _ hb _ e n => u.keep b o e n hb (by simp)) (fun b o _ hb _ e n => u.slot b o e n hb (by simp)) (fun b o _ e n => u.free b o e n (by simp)) (fun b o _ e => u.there b o e (by simp)) u.tups u.frzs u.tbls (fun m' hm => by
    obtain ⟨o', es', ep', ho', r'⟩ := hm
    rw [ho] at ho'; cases ho'
    exact ⟨_, es', ep', hL, r'⟩) hok I.bare
/-- behind a call (or a comprehension's block): the slots of this frame may have changed too, the records at ch may have turned -/
theorem Inv.call {g' : Array GenState} {t' : Nat} {d' : Drawn} {ch : List Addr} (I : Inv X pins σ H s) (u : Un (frs X.stack) ch H H' s.heap h') (hok : HOk X.prog X.w H' h') (hg : AllBare g')
    (hch : ∀ b ∈ ch, (b ∈ X.ex ∨ X.s₀.heap.objs.size ≤ b) ∧ b ≠ X.env.locals ∧ (∀ x c, X.env.cells.lookup x = some c → c ≠ b) ∧ ∀ p ∈ X.pn ++ pins, p.1 ≠ b) :
    Inv X pins σ H' { s with heap := h', gens := g', drawn := d', toks := t' } := by
  obtain ⟨m, ⟨o, es, ep, ho, r⟩, _⟩ := id I.loc
  obtain ⟨sl, hL⟩ := u.any ho I.free fun z => (hch _ z).2.1 rfl
  exact I.step (ch := ch) hch (fun b o hL hb hc e n => u.keep b o e n (fun z => (List.mem_cons.mp (I.stkSub b z)).elim hL hb) hc) (fun b o _ _ hc e n => u.any e n hc) (fun b o hc e n => u.free b o e n hc) (fun b o hc e => u.there b o e hc) u.tups u.frzs u.tbls (fun m' hm => by
    obtain ⟨o', es', ep', ho', r'⟩ := hm
    rw [ho] at ho'; cases ho'
    exact ⟨_, es', ep', hL, r'⟩) hok hg
/-- an untracked record of ours (an iterator) has turned -/
theorem Inv.turned {t' : Nat} {it : Addr} (I : Inv X pins σ H s) (k : ∀ b o, b ≠ it → s.heap.get? b = some o → h'.get? b = some o) (hn : H it = none) (hL : it ≠ X.env.locals)
    (h1 : it ∈ X.ex ∨ X.s₀.heap.objs.size ≤ it) (h2 : ∀ x c, X.env.cells.lookup x = some c → c ≠ it) (h3 : ∀ p ∈ X.pn ++ pins, p.1 ≠ it) : Inv X pins σ H { s with heap := h', toks := t' } := by
  have nit : ∀ b u, H b = some u → b ≠ it := fun b u e z => by rw [z, hn] at e; cases e
  refine I.step (g' := s.gens) (d' := s.drawn) (ch := [it]) (fun b hb => ?_) (fun b o _ _ hc e _ => k b o (fun z => hc (by simp [z])) e) (fun b o _ _ hc e _ => ⟨o.slots, k b o (fun z => hc (by simp [z])) e⟩) (fun _ _ _ _ n => n)
    (fun b o hc e => ⟨o, k b o (fun z => hc (by simp [z])) e⟩) (fun _ _ e => e) (fun _ _ _ e => e) (fun b ps e => ⟨#[], by rw [e]; simp⟩) (fun m hm => ?_) (fun b u e => ?_) I.bare
  · have e : b = it := by simpa using hb
    subst e
    exact ⟨h1, hL, h2, h3⟩
  · obtain ⟨o, es, ep, ho, r⟩ := hm
    exact ⟨o, es, ep, k _ o (Ne.symm hL) ho, r⟩
  · refine (I.hok b u e).stay (fun c v hc q => k c v ?_ q) (fun _ q => q) fun _ _ q => q
    rcases hc with z | z
    · rw [z]; exact nit b u e
    · exact nit c _ z
theorem Inv.tok (I : Inv X pins σ H s) (t : Nat) : Inv X pins σ H { s with toks := t } := I.un (h' := s.heap) (t' := t) Un.refl I.hok
/-- all objects kept -/
theorem Inv.kept {t' : Nat} (I : Inv X pins σ H s) (k : ∀ b u, s.heap.get? b = some u → h'.get? b = some u) : Inv X pins σ H { s with heap := h', toks := t' } := I.un (Un.kept k) (I.hok.kept k)
/-- a new object laid and tracked -/
theorem Inv.laid {a : Addr} {o : HO} {t' : Nat} (I : Inv X pins σ H s) (k : ∀ b u, s.heap.get? b = some u → h'.get? b = some u) (hp : s.heap.objs.size ≤ a) (new : ObjOk X.prog X.w (upd H a o) h' a o) :
    Inv X pins σ (upd H a o) { s with heap := h', toks := t' } := I.un (Un.laid k hp (I.hok.fresh hp)) (I.hok.laid k hp new)
/-- an object written -/
theorem Inv.write {x e : Addr} {o : HO} {t' : Nat} (I : Inv X pins σ H s) (mu : Mut (H x)) (he : e = x ∨ H e = some (.own x)) (k : ∀ b u, b ≠ e → s.heap.get? b = some u → h'.get? b = some u) (heo : ∃ u, h'.get? e = some u)
    (new : ObjOk X.prog X.w (upd H x o) h' x o) : Inv X pins σ (upd H x o) { s with heap := h', toks := t' } := I.un (Un.write mu he k heo) (I.hok.write mu he k heo new)
/-- forgetting slots, pins -/
theorem Inv.weak {σ' : List (Option V)} (I : Inv X pins σ H s) (hl : σ'.length = σ.length) (w : ∀ (i : Nat) v, σ'[i]? = some (some v) → σ[i]? = some (some v)) : Inv X pins σ' H s :=
  ⟨I.ok, I.os, I.bare, I.base, let ⟨m, hn, hl'⟩ := I.loc; ⟨m, hn, fun i x v e1 e2 e3 => hl' i x v e1 (w i v e2) e3⟩, I.cell, I.free, I.freeC, I.pin, I.hok, hl.trans I.len⟩
theorem Inv.pins_of {pins' : List (Addr × Obj)} (I : Inv X pins σ H s) (h : ∀ p ∈ pins', s.heap.get? p.1 = some p.2 ∧ H p.1 = none ∧ p.1 ≠ X.env.locals ∧ p.1 ∉ X.fs ∧ ∀ v, p.2.data ≠ .cell v) : Inv X pins' σ H s :=
  ⟨I.ok, I.os, I.bare, I.base, I.loc, I.cell, I.free, I.freeC, fun p hp => (List.mem_append.mp hp).elim (fun z => I.pin p (List.mem_append_left _ z)) (h p), I.hok, I.len⟩

theorem nodup_ix {N : List Str} (hN : N.Nodup) {i j : Nat} {x : Str} (a : N[i]? = some x) (b : N[j]? = some x) : i = j := by
  obtain ⟨h1, e1⟩ := List.getElem?_eq_some_iff.mp a
  obtain ⟨h2, e2⟩ := List.getElem?_eq_some_iff.mp b
  exact (List.getElem_inj hN).mp (e1.trans e2.symm)

/-- a name is stored; what changed -/
theorem store_ok2 {M : Model} {A : Around} {E : Value → Shared → Prop} {i : Nat} {x : Str} {v : V} {u : Value} {Q : Unit → Shared → Prop} (I : Inv X pins σ H s) (hN : X.N.Nodup) (hi : X.N[i]? = some x) (hx : Loc X.env.scope x) (r : RelV v u)
    (h : ∀ s', Inv X pins (σ.set i (some v)) H s' → (∃ a, Heap.SameBut a s.heap s'.heap ∧ (a = X.env.locals ∨ X.env.cells.lookup x = some a)) → Q () s') (hf : X.fn x = true ∨ X.env.scope.names.lookup x = some .local := by first | exact .inl rfl | exact .inr rfl | assumption) : wpAny M A (storeName X.env x u) Q E s := by
  obtain ⟨m, hn, hl⟩ := id I.loc
  have hcls : (X.env.scope.kind == .class || (X.env.scope.kind == .module && X.env.locals != X.env.globals)) = false := by rw [I.ok.kind]; rfl
  have hiσ : i < σ.length := by rw [I.len]; exact (List.getElem?_eq_some_iff.mp hi).1
  have cne := I.cne
  have tracked : ∀ {a : Addr} {h' : Heap}, (∃ o, s.heap.get? a = some o ∧ H a = none) → Heap.SameBut a s.heap h' → HOk X.prog X.w H h' := fun {a h'} ha hs b ob e => by
    obtain ⟨_, _, hfree⟩ := ha
    refine (I.hok b ob e).stay (fun c w' hc q => (hs.2 c ?_).trans q) (fun _ q => q) fun _ _ q => q
    rintro rfl
    rcases hc with rfl | hc
    · rw [hfree] at e; cases e
    · rw [hfree] at hc; cases hc
  rcases hx with hk | hk
  · refine wpAny_storeName_local hk hn (fun h' hn' hs => ?_) hcls
    obtain ⟨oL, _, _, hoL, _⟩ := id hn
    refine h _ ⟨I.ok, I.os, I.bare, ⟨fun b o e n hb hx => ?_, fun b o e n hb hx => ?_, I.base.free, fun b o e hx => ?_, I.base.tups, I.base.frzs, I.base.tbls⟩, ⟨_, hn', fun j y v' e1 e2 e3 => ?_⟩, fun y c e => ?_, I.free, I.freeC, fun p hp => ?_, tracked ⟨oL, hoL, I.free⟩ hs, by simpa using I.len⟩ ⟨_, hs, .inl rfl⟩
    · exact (hs.2 b (Nat.ne_of_lt (Nat.lt_of_lt_of_le (Heap.lt_size e) I.ok.above))).trans (I.base.keep b o e n hb hx)
    · obtain ⟨sl, e1⟩ := I.base.slot b o e n hb hx
      exact ⟨sl, (hs.2 b (Nat.ne_of_lt (Nat.lt_of_lt_of_le (Heap.lt_size e) I.ok.above))).trans e1⟩
    · obtain ⟨o', e1⟩ := I.base.there b o e hx
      exact ⟨o', (hs.2 b (Nat.ne_of_lt (Nat.lt_of_lt_of_le (Heap.lt_size e) I.ok.above))).trans e1⟩
    · by_cases hj : j = i
      · subst hj
        rw [hi] at e1; cases e1
        rw [List.getElem?_set_self hiσ] at e2
        cases e2
        exact ⟨u, r, .inl ⟨hk, by simp⟩⟩
      · rw [List.getElem?_set_ne (Ne.symm hj)] at e2
        obtain ⟨u', r', q⟩ := hl j y v' e1 e2 e3
        refine ⟨u', r', ?_⟩
        rcases q with ⟨k, e⟩ | ⟨k, c, e, z⟩
        · refine .inl ⟨k, ?_⟩
          have : y ≠ x := fun e => hj (nodup_ix hN e1 (e ▸ hi))
          simp [this, e]
        · exact .inr ⟨k, c, e, z.sameBut hs (cne y c e)⟩
    · obtain ⟨w', z⟩ := I.cell y c e
      exact ⟨w', z.sameBut hs (cne y c e)⟩
    · obtain ⟨e, n, ne, nf, d⟩ := I.pin p hp
      exact ⟨(hs.2 p.1 ne).trans e, n, ne, nf, d⟩
  · have hfn : X.fn x = true := by
      rcases hf with z | z
      · exact z
      · rw [z] at hk; cases hk
    obtain ⟨c, hc⟩ := I.ok.has x (.inl hk)
    obtain ⟨w', z⟩ := I.cell x c hc
    refine wpAny_storeName_cell I.ok.kind hk hc z (fun h' hc' hs => ?_)
    obtain ⟨oc, hoc, hocd⟩ := id z
    refine h { s with heap := h' } ⟨I.ok, I.os, I.bare, ⟨fun b o e n hb hx => ?_, fun b o e n hb hx => ?_, I.base.free, fun b o e hx => ?_, I.base.tups, I.base.frzs, I.base.tbls⟩, ⟨m, hn.sameBut hs (Ne.symm (cne x c hc)), fun j y v' e1 e2 e3 => ?_⟩, fun y c' e => ?_, I.free, I.freeC, fun p hp => ?_, tracked ⟨oc, hoc, I.freeC x c hc⟩ hs, by simpa using I.len⟩ ⟨c, hs, .inr hc⟩
    · exact (hs.2 b (Nat.ne_of_lt (Nat.lt_of_lt_of_le (Heap.lt_size e) (I.ok.cab x c hfn hc)))).trans (I.base.keep b o e n hb hx)
    · obtain ⟨sl, e1⟩ := I.base.slot b o e n hb hx
      exact ⟨sl, (hs.2 b (Nat.ne_of_lt (Nat.lt_of_lt_of_le (Heap.lt_size e) (I.ok.cab x c hfn hc)))).trans e1⟩
    · obtain ⟨o', e1⟩ := I.base.there b o e hx
      exact ⟨o', (hs.2 b (Nat.ne_of_lt (Nat.lt_of_lt_of_le (Heap.lt_size e) (I.ok.cab x c hfn hc)))).trans e1⟩
    · by_cases hj : j = i
      · subst hj
        rw [hi] at e1; cases e1
        rw [List.getElem?_set_self hiσ] at e2
        cases e2
        exact ⟨u, r, .inr ⟨.inl hk, c, hc, hc'⟩⟩
      · rw [List.getElem?_set_ne (Ne.symm hj)] at e2
        obtain ⟨u', r', q⟩ := hl j y v' e1 e2 e3
        refine ⟨u', r', ?_⟩
        rcases q with q | ⟨k, c', e, z'⟩
        · exact .inl q
        · refine .inr ⟨k, c', e, z'.sameBut hs ?_⟩
          rintro rfl
          exact hj (nodup_ix hN e1 (I.ok.inj _ _ _ e hc ▸ hi))
    · by_cases hcc : c' = c
      · subst hcc; exact ⟨_, hc'⟩
      · obtain ⟨w2, z2⟩ := I.cell y c' e
        exact ⟨w2, z2.sameBut hs hcc⟩
    · obtain ⟨e, n, ne, nf, d⟩ := I.pin p hp
      refine ⟨(hs.2 p.1 ?_).trans e, n, ne, nf, d⟩
      intro q
      rw [q, hoc] at e
      have q' : oc = p.2 := Option.some.inj e
      exact d w' (by rw [← q']; exact hocd)
theorem store_ok {M : Model} {A : Around} {E : Value → Shared → Prop} {i : Nat} {x : Str} {v : V} {u : Value} {Q : Unit → Shared → Prop} (I : Inv X pins σ H s) (hN : X.N.Nodup) (hi : X.N[i]? = some x) (hx : Loc X.env.scope x) (r : RelV v u)
    (h : ∀ s', Inv X pins (σ.set i (some v)) H s' → Q () s') (hf : X.fn x = true ∨ X.env.scope.names.lookup x = some .local := by first | exact .inl rfl | exact .inr rfl | assumption) : wpAny M A (storeName X.env x u) Q E s :=
  store_ok2 I hN hi hx r (fun s' I' _ => h s' I') hf
/-- behind a call or a block, the state as it is -/
theorem Inv.call' {s' : Shared} {ch : List Addr} (I : Inv X pins σ H s) (ho : s'.os = s.os) (u : Un (frs X.stack) ch H H' s.heap s'.heap) (hok : HOk X.prog X.w H' s'.heap) (hg : AllBare s'.gens)
    (hch : ∀ b ∈ ch, (b ∈ X.ex ∨ X.s₀.heap.objs.size ≤ b) ∧ b ≠ X.env.locals ∧ (∀ x c, X.env.cells.lookup x = some c → c ≠ b) ∧ ∀ p ∈ X.pn ++ pins, p.1 ≠ b) : Inv X pins σ H' s' := by
  obtain ⟨h', g', d', t', o'⟩ := s'
  have e : o' = s.os := ho
  subst e
  exact I.call (g' := g') (t' := t') (d' := d') u hok hg hch
end

/-! ### the judgements -/
/-- an exception: its class, its own dict's address (where it has one), the abstract heap behind it -/
abbrev XK := Value → Option Addr → Hp → Prop
abbrev St := List (Option V)
abbrev VK := V → Hp → Prop
/-- an expression's reading; a test's; an argument list's -/
abbrev TE := St → Hp → VK → Prop
abbrev TT := St → Hp → (Bool → Hp → Prop) → Prop
abbrev TA := St → Hp → (List V → Hp → Prop) → Prop
/-- what is wanted behind a statement -/
structure Ends where
  nx : St → Hp → Prop
  rt : VK
  bk : St → Hp → Prop := fun _ _ => False
  ct : St → Hp → Prop := fun _ _ => False
abbrev TS := Ends → St → Hp → Prop

def EP (X : Cx) (pins : List (Addr × Obj)) (σ : St) (Q : VK) (u : Value) (s' : Shared) : Prop := ∃ v H', Inv X pins σ H' s' ∧ RelV v u ∧ Q v H'
def TP (X : Cx) (pins : List (Addr × Obj)) (σ : St) (Q : Bool → Hp → Prop) (b : Bool) (s' : Shared) : Prop := ∃ H', Inv X pins σ H' s' ∧ Q b H'
def AP (X : Cx) (pins : List (Addr × Obj)) (σ : St) (Q : List V → Hp → Prop) (us : List Value) (s' : Shared) : Prop := ∃ vs H', Inv X pins σ H' s' ∧ Vals vs us ∧ Q vs H'
def SP (X : Cx) (pins : List (Addr × Obj)) (D : Ends) (f : Flow) (s' : Shared) : Prop :=
  match f with
  | .next => ∃ σ' H', Inv X pins σ' H' s' ∧ D.nx σ' H'
  | .brk => ∃ σ' H', Inv X pins σ' H' s' ∧ D.bk σ' H'
  | .cont => ∃ σ' H', Inv X pins σ' H' s' ∧ D.ct σ' H'
  | .ret u => ∃ v σ' H', Inv X pins σ' H' s' ∧ RelV v u ∧ D.rt v H'

def PE (X : Cx) (e : Expr) (t : TE) : Prop :=
  ∀ (pins : List (Addr × Obj)) (s : Shared) (σ : St) (H : Hp) (Q : VK), Inv X pins σ H s → t σ H Q → wpAny (model X.prog X.w) X.A (eval e X.env) (EP X pins σ Q) X.xe s
def PT (X : Cx) (e : Expr) (t : TT) : Prop :=
  ∀ (pins : List (Addr × Obj)) (s : Shared) (σ : St) (H : Hp) (Q : Bool → Hp → Prop), Inv X pins σ H s → t σ H Q → wpAny (model X.prog X.w) X.A (isTrue e X.env (eval e X.env)) (TP X pins σ Q) X.xe s
/-- a test whatever its 'whole' is (and, or) -/
def PW (X : Cx) (e : Expr) (t : TT) : Prop :=
  ∀ (whole : Sem Value) (pins : List (Addr × Obj)) (s : Shared) (σ : St) (H : Hp) (Q : Bool → Hp → Prop), Inv X pins σ H s → t σ H Q → wpAny (model X.prog X.w) X.A (isTrue e X.env whole) (TP X pins σ Q) X.xe s
theorem PW.pt {X : Cx} {e : Expr} {t : TT} (h : PW X e t) : PT X e t := h _
/-- an argument list (no star), from the left -/
def PA (X : Cx) (es : List Expr) (t : TA) : Prop :=
  ∀ (pos : Pos) (pins : List (Addr × Obj)) (s : Shared) (σ : St) (H : Hp) (Q : List V → Hp → Prop), Inv X pins σ H s → t σ H Q → wpAny (model X.prog X.w) X.A (spliced (backTo pos (starEach es X.env))) (AP X pins σ Q) X.xe s
def PS (X : Cx) (st : Stmt) (t : TS) : Prop :=
  ∀ (pins : List (Addr × Obj)) (s : Shared) (σ : St) (H : Hp) (D : Ends), Inv X pins σ H s → t D σ H → wpAny (model X.prog X.w) X.A (exec st X.env) (SP X pins D) X.xe s
def PSs (X : Cx) (st : List Stmt) (t : TS) : Prop :=
  ∀ (pins : List (Addr × Obj)) (s : Shared) (σ : St) (H : Hp) (D : Ends), Inv X pins σ H s → t D σ H → wpAny (model X.prog X.w) X.A (execs st X.env) (SP X pins D) X.xe s
/-- weaken the end -/
theorem thn {α : Type} {t : Sem α} {Q Q' : α → Shared → Prop} {M : Model} {A : Around} {E : Value → Shared → Prop} {s : Shared} (h : wpAny M A t Q E s) (hQ : ∀ a s, Q a s → Q' a s) : wpAny M A t Q' E s := wpAny_mono h hQ fun _ _ x => x
end L2

namespace L2
open PySem PySem.Spec PyProof.Rows
section
variable {X : Cx}

/-- two expressions in a row -/
theorem bin {a b : Expr} {ta tb : TE} (ha : PE X a ta) (hb : PE X b tb) {pins : List (Addr × Obj)} {s : Shared} {σ : St} {H : Hp} {R : V → V → Hp → Prop} (I : Inv X pins σ H s) (h : ta σ H fun x H1 => tb σ H1 fun y H2 => R x y H2)
    {α : Type} {Q : α → Shared → Prop} {f : Value → Value → Sem α}
    (hf : ∀ v u s2 x y H2, Inv X pins σ H2 s2 → RelV x v → RelV y u → R x y H2 → wpAny (model X.prog X.w) X.A (f v u) Q X.xe s2) :
    wpAny (model X.prog X.w) X.A (eval a X.env) (fun v s₁ => wpAny (model X.prog X.w) X.A (eval b X.env) (fun u s₂ => wpAny (model X.prog X.w) X.A (f v u) Q X.xe s₂) X.xe s₁) X.xe s := by
  refine thn (ha pins s σ H _ I h) fun v s1 ⟨x, H1, I1, r1, q1⟩ => ?_
  refine thn (hb pins s1 σ H1 _ I1 q1) fun u s2 ⟨y, H2, I2, r2, q2⟩ => ?_
  exact hf v u s2 x y H2 I2 r1 r2 q2

/-! ### names and constants -/
def tVar (i : Nat) : TE := fun σ H Q => ∃ v, σ[i]? = some (some v) ∧ Q v H
def tC (v : V) : TE := fun _ H Q => Q v H
theorem pe_var {i : Nat} {x : Str} {pos : Pos} (hN : X.N[i]? = some x) (hv : Vis X.env.scope x) (hd : (x == ("__debug__" : Str)) = false := by decide) (hcd : (x == ("__classdict__" : Str)) = false := by decide) : PE X (.Name x pos) (tVar i) := by
  intro pins s σ H Q I h
  obtain ⟨v, e, h⟩ := h
  obtain ⟨m, hn, hl⟩ := I.loc
  obtain ⟨u, r, l⟩ := hl i x v hN e hv
  have fin : EP X pins σ Q u s := ⟨v, H, I, r, h⟩
  rcases l with ⟨hk, hm⟩ | ⟨hk, c, hc, hcell⟩
  · exact wpAny_Name (wpAny_loadName_local I.ok.kind hk hn hm fin) hd
  · rcases hk with hk | hk
    · exact wpAny_Name (wpAny_loadName_cell I.ok.kind hk hc hcell fin) hd
    · exact wpAny_Name (wpAny_loadName_free I.ok.kind hk hc hcell fin hcd) hd
theorem pe_int {i j pos} : PE X (.Constant (.int i) j pos) (tC (.int i)) := fun _ _ _ H _ I h => wpAny_Constant_int ⟨.int i, H, I.tok _, ⟨_, rfl⟩, h⟩
theorem pe_bl {b j pos} : PE X (.Constant (.bool b) j pos) (tC (.bl b)) := fun _ _ _ H _ I h => Constant_bool ⟨.bl b, H, I, rfl, h⟩
theorem pe_non {j pos} : PE X (.Constant .none j pos) (tC .non) := fun _ _ _ H _ I h => Constant_none ⟨.non, H, I, rfl, h⟩
theorem pe_str {x j pos} : PE X (.Constant (.str x) j pos) (tC (.str x)) := fun _ _ _ H _ I h => Calls.Constant_str ⟨.str x, H, I.tok _, ⟨_, rfl⟩, h⟩

/-- a global name of the def -/
def Gl (X : Cx) (x : Str) : Prop := X.env.kindOf x = some .globalImplicit
theorem ld_glob {E : Value → Shared → Prop} {pins : List (Addr × Obj)} {s : Shared} {σ : St} {H : Hp} {x : Str} {u : Value} {pos : Pos} {Q : Value → Shared → Prop} (I : Inv X pins σ H s) (hg : Gl X x) (hm : X.mg x = some u) (h : Q u s)
    (hd : (x == ("__debug__" : Str)) = false := by decide) : wpAny (model X.prog X.w) X.A (eval (.Name x pos) X.env) Q E s :=
  Calls.Name_function_global I.ok.kind hg (Calls.loadGlobal_global (by rw [I.ok.glob]; exact I.mod.glob.keeps I.bk) hm h) hd
theorem ld_blt {E : Value → Shared → Prop} {pins : List (Addr × Obj)} {s : Shared} {σ : St} {H : Hp} {x : Str} {u : Value} {pos : Pos} {Q : Value → Shared → Prop} (I : Inv X pins σ H s) (hg : Gl X x) (hm : X.mg x = none) (hv : bootBuiltins x = some u) (h : Q u s)
    (hn : x ≠ "__name__" := by decide) (hd : (x == ("__debug__" : Str)) = false := by decide) : wpAny (model X.prog X.w) X.A (eval (.Name x pos) X.env) Q E s := by
  obtain ⟨mb, h1, h2⟩ := I.mod.blt
  exact Calls.Name_function_global I.ok.kind hg (Calls.loadGlobal_builtin (by rw [I.ok.glob]; exact I.mod.glob.keeps I.bk) hm (by rw [I.ok.blt]; exact h1.keeps I.bk) ((h2 x hn).trans hv) h) hd
/-- a module's constant, a class, a function, as a value -/
theorem pe_glob {x : Str} {v : V} {u : Value} {pos : Pos} (hg : Gl X x) (hm : X.mg x = some u) (r : RelV v u) (hd : (x == ("__debug__" : Str)) = false := by decide) : PE X (.Name x pos) (tC v) :=
  fun _ _ _ H _ I h => ld_glob I hg hm ⟨v, H, I, r, h⟩ hd
theorem pe_bltn {x : Str} {v : V} {u : Value} {pos : Pos} (hg : Gl X x) (hm : X.mg x = none) (hv : bootBuiltins x = some u) (r : RelV v u) (hn : x ≠ "__name__" := by decide) (hd : (x == ("__debug__" : Str)) = false := by decide) : PE X (.Name x pos) (tC v) :=
  fun _ _ _ H _ I h => ld_blt I hg hm hv ⟨v, H, I, r, h⟩ hn hd

/-! ### arithmetic -/
/-- two ints -/
def t2I (ta tb : TE) (k : Int → Int → Hp → Prop) : St → Hp → Prop := fun σ H => ta σ H fun x H1 => tb σ H1 fun y H2 => ∃ i j, x = .int i ∧ y = .int j ∧ k i j H2
def tAdd (ta tb : TE) : TE := fun σ H Q => t2I ta tb (fun i j H2 => Q (.int (i + j)) H2) σ H
def tSub (ta tb : TE) : TE := fun σ H Q => t2I ta tb (fun i j H2 => Q (.int (i - j)) H2) σ H
/-- the left factor below 2^64 -/
def tMul (ta tb : TE) : TE := fun σ H Q => t2I ta tb (fun i j H2 => (-(2 ^ 64) < i ∧ i < 2 ^ 64) ∧ Q (.int (i * j)) H2) σ H
variable {a b : Expr} {ta tb : TE} {pos : Pos}
theorem pe_add (ha : PE X a ta) (hb : PE X b tb) : PE X (.BinOp a .Add b pos) (tAdd ta tb) := by
  intro pins s σ H Q I h
  refine wpAny_BinOp (bin ha hb I h fun v u s2 x y H2 I2 rx ry q => ?_)
  obtain ⟨i, j, rfl, rfl, q⟩ := q
  obtain ⟨t, rfl⟩ := rx
  obtain ⟨t', rfl⟩ := ry
  exact add_int ⟨.int _, H2, I2.tok _, ⟨_, rfl⟩, q⟩
theorem pe_sub (ha : PE X a ta) (hb : PE X b tb) : PE X (.BinOp a .Sub b pos) (tSub ta tb) := by
  intro pins s σ H Q I h
  refine wpAny_BinOp (bin ha hb I h fun v u s2 x y H2 I2 rx ry q => ?_)
  obtain ⟨i, j, rfl, rfl, q⟩ := q
  obtain ⟨t, rfl⟩ := rx
  obtain ⟨t', rfl⟩ := ry
  exact sub_int ⟨.int _, H2, I2.tok _, ⟨_, rfl⟩, q⟩
theorem pe_mul (ha : PE X a ta) (hb : PE X b tb) : PE X (.BinOp a .Mult b pos) (tMul ta tb) := by
  intro pins s σ H Q I h
  refine wpAny_BinOp (bin ha hb I h fun v u s2 x y H2 I2 rx ry q => ?_)
  obtain ⟨i, j, rfl, rfl, ⟨q1, q2⟩, q⟩ := q
  obtain ⟨t, rfl⟩ := rx
  obtain ⟨t', rfl⟩ := ry
  exact mul_int ⟨.int _, H2, I2.tok _, ⟨_, rfl⟩, q⟩ (.of_left (intBits_le_64 q1 q2))

/-! ### comparisons -/
def PC (X : Cx) (op : CmpOp) (a b : Expr) (t : TE) : Prop :=
  ∀ (pins : List (Addr × Obj)) (s : Shared) (σ : St) (H : Hp) (Q : VK), Inv X pins σ H s → t σ H Q →
    wpAny (model X.prog X.w) X.A (eval a X.env) (fun v s₁ => wpAny (model X.prog X.w) X.A (eval b X.env) (fun u s₂ => wpAny (model X.prog X.w) X.A (compareOp op v u) (EP X pins σ Q) X.xe s₂) X.xe s₁) X.xe s
theorem nobehind (b : Expr) {op : CmpOp} (h : op ≠ .In) (h2 : op ≠ .NotIn) : behindInMarks op b = false := by
  have e1 : (op == CmpOp.In) = false := by cases op <;> first | rfl | exact absurd rfl h
  have e2 : (op == CmpOp.NotIn) = false := by cases op <;> first | rfl | exact absurd rfl h2
  cases b <;> simp [behindInMarks, e1, e2]
def tCmp (p : Int → Int → Bool) (ta tb : TE) : TE := fun σ H Q => t2I ta tb (fun i j H2 => Q (.bl (p i j)) H2) σ H
abbrev tLt : TE → TE → TE := tCmp fun i j => decide (i < j)
abbrev tLe : TE → TE → TE := tCmp fun i j => decide (i ≤ j)
abbrev tGt : TE → TE → TE := tCmp fun i j => decide (j < i)
abbrev tGe : TE → TE → TE := tCmp fun i j => decide (j ≤ i)
abbrev tEqI : TE → TE → TE := tCmp fun i j => decide (i = j)
abbrev tNeI : TE → TE → TE := tCmp fun i j => !decide (i = j)
/-- a comparison of two ints, by its rule -/
theorem pc_int {op : CmpOp} {p : Int → Int → Bool} (ha : PE X a ta) (hb : PE X b tb)
    (rule : ∀ (i j : Int) (t u : Tok) (Q : Value → Shared → Prop) (s : Shared), Q (.bool (p i j)) s → wpAny (model X.prog X.w) X.A (compareOp op (.int i t) (.int j u)) Q X.xe s) : PC X op a b (tCmp p ta tb) := by
  intro pins s σ H Q I h
  refine bin ha hb I h fun v u s2 x y H2 I2 rx ry q => ?_
  obtain ⟨i, j, rfl, rfl, q⟩ := q
  obtain ⟨t, rfl⟩ := rx
  obtain ⟨t', rfl⟩ := ry
  exact rule i j t t' _ s2 ⟨.bl _, H2, I2, rfl, q⟩
theorem pc_lt (ha : PE X a ta) (hb : PE X b tb) : PC X .Lt a b (tLt ta tb) := pc_int ha hb fun _ _ _ _ _ _ h => lt_int h
theorem pc_le (ha : PE X a ta) (hb : PE X b tb) : PC X .LtE a b (tLe ta tb) := pc_int ha hb fun _ _ _ _ _ _ h => le_int h
theorem pc_gt (ha : PE X a ta) (hb : PE X b tb) : PC X .Gt a b (tGt ta tb) := pc_int ha hb fun _ _ _ _ _ _ h => gt_int h
theorem pc_ge (ha : PE X a ta) (hb : PE X b tb) : PC X .GtE a b (tGe ta tb) := pc_int ha hb fun _ _ _ _ _ _ h => ge_int h
theorem pc_eqI (ha : PE X a ta) (hb : PE X b tb) : PC X .Eq a b (tEqI ta tb) := pc_int ha hb fun _ _ _ _ _ _ h => eq_int (by rw [Bool.beq_eq_decide_eq]; exact h)
theorem pc_neI (ha : PE X a ta) (hb : PE X b tb) : PC X .NotEq a b (tNeI ta tb) := pc_int ha hb fun _ _ _ _ _ _ h => ne_int (by rw [bne, Bool.beq_eq_decide_eq]; exact h)
/-- is None -/
def tIsN (ta : TE) : TE := fun σ H Q => ta σ H fun x H1 => Q (.bl (decide (x = .non))) H1
def tNotN (ta : TE) : TE := fun σ H Q => ta σ H fun x H1 => Q (.bl (!decide (x = .non))) H1
theorem RelV.none_iff {x : V} {v : Value} (r : RelV x v) : (v == Value.none) = decide (x = .non) := by
  cases x with
  | non => cases r; rfl
  | bl _ => cases r; rfl
  | int _ => obtain ⟨t, rfl⟩ := r; rfl
  | str _ => obtain ⟨t, rfl⟩ := r; rfl
  | byt _ => obtain ⟨t, rfl⟩ := r; rfl
  | flt _ => obtain ⟨t, rfl⟩ := r; rfl
  | ref _ => cases r; rfl
  | ty _ => cases r; rfl
theorem pc_isN {j pos'} (ha : PE X a ta) : PC X .Is a (.Constant .none j pos') (tIsN ta) := by
  intro pins s σ H Q I h
  refine thn (ha pins s σ H _ I h) fun v s1 ⟨x, H1, I1, r1, q1⟩ => ?_
  exact Constant_none (is_none_gen ⟨.bl _, H1, I1, by rw [r1.none_iff]; rfl, q1⟩)
theorem pc_notN {j pos'} (ha : PE X a ta) : PC X .IsNot a (.Constant .none j pos') (tNotN ta) := by
  intro pins s σ H Q I h
  refine thn (ha pins s σ H _ I h) fun v s1 ⟨x, H1, I1, r1, q1⟩ => ?_
  exact Constant_none (isnot_none_gen ⟨.bl _, H1, I1, by rw [r1.none_iff]; rfl, q1⟩)
/-- a comparison as a value, as a test -/
def tB (t : TE) : TT := fun σ H Q => t σ H fun x H1 => ∃ c, x = .bl c ∧ Q c H1
theorem pe_cmp {op : CmpOp} {t : TE} (h : PC X op a b t) (h1 : behindInMarks op b = false := by first | exact nobehind _ (by decide) (by decide) | rfl) : PE X (.Compare a [op] [b] pos) t := fun pins s σ H Q I hw => wpAny_Compare1 (h pins s σ H Q I hw) h1
theorem pt_cmp {op : CmpOp} {t : TE} (h : PC X op a b t) (h1 : behindInMarks op b = false := by first | exact nobehind _ (by decide) (by decide) | rfl) : PT X (.Compare a [op] [b] pos) (tB t) := by
  intro pins s σ H Q I hw
  refine wpAny_isTrue_Compare1 (thn (h pins s σ H _ I hw) fun v s1 h1 => thn h1 fun u s2 h2 => thn h2 fun c s3 ⟨x, H1, I1, r1, q1⟩ => ?_) h1
  obtain ⟨d, rfl, q⟩ := q1
  cases r1
  exact wpAny_truthy_bool ⟨H1, I1, q⟩
/-- an expression whose value is a bool, as a test -/
theorem pt_val {e : Expr} {t : TE} (h : PE X e t) (he : ∀ whole, isTrue e X.env whole = (do let v ← whole; standAt e.pos; holding [v] (truthy v)) := by intro _; rfl) : PT X e (tB t) := by
  intro pins s σ H Q I hw
  refine isTrue_plain (thn (h pins s σ H _ I hw) fun v s1 ⟨x, H1, I1, r1, q1⟩ => ?_) (he _)
  obtain ⟨d, rfl, q⟩ := q1
  cases r1
  exact wpAny_truthy_bool ⟨H1, I1, q⟩

/-! ### and, or, not -/
variable {tA tB' : TT} {rest : List Expr}
def tAnd (t u : TT) : TT := fun σ H Q => t σ H fun c H1 => if c = true then u σ H1 Q else Q false H1
def tOr (t u : TT) : TT := fun σ H Q => t σ H fun c H1 => if c = true then Q true H1 else u σ H1 Q
def tNot (t : TT) : TT := fun σ H Q => t σ H fun c H1 => Q (!c) H1
theorem pw_and1 (ha : PT X a tA) : PW X (.BoolOp .And [a] pos) tA := by
  intro wh pins s σ H Q I h
  refine isTrue_and (thn (ha pins s σ H Q I h) fun c s1 e => ?_)
  cases c with
  | true => exact isTrue_and_nil e
  | false => exact e
theorem pw_or1 (ha : PT X a tA) : PW X (.BoolOp .Or [a] pos) tA := by
  intro wh pins s σ H Q I h
  refine isTrue_or (thn (ha pins s σ H Q I h) fun c s1 e => ?_)
  cases c with
  | false => exact isTrue_or_nil e
  | true => exact e
theorem pw_and (ha : PT X a tA) (hb : PW X (.BoolOp .And (b :: rest) pos) tB') : PW X (.BoolOp .And (a :: b :: rest) pos) (tAnd tA tB') := by
  intro wh pins s σ H Q I h
  refine isTrue_and (thn (ha pins s σ H _ I h) fun c s1 ⟨H1, I1, q1⟩ => ?_)
  cases c with
  | true => exact hb wh pins s1 σ H1 Q I1 q1
  | false => exact ⟨H1, I1, q1⟩
theorem pw_or (ha : PT X a tA) (hb : PW X (.BoolOp .Or (b :: rest) pos) tB') : PW X (.BoolOp .Or (a :: b :: rest) pos) (tOr tA tB') := by
  intro wh pins s σ H Q I h
  refine isTrue_or (thn (ha pins s σ H _ I h) fun c s1 ⟨H1, I1, q1⟩ => ?_)
  cases c with
  | true => exact ⟨H1, I1, q1⟩
  | false => exact hb wh pins s1 σ H1 Q I1 q1
theorem pt_not (ha : PT X a tA) : PT X (.UnaryOp .Not a pos) (tNot tA) := by
  intro pins s σ H Q I h
  exact isTrue_not (ha pins s σ H (fun c H1 => Q (!c) H1) I h)
/-- .. as values (bools) -/
def tAndV (ta tb : TE) : TE := fun σ H Q => ta σ H fun x H1 => ∃ c, x = .bl c ∧ if c = true then tb σ H1 Q else Q (.bl false) H1
def tOrV (ta tb : TE) : TE := fun σ H Q => ta σ H fun x H1 => ∃ c, x = .bl c ∧ if c = true then Q (.bl true) H1 else tb σ H1 Q
def tNotV (ta : TE) : TE := fun σ H Q => ta σ H fun x H1 => ∃ c, x = .bl c ∧ Q (.bl (!c)) H1
theorem pe_one {op} {t : TE} (h : PE X a t) : PE X (.BoolOp op [a] pos) t := fun pins s σ H Q I hw => BoolOp_one (h pins s σ H Q I hw)
theorem pe_and (ha : PE X a ta) (hb : PE X (.BoolOp .And (b :: rest) pos) tb) : PE X (.BoolOp .And (a :: b :: rest) pos) (tAndV ta tb) := by
  intro pins s σ H Q I h
  refine BoolOp_and (thn (ha pins s σ H _ I h) fun v s1 ⟨x, H1, I1, r1, q1⟩ => ?_)
  obtain ⟨c, rfl, q1⟩ := q1
  cases r1
  refine wpAny_truthy_bool ?_
  cases c with
  | true => exact hb pins s1 σ H1 Q I1 q1
  | false => exact ⟨.bl false, H1, I1, rfl, q1⟩
theorem pe_or (ha : PE X a ta) (hb : PE X (.BoolOp .Or (b :: rest) pos) tb) : PE X (.BoolOp .Or (a :: b :: rest) pos) (tOrV ta tb) := by
  intro pins s σ H Q I h
  refine BoolOp_or (thn (ha pins s σ H _ I h) fun v s1 ⟨x, H1, I1, r1, q1⟩ => ?_)
  obtain ⟨c, rfl, q1⟩ := q1
  cases r1
  refine wpAny_truthy_bool ?_
  cases c with
  | false => exact hb pins s1 σ H1 Q I1 q1
  | true => exact ⟨.bl true, H1, I1, rfl, q1⟩
theorem pe_not (ha : PE X a ta) : PE X (.UnaryOp .Not a pos) (tNotV ta) := by
  intro pins s σ H Q I h
  refine UnaryOp_ (thn (ha pins s σ H _ I h) fun v s1 ⟨x, H1, I1, r1, q1⟩ => ?_)
  obtain ⟨c, rfl, q1⟩ := q1
  cases r1
  exact not_of (wpAny_truthy_bool ⟨.bl (!c), H1, I1, rfl, q1⟩)
/-- a if t else b -/
def tIf (t : TT) (ta tb : TE) : TE := fun σ H Q => t σ H fun c H1 => if c = true then ta σ H1 Q else tb σ H1 Q
theorem pe_ifExp {c : Expr} (hc : PT X c tA) (ha : PE X a ta) (hb : PE X b tb) : PE X (.IfExp c a b pos) (tIf tA ta tb) := by
  intro pins s σ H Q I h
  refine wpAny_IfExp (thn (hc pins s σ H _ I h) fun d s1 ⟨H1, I1, q1⟩ => ?_)
  cases d with
  | true => exact ha pins s1 σ H1 Q I1 q1
  | false => exact hb pins s1 σ H1 Q I1 q1
end
end L2

namespace L2
open PySem PySem.Spec PyProof.Rows

/-! ### a list, a tuple that is read: tracked, frozen, or an object of the module -/
def SqL (K : PySem.W.Frag) (H : Hp) (a : Addr) (xs : List V) : Prop :=
  Rd H a (.lst xs) ∨
    ∃ (o : Obj) (its : Array Value) (n : Nat), K.lookup a = some o ∧ o.cls = .type "list" ∧ o.dict = none ∧ o.data = .seq its n ∧ its.size ≤ sizeLine ∧ Vals xs its.toList
def SqT (K : PySem.W.Frag) (H : Hp) (a : Addr) (xs : List V) : Prop :=
  Rd H a (.tup xs) ∨
    ∃ (o : Obj) (its : Array Value) (n : Nat), K.lookup a = some o ∧ o.cls = .type "tuple" ∧ o.data = .seq its n ∧ its.size ≤ sizeLine ∧ Vals xs its.toList
def absV : Value → Option V
  | .none => some .non
  | .bool b => some (.bl b)
  | .int i _ => some (.int i)
  | .str x _ => some (.str x)
  | .bytes b _ => some (.byt b)
  | .float b _ => some (.flt b)
  | .ref a => some (.ref a)
  | .type n => some (.ty n)
  | _ => none
theorem RelV.abs {x : V} {u : Value} (r : RelV x u) : absV u = some x := by
  cases x with
  | non => cases r; rfl
  | bl _ => cases r; rfl
  | int _ => obtain ⟨t, rfl⟩ := r; rfl
  | str _ => obtain ⟨t, rfl⟩ := r; rfl
  | byt _ => obtain ⟨t, rfl⟩ := r; rfl
  | flt _ => obtain ⟨t, rfl⟩ := r; rfl
  | ref _ => cases r; rfl
  | ty _ => cases r; rfl
theorem RelV.inj {x y : V} {u : Value} (r : RelV x u) (q : RelV y u) : x = y := Option.some.inj (r.abs.symm.trans q.abs)
theorem Vals.inj : ∀ {xs ys : List V} {us : List Value}, Vals xs us → Vals ys us → xs = ys
  | _, _, _, .nil, .nil => rfl
  | _, _, _, .cons r t, .cons r' t' => by rw [r.inj r', Vals.inj t t']
section
variable {X : Cx} {pins : List (Addr × Obj)} {σ : St} {H : Hp} {s : Shared} {a : Addr} {xs ys : List V}
theorem SqL.of {K : PySem.W.Frag} (h : H a = some (.lst xs)) : SqL K H a xs := .inl (.inl h)
theorem SqT.of {K : PySem.W.Frag} (h : H a = some (.tup xs)) : SqT K H a xs := .inl (.inl h)
theorem Inv.list (I : Inv X pins σ H s) (h : SqL X.K H a xs) : ∃ its : List Value, Vals xs its ∧ PlainL s.heap a its.toArray ∧ xs.length ≤ sizeLine := by
  rcases h with h | ⟨o, its, n, hk, hc, hd, hs, hz, r⟩
  · obtain ⟨z, its, n, r, e⟩ := h.ok I.hok
    exact ⟨its, r, ⟨_, n, e, rfl, rfl, rfl⟩, z⟩
  · refine ⟨its.toList, r, ⟨o, n, I.kIn a o hk, hc, hd, by simpa using hs⟩, ?_⟩
    have e := r.length
    simp only [Array.length_toList] at e
    omega
theorem Inv.tuple (I : Inv X pins σ H s) (h : SqT X.K H a xs) : ∃ its : List Value, Vals xs its ∧ IsTup s.heap a its.toArray ∧ xs.length ≤ sizeLine := by
  rcases h with h | ⟨o, its, n, hk, hc, hs, hz, r⟩
  · obtain ⟨z, its, r, p⟩ := h.ok I.hok
    exact ⟨its, r, p, z⟩
  · refine ⟨its.toList, r, ⟨o, I.kIn a o hk, hc, n, by simpa using hs⟩, ?_⟩
    have e := r.length
    simp only [Array.length_toList] at e
    omega
theorem Inv.list_inj (I : Inv X pins σ H s) (h : SqL X.K H a xs) (h' : SqL X.K H a ys) : xs = ys := by
  obtain ⟨its, r, ⟨o, n, e, _, _, d⟩, _⟩ := I.list h
  obtain ⟨its', r', ⟨o', n', e', _, _, d'⟩, _⟩ := I.list h'
  rw [e] at e'; cases e'
  rw [d] at d'
  injection d' with d1 _
  have : its = its' := by simpa using congrArg Array.toList d1
  subst this
  exact r.inj r'
theorem Inv.tuple_inj (I : Inv X pins σ H s) (h : SqT X.K H a xs) (h' : SqT X.K H a ys) : xs = ys := by
  obtain ⟨its, r, ⟨o, e, _, n, d⟩, _⟩ := I.tuple h
  obtain ⟨its', r', ⟨o', e', _, n', d'⟩, _⟩ := I.tuple h'
  rw [e] at e'; cases e'
  rw [d] at d'
  injection d' with d1 _
  have : its = its' := by simpa using congrArg Array.toList d1
  subst this
  exact r.inj r'
end

/-! ### another wish about exceptions -/
abbrev Cx.wish (X : Cx) (E : Value → Shared → Prop) : Cx := { X with xe := E }
/-- no exception leaves -/
abbrev Cx.nox (X : Cx) : Cx := X.wish fun _ _ => False
theorem Cx.Ok.wish {X : Cx} (ok : X.Ok) (E : Value → Shared → Prop) : (X.wish E).Ok :=
  ⟨ok.mod, ok.kind, ok.glob, ok.blt, ok.above, ok.inj, ok.has, ok.cab, ok.hd, ok.frames, ok.stk, ok.exf, ok.bs, ok.bsz, ok.noex, ok.exfs, ok.funs, ok.frf⟩
theorem Cx.Ok.unwish {X : Cx} {E : Value → Shared → Prop} (ok : (X.wish E).Ok) : X.Ok :=
  ⟨ok.mod, ok.kind, ok.glob, ok.blt, ok.above, ok.inj, ok.has, ok.cab, ok.hd, ok.frames, ok.stk, ok.exf, ok.bs, ok.bsz, ok.noex, ok.exfs, ok.funs, ok.frf⟩
section
variable {X : Cx} {pins : List (Addr × Obj)} {σ : St} {H : Hp} {s : Shared} {E : Value → Shared → Prop}
theorem Inv.wish (I : Inv X pins σ H s) (E : Value → Shared → Prop) : Inv (X.wish E) pins σ H s := ⟨I.ok.wish E, I.os, I.bare, I.base, I.loc, I.cell, I.free, I.freeC, I.pin, I.hok, I.len⟩
theorem Inv.unwish (I : Inv (X.wish E) pins σ H s) : Inv X pins σ H s := ⟨I.ok.unwish, I.os, I.bare, I.base, I.loc, I.cell, I.free, I.freeC, I.pin, I.hok, I.len⟩
theorem SP.unwish {D : Ends} {f : Flow} {s' : Shared} (h : SP (X.wish E) pins D f s') : SP X pins D f s' := by
  cases f with
  | next => obtain ⟨σ', H', I, q⟩ := h; exact ⟨σ', H', I.unwish, q⟩
  | brk => obtain ⟨σ', H', I, q⟩ := h; exact ⟨σ', H', I.unwish, q⟩
  | cont => obtain ⟨σ', H', I, q⟩ := h; exact ⟨σ', H', I.unwish, q⟩
  | ret u => obtain ⟨v, σ', H', I, r, q⟩ := h; exact ⟨v, σ', H', I.unwish, r, q⟩
theorem PE.nox {e : Expr} {t : TE} (h : PE X.nox e t) : PE X e t := fun pins s σ H Q I hw =>
  wpAny_mono (h pins s σ H Q (I.wish _) hw) (fun _ _ ⟨v, H', I', r, q⟩ => ⟨v, H', I'.unwish, r, q⟩) fun _ _ z => False.elim z
theorem PT.nox {e : Expr} {t : TT} (h : PT X.nox e t) : PT X e t := fun pins s σ H Q I hw =>
  wpAny_mono (h pins s σ H Q (I.wish _) hw) (fun _ _ ⟨H', I', q⟩ => ⟨H', I'.unwish, q⟩) fun _ _ z => False.elim z
theorem PSs.nox {st : List Stmt} {t : TS} (h : PSs X.nox st t) : PSs X st t := fun pins s σ H D I hw =>
  wpAny_mono (h pins s σ H D (I.wish _) hw) (fun _ _ q => q.unwish) fun _ _ z => False.elim z
end

/-! ### blocks and small statements -/
section
variable {X : Cx} {st : Stmt} {rest : List Stmt} {t u : TS} {e : Expr} {te : TE} {pos : Pos}
def tNext : TS := fun D σ H => D.nx σ H
def tSeq (t u : TS) : TS := fun D σ H => t { D with nx := u D } σ H
theorem pss_nil : PSs X [] tNext := fun _ _ σ H _ I h => wpAny_execs_nil ⟨σ, H, I, h⟩
theorem pss_cons (h1 : PS X st t) (h2 : PSs X rest u) : PSs X (st :: rest) (tSeq t u) := by
  intro pins s σ H D I h
  refine wpAny_execs_cons (thn (h1 pins s σ H { D with nx := u D } I h) fun f s1 q => ?_)
  cases f with
  | next =>
    obtain ⟨σ', H', I', q⟩ := q
    exact h2 pins s1 σ' H' D I' q
  | ret v => exact q
  | brk => exact q
  | cont => exact q
theorem pss_one (h1 : PS X st t) : PSs X [st] t := by
  intro pins s σ H D I h
  refine wpAny_execs_cons (thn (h1 pins s σ H D I h) fun f s1 q => ?_)
  cases f with
  | next => exact wpAny_execs_nil q
  | ret v => exact q
  | brk => exact q
  | cont => exact q
def tBreak : TS := fun D σ H => D.bk σ H
def tCont : TS := fun D σ H => D.ct σ H
theorem ps_pass : PS X (.Pass pos) tNext := fun _ _ σ H _ I h => wpAny_Pass ⟨σ, H, I, h⟩
theorem ps_break : PS X (.Break pos) tBreak := fun _ _ σ H _ I h => wpAny_Break ⟨σ, H, I, h⟩
theorem ps_continue : PS X (.Continue pos) tCont := fun _ _ σ H _ I h => wpAny_Continue ⟨σ, H, I, h⟩
/-- in a def's body nothing is shown -/
theorem Inv.quiet {pins : List (Addr × Obj)} {σ : St} {H : Hp} {s : Shared} (I : Inv X pins σ H s) : interactive X.env = false := by simp [interactive, I.ok.kind]
/-- a docstring -/
theorem ps_doc {x j pos pos'} : PS X (.Expr (.Constant (.str x) j pos) pos') tNext := fun _ s σ H _ I h => wpAny_Expr (Calls.Constant_str (show SP X _ _ .next { s with toks := s.toks + 1 } from ⟨σ, H, I.tok _, h⟩)) I.quiet
/-- an expression whose value is dropped -/
def tDrop (te : TE) : TS := fun D σ H => te σ H fun _ H1 => D.nx σ H1
theorem ps_expr (he : PE X e te) (hs : swapsWith e none pos.line X.env = pure false := by rfl) : PS X (.Expr e pos) (tDrop te) := by
  intro pins s σ H D I h
  exact wpAny_Expr_any (thn (he pins s σ H _ I h) fun v s1 ⟨x, H1, I1, r1, q1⟩ => ⟨σ, H1, I1, q1⟩) I.quiet hs
def tRet (te : TE) : TS := fun D σ H => te σ H D.rt
theorem ps_ret (he : PE X e te) : PS X (.Return (some e) pos) (tRet te) := by
  intro pins s σ H D I h
  exact wpAny_Return_some (thn (he pins s σ H _ I h) fun v s1 ⟨x, H1, I1, r1, q1⟩ => ⟨x, σ, H1, I1, r1, q1⟩)
def tRetN : TS := fun D _ H => D.rt .non H
theorem ps_retN : PS X (.Return none pos) tRetN := fun _ _ σ H _ I h => wpAny_Return_none ⟨.non, σ, H, I, rfl, h⟩
def tIfS (c : TT) (t u : TS) : TS := fun D σ H => c σ H fun b H1 => if b = true then t D σ H1 else u D σ H1
theorem ps_if {c : Expr} {a b : List Stmt} {tc : TT} (hc : PT X c tc) (ha : PSs X a t) (hb : PSs X b u) : PS X (.If c a b pos) (tIfS tc t u) := by
  intro pins s σ H D I h
  refine wpAny_If (thn (hc pins s σ H _ I h) fun d s1 ⟨H1, I1, q1⟩ => ?_)
  cases d with
  | true => exact ha pins s1 σ H1 D I1 q1
  | false => exact hb pins s1 σ H1 D I1 q1
/-- code that the proof never comes to -/
def tNever : TS := fun _ _ _ => False
theorem ps_never : PS X st tNever := fun _ _ _ _ _ _ h => h.elim
theorem pss_never {sts : List Stmt} : PSs X sts tNever := fun _ _ _ _ _ _ h => h.elim
end

/-! ### targets -/
abbrev TG := V → St → Hp → (St → Hp → Prop) → Prop
abbrev TGs := List V → St → Hp → (St → Hp → Prop) → Prop
def PG (X : Cx) (target : Expr) (t : TG) : Prop :=
  ∀ (pins : List (Addr × Obj)) (s : Shared) (σ : St) (H : Hp) (v : V) (u : Value) (Q : St → Hp → Prop), Inv X pins σ H s → RelV v u → t v σ H Q →
    wpAny (model X.prog X.w) X.A (assign target X.env u) (fun _ s' => ∃ σ' H', Inv X pins σ' H' s' ∧ Q σ' H') X.xe s
/-- several targets, one after another -/
def PGs (X : Cx) (ts : List Expr) (t : TGs) : Prop :=
  ∀ (pins : List (Addr × Obj)) (s : Shared) (σ : St) (H : Hp) (vs : List V) (us : List Value) (Q : St → Hp → Prop), Inv X pins σ H s → Vals vs us → t vs σ H Q →
    wpAny (model X.prog X.w) X.A (assignInOrder ((assignEach ts X.env).map (·.2)) us) (fun _ s' => ∃ σ' H', Inv X pins σ' H' s' ∧ Q σ' H') X.xe s
/-- o[i] = v, by values -/
abbrev TSet := V → V → V → Hp → (Hp → Prop) → Prop
def PSet (X : Cx) (t : TSet) : Prop :=
  ∀ (pins : List (Addr × Obj)) (s : Shared) (σ : St) (H : Hp) (o i v : V) (ov iv u : Value) (Q : Hp → Prop), Inv X pins σ H s → RelV o ov → RelV i iv → RelV v u → t o i v H Q →
    wpAny (model X.prog X.w) X.A (setItem ov iv u) (fun _ s' => ∃ H', Inv X pins σ H' s' ∧ Q H') X.xe s
/-- a op= b, by values -/
abbrev TIp := V → V → Hp → VK → Prop
def PIp (X : Cx) (op : Operator) (t : TIp) : Prop :=
  ∀ (pins : List (Addr × Obj)) (s : Shared) (σ : St) (H : Hp) (x y : V) (v u : Value) (Q : VK), Inv X pins σ H s → RelV x v → RelV y u → t x y H Q →
    wpAny (model X.prog X.w) X.A (inplaceOp op v u) (EP X pins σ Q) X.xe s
section
variable {X : Cx} {pos : Pos}
def gName (i : Nat) : TG := fun v σ H Q => Q (σ.set i (some v)) H
theorem pg_name {i : Nat} {x : Str} (hN : X.N.Nodup) (hi : X.N[i]? = some x) (hx : Loc X.env.scope x) (hf : X.fn x = true ∨ X.env.scope.names.lookup x = some .local := by first | exact .inl rfl | exact .inr rfl | assumption) : PG X (.Name x pos) (gName i) := by
  intro pins s σ H v u Q I r h
  exact wpAny_assign_Name (store_ok I hN hi hx r (fun s' I' => ⟨_, H, I', h⟩) hf)
def gNil : TGs := fun vs σ H Q => vs = [] ∧ Q σ H
def gCons (t : TG) (u : TGs) : TGs := fun vs σ H Q => ∃ v r, vs = v :: r ∧ t v σ H fun σ' H' => u r σ' H' Q
theorem pgs_nil : PGs X [] gNil := by
  intro pins s σ H vs us Q I r h
  obtain ⟨e, h⟩ := h
  subst e
  cases r
  exact assignInOrder_nil ⟨σ, H, I, h⟩
theorem pgs_cons {e : Expr} {es : List Expr} {t : TG} {u : TGs} (h1 : PG X e t) (h2 : PGs X es u)
    (hs : (assignEach (e :: es) X.env).map (·.2) = assign e X.env :: (assignEach es X.env).map (·.2) := by rfl) : PGs X (e :: es) (gCons t u) := by
  intro pins s σ H vs us Q I r h
  obtain ⟨v, vr, e1, h⟩ := h
  subst e1
  cases r with
  | cons r rr =>
    rw [hs]
    refine assignInOrder_cons (thn (h1 pins s σ H _ _ _ I r h) fun _ s1 ⟨σ1, H1, I1, q1⟩ => ?_)
    exact h2 pins s1 σ1 H1 _ _ Q I1 rr q1
/-- (a, b, ..) = a tuple of that length -/
def gTup (K : PySem.W.Frag) (n : Nat) (t : TGs) : TG := fun v σ H Q => ∃ a xs, v = .ref a ∧ SqT K H a xs ∧ xs.length = n ∧ t xs σ H Q
theorem pg_tup {es : List Expr} {k : Nat} {t : TGs} {n : Nat} (hc : X.calm = true) (h : PGs X es t)
    (hn : (assignEach es X.env).length = n := by rfl) (hst : (assignEach es X.env).findIdx? (·.1) = none := by rfl) : PG X (.Tuple es k pos) (gTup X.K n t) := by
  intro pins s σ H v u Q I r hw
  obtain ⟨a, xs, e1, hq, hl, hw⟩ := hw
  subst e1
  cases r
  obtain ⟨its, rv, ht, hz⟩ := I.tuple hq
  refine assign_Tuple_tuple (I.ok.hd hc) ht (by simp [hn, ← hl, rv.length]) hst fun h' hx => ?_
  have I1 : Inv X pins σ H { s with heap := h' } := I.kept (t' := s.toks) fun b o e => hx b o (Nat.ne_of_lt (Heap.lt_size e)) e
  exact h pins _ σ H xs _ Q I1 (by simpa using rv) hw
/-- o[i] = .. -/
def gSub (to ti : TE) (t : TSet) : TG := fun v σ H Q => to σ H fun o H1 => ti σ H1 fun i H2 => t o i v H2 fun H3 => Q σ H3
theorem pg_sub {o i : Expr} {to ti : TE} {t : TSet} (ho : PE X o to) (hi : PE X i ti) (hs : PSet X t)
    (ha : ∀ v, assign (.Subscript o i pos) X.env v = (do
      let ov ← holding [v] (eval o X.env)
      let iv ← holding [v, ov] (eval i X.env)
      standAt pos
      holding [v, ov, iv] (setItem ov iv v)
      release [v, ov, iv] []) := by intro _; rfl) : PG X (.Subscript o i pos) (gSub to ti t) := by
  intro pins s σ H v u Q I r h
  rw [ha]
  refine wpAny_bind (wpAny_holding (thn (ho pins s σ H _ I h) fun ov s1 ⟨x, H1, I1, r1, q1⟩ => ?_))
  refine wpAny_bind (wpAny_holding (thn (hi pins s1 σ H1 _ I1 q1) fun iv s2 ⟨y, H2, I2, r2, q2⟩ => ?_))
  refine wpAny_bind (wpAny_standAt (wpAny_bind (wpAny_holding (thn (hs pins s2 σ H2 x y v ov iv u _ I2 r1 r2 r q2) fun _ s3 ⟨H3, I3, q3⟩ => ?_))))
  exact wpAny_release ⟨σ, H3, I3, q3⟩
/-- target = value -/
def tAsg (te : TE) (g : TG) : TS := fun D σ H => te σ H fun x H1 => g x σ H1 D.nx
theorem ps_asg {tg e : Expr} {te : TE} {g : TG} (he : PE X e te) (hg : PG X tg g) (hs : swapsWithSole [tg] e pos.line X.env = pure false := by rfl) (hw : swappedStores [tg] e X.env = pure none := by rfl)
    (h1 : (assignEach [tg] X.env).map (·.2) = [assign tg X.env] := by rfl) : PS X (.Assign [tg] e pos) (tAsg te g) := by
  intro pins s σ H D I h
  refine wpAny_Assign_stores (thn (he pins s σ H _ I h) fun v s1 ⟨x, H1, I1, r1, q1⟩ => ?_) hs hw
  rw [h1]
  exact thn (hg pins s1 σ H1 x v _ I1 r1 q1) fun _ s2 q => q
/-- name = value -/
theorem ps_set {i : Nat} {x : Str} {e : Expr} {te : TE} {pos' : Pos} (hN : X.N.Nodup) (hi : X.N[i]? = some x) (hx : Loc X.env.scope x) (he : PE X e te) (hs : swapsWith e (some (.Name x pos')) pos.line X.env = pure false := by rfl) (hf : X.fn x = true ∨ X.env.scope.names.lookup x = some .local := by first | exact .inl rfl | exact .inr rfl | assumption) :
    PS X (.Assign [.Name x pos'] e pos) (tAsg te (gName i)) := by
  intro pins s σ H D I h
  refine wpAny_Assign_Name (thn (he pins s σ H _ I h) fun v s1 ⟨y, H1, I1, r1, q1⟩ => ?_) hs
  exact store_ok I1 hN hi hx r1 (fun s2 I2 => ⟨_, H1, I2, q1⟩) hf
/-- a, b = x, y with plain local names: stored from the right; the pair itself is not tracked (the opening rows as in PyProof/Rows/TupAssign.lean:23) -/
def tPar (i j : Nat) (ta : TA) : TS := fun D σ H => ta σ H fun vs H1 => ∃ v w, vs = [v, w] ∧ D.nx ((σ.set i (some v)).set j (some w)) H1
theorem ps_par {i j : Nat} {x y : Str} {a b : Expr} {ta : TA} {px py pt : Pos} {kt k2 pt2} (hc : X.calm = true) (hN : X.N.Nodup) (hi : X.N[i]? = some x) (hj : X.N[j]? = some y) (hij : i ≠ j)
    (hx : X.env.scope.names.lookup x = some .local) (hy : X.env.scope.names.lookup y = some .local) (ha : PA X [a, b] ta)
    (hw : swappedStores [.Tuple [.Name x px, .Name y py] kt pt] (.Tuple [a, b] k2 pt2) X.env = pure (some [x, y]))
    (hs : swapsWithSole [.Tuple [.Name x px, .Name y py] kt pt] (.Tuple [a, b] k2 pt2) pos.line X.env = pure false := by rfl) :
    PS X (.Assign [.Tuple [.Name x px, .Name y py] kt pt] (.Tuple [a, b] k2 pt2) pos) (tPar i j ta) := by
  intro pins s σ H D I h
  rw [exec_Assign_arm]
  refine wpAny_bind (wpAny_standAt ?_)
  rw [hs]
  refine wpAny_bind (wpAny_pure ?_)
  rw [if_neg (by decide)]
  refine wpAny_bind (Tuple_ (thn (ha _ pins s σ H _ I h) fun us s1 ⟨vs, H1, I1, r1, q1⟩ => ?_))
  obtain ⟨v, w, e1, q1⟩ := q1
  subst e1
  obtain ⟨u1, u2, rfl, rv, rw'⟩ : ∃ u1 u2, us = [u1, u2] ∧ RelV v u1 ∧ RelV w u2 := by
    cases r1 with
    | cons p q =>
      cases q with
      | cons p' q' =>
        cases q'
        exact ⟨_, _, rfl, p, p'⟩
  refine wpAny_newObj_type ?_ (by show 2 ≤ sizeLine; decide)
  have I2 : Inv X pins σ H1 { s1 with heap := s1.heap.push { cls := .type "tuple", data := .seq [u1, u2].toArray } } := I1.kept (t' := s1.toks) fun b o e => Heap.get?_push_of_some _ e
  rw [hw]
  refine wpAny_bind (wpAny_pure ?_)
  show wpAny (model X.prog X.w) X.A (do rule "assign.swapped-stores"; let items ← unpackItems (.ref s1.heap.objs.size) 2 none; assignInOrder [fun v => bindName X.env y v, fun v => bindName X.env x v] items.reverse; pure Flow.next) _ _ _
  refine wpAny_bind (wpAny_rule (wpAny_bind (unpackItems_tuple (items := #[u1, u2]) (I.ok.hd hc) (IsTup.new s1.heap _) fun h' hx' => ?_)))
  have I3 := I2.kept (h' := h') (t' := s1.toks) fun b o e => hx' b o (Nat.ne_of_lt (Heap.lt_size e)) e
  show wpAny _ _ (assignInOrder [fun v => bindName X.env y v, fun v => bindName X.env x v] [u2, u1] >>= fun _ => pure Flow.next) _ _ _
  refine wpAny_bind (assignInOrder_cons (wpAny_bindName (store_ok I3 hN hj (.inl hy) rw' (fun s2 I4 => ?_) (.inr hy))))
  refine assignInOrder_cons (wpAny_bindName (store_ok I4 hN hi (.inl hx) rv (fun s3 I5 => assignInOrder_nil (wpAny_pure ?_)) (.inr hx)))
  rw [List.set_comm _ _ (Ne.symm hij)] at I5
  exact ⟨_, H1, I5, q1⟩
/-- name op= e -/
def tAug (i : Nat) (te : TE) (ti : TIp) : TS := fun D σ H => ∃ x, σ[i]? = some (some x) ∧ te σ H fun y H1 => ti x y H1 fun z H2 => D.nx (σ.set i (some z)) H2
theorem ps_aug {i : Nat} {x : Str} {e : Expr} {te : TE} {op : Operator} {ti : TIp} {pos' : Pos} (hN : X.N.Nodup) (hi : X.N[i]? = some x) (hx : Loc X.env.scope x) (he : PE X e te) (ho : PIp X op ti) (hf : X.fn x = true ∨ X.env.scope.names.lookup x = some .local := by first | exact .inl rfl | exact .inr rfl | assumption) :
    PS X (.AugAssign (.Name x pos') op e pos) (tAug i te ti) := by
  intro pins s σ H D I h
  obtain ⟨v, e1, h⟩ := h
  obtain ⟨m, hn, hl⟩ := I.loc
  have vis : Vis X.env.scope x := by rcases hx with k | k; exact .inl k; exact .inr (.inl k)
  obtain ⟨u, r, l⟩ := hl i x v hi e1 vis
  refine wpAny_AugAssign_Name ?_
  have go : wpAny (model X.prog X.w) X.A (eval e X.env) (fun w s₂ => wpAny (model X.prog X.w) X.A (inplaceOp op u w) (fun r s₃ => wpAny (model X.prog X.w) X.A (storeName X.env x r) (fun _ => SP X pins D .next) X.xe s₃) X.xe s₂) X.xe s := by
    refine thn (he pins s σ H _ I h) fun w s1 ⟨y, H1, I1, r1, q1⟩ => ?_
    refine thn (ho pins s1 σ H1 v y u w _ I1 r r1 q1) fun z s2 ⟨zv, H2, I2, r2, q2⟩ => ?_
    exact store_ok I2 hN hi hx r2 (fun s3 I3 => ⟨_, H2, I3, q2⟩) hf
  rcases l with ⟨hk, hm⟩ | ⟨hk, c, hc, hcell⟩
  · exact wpAny_loadName_local I.ok.kind hk hn hm go
  · rcases hk with hk | hk
    · exact wpAny_loadName_cell I.ok.kind hk hc hcell go
    · rcases hx with k | k
      · have : X.env.scope.names.lookup x = some .free := hk
        rw [k] at this; cases this
      · have : X.env.scope.names.lookup x = some .free := hk
        rw [k] at this; cases this
/-- o[i] op= e -/
def tAugS (to ti te : TE) (tget : V → V → Hp → VK → Prop) (tip : TIp) (tset : TSet) : TS := fun D σ H => to σ H fun o H1 => ti σ H1 fun i H2 => tget o i H2 fun x H3 => te σ H3 fun y H4 => tip x y H4 fun z H5 => tset o i z H5 fun H6 => D.nx σ H6
/-- o[i], by values -/
def PGet (X : Cx) (t : V → V → Hp → VK → Prop) : Prop :=
  ∀ (pins : List (Addr × Obj)) (s : Shared) (σ : St) (H : Hp) (o i : V) (ov iv : Value) (Q : VK), Inv X pins σ H s → RelV o ov → RelV i iv → t o i H Q →
    wpAny (model X.prog X.w) X.A (getItem ov iv) (EP X pins σ Q) X.xe s
theorem ps_augS {o i e : Expr} {to ti te : TE} {tget : V → V → Hp → VK → Prop} {tip : TIp} {tset : TSet} {op : Operator} {tpos : Pos} (ho : PE X o to) (hi : PE X i ti) (hg : PGet X tget) (he : PE X e te) (hp : PIp X op tip) (hs : PSet X tset)
    (ha : ∀ ov iv new, augStore i ov iv new = (do holding [new, ov, iv] (setItem ov iv new); release [new, ov, iv] []; pure .next) := by intros; rfl) : PS X (.AugAssign (.Subscript o i tpos) op e pos) (tAugS to ti te tget tip tset) := by
  intro pins s σ H D I h
  refine wpAny_AugAssign_SubscriptAny (thn (ho pins s σ H _ I h) fun ov s1 ⟨x1, H1, I1, r1, q1⟩ => ?_) ha
  refine thn (hi pins s1 σ H1 _ I1 q1) fun iv s2 ⟨x2, H2, I2, r2, q2⟩ => ?_
  refine thn (hg pins s2 σ H2 x1 x2 ov iv _ I2 r1 r2 q2) fun old s3 ⟨x3, H3, I3, r3, q3⟩ => ?_
  refine thn (he pins s3 σ H3 _ I3 q3) fun v s4 ⟨x4, H4, I4, r4, q4⟩ => ?_
  refine thn (hp pins s4 σ H4 x3 x4 old v _ I4 r3 r4 q4) fun new s5 ⟨x5, H5, I5, r5, q5⟩ => ?_
  exact thn (hs pins s5 σ H5 x1 x2 x5 ov iv new _ I5 r1 r2 r5 q5) fun _ s6 ⟨H6, I6, q6⟩ => ⟨σ, H6, I6, q6⟩
/-- ints -/
def ipI (f : Int → Int → Int) : TIp := fun x y H Q => ∃ i j, x = .int i ∧ y = .int j ∧ Q (.int (f i j)) H
theorem ip_add : PIp X .Add (ipI fun i j => i + j) := by
  intro pins s σ H x y v u Q I r1 r2 h
  obtain ⟨i, j, e1, e2, q⟩ := h
  subst e1; subst e2
  obtain ⟨t, rfl⟩ := r1
  obtain ⟨t', rfl⟩ := r2
  exact iadd_int ⟨.int _, H, I.tok _, ⟨_, rfl⟩, q⟩
theorem ip_sub : PIp X .Sub (ipI fun i j => i - j) := by
  intro pins s σ H x y v u Q I r1 r2 h
  obtain ⟨i, j, e1, e2, q⟩ := h
  subst e1; subst e2
  obtain ⟨t, rfl⟩ := r1
  obtain ⟨t', rfl⟩ := r2
  exact isub_int ⟨.int _, H, I.tok _, ⟨_, rfl⟩, q⟩
end

/-! ### while -/
section
variable {X : Cx} {pos : Pos}
/-- the invariant W with its measure -/
def tWhile (c : TT) (tb : TS) : TS := fun D σ H => ∃ W : Nat → St → Hp → Prop, (∃ m, W m σ H) ∧ ∀ m σ H, W m σ H →
  c σ H fun b H1 => if b = true then ∃ N : St → Hp → Prop, (∀ σ' H', N σ' H' → ∃ m', m' < m ∧ W m' σ' H') ∧ tb { D with nx := N, ct := N, bk := D.nx } σ H1 else D.nx σ H1
theorem ps_while {c : Expr} {body : List Stmt} {tc : TT} {tb : TS} (hp : PassesOwn (model X.prog X.w) X.A X.env X.xe) (hc : PT X c tc) (hb : PSs X body tb) : PS X (.While c body [] pos) (tWhile tc tb) := by
  intro pins s σ H D I h
  obtain ⟨W, ⟨m0, w0⟩, turn⟩ := h
  refine wpAny_While (codeAny_whileLoop (fun n s' => ∃ σ' H', Inv X pins σ' H' s' ∧ W n σ' H') ?_ m0 ⟨σ, H, I, w0⟩)
  rintro n s1 ⟨σ1, H1, I1, w1⟩
  refine wpAny_passesOwn hp (thn (hc pins s1 σ1 H1 _ I1 (turn n σ1 H1 w1)) fun b s2 ⟨H2, I2, q2⟩ => ?_)
  cases b with
  | true =>
    obtain ⟨N, hN, q2⟩ := q2
    rw [if_pos rfl]
    refine wpAny_passesOwn hp (thn (hb pins s2 σ1 H2 _ I2 q2) fun f s3 q3 => ?_)
    cases f with
    | next =>
      obtain ⟨σ3, H3, I3, n3⟩ := q3
      obtain ⟨m', hm, w3⟩ := hN σ3 H3 n3
      exact ⟨m', hm, σ3, H3, I3, w3⟩
    | cont =>
      obtain ⟨σ3, H3, I3, n3⟩ := q3
      obtain ⟨m', hm, w3⟩ := hN σ3 H3 n3
      exact ⟨m', hm, σ3, H3, I3, w3⟩
    | brk => exact q3
    | ret v => exact q3
  | false =>
    rw [if_neg Bool.false_ne_true]
    exact wpAny_execs_nil ⟨σ1, H2, I2, q2⟩
end

/-! ### what a loop or a comprehension walks -/
/-- at turn i: it yields x (the heap may grow), or it stops -/
structure It where
  go : Nat → Hp → Prop
  yld : Nat → Hp → V → Hp → Prop
  stop : Nat → Hp → Prop
/-- the iterator's own objects may turn: they are not the frame's, not pinned, younger than the entry (or a comprehension's own) -/
def FpOk (X : Cx) (pins : List (Addr × Obj)) (H : Hp) (b : Addr) : Prop :=
  H b = none ∧ b ≠ X.env.locals ∧ b ∉ X.fs ∧ (b ∈ X.ex ∨ X.s₀.heap.objs.size ≤ b) ∧ (∀ x c, X.env.cells.lookup x = some c → c ≠ b) ∧ ∀ p ∈ X.pn ++ pins, p.1 ≠ b
theorem Inv.fpOk {X : Cx} {pins : List (Addr × Obj)} {σ : St} {H H' : Hp} {s : Shared} {b : Addr} (I : Inv X pins σ H s) (hb : s.heap.objs.size ≤ b) (hn : H' b = none) : FpOk X pins H' b := by
  refine ⟨hn, Nat.ne_of_gt (Nat.lt_of_lt_of_le I.lt hb), I.nofs hb, .inr (Nat.le_trans I.sz hb), fun x c e z => ?_, fun p hp z => ?_⟩
  · obtain ⟨v, q⟩ := I.cell x c e
    exact absurd (Nat.lt_of_lt_of_le q.lt (by rw [z]; exact hb)) (Nat.lt_irrefl _)
  · exact absurd (Nat.lt_of_lt_of_le (Heap.lt_size (I.pin p hp).1) (by rw [z]; exact hb)) (Nat.lt_irrefl _)
structure Turn (P : Program) (w : World) (K : PySem.W.Frag) (tg : Expr) (J : It) (fp : List Addr) (it : Addr) (tn : Nat → Heap → Prop) : Prop where
  mem : it ∈ fp
  obj : ∀ i h, tn i h → ∀ b ∈ fp, ∃ o, h.get? b = some o ∧ ∀ v, o.data ≠ .cell v
  keep : ∀ i h h', tn i h → (∀ b ∈ fp, ∀ o, h.get? b = some o → h'.get? b = some o) → tn i h'
  item : ∀ (X : Cx), X.prog = P → X.w = w → X.K = K → X.calm = true → ∀ (i : Nat) (pins : List (Addr × Obj)) (s : Shared) (σ : St) (H : Hp) (E : Value → Shared → Prop), Inv X pins σ H s → (∀ b ∈ fp, FpOk X pins H b) → tn i s.heap → J.go i H →
    wpAny (model P w) X.A (pyNext (.ref it)) (fun r s1 => ∃ u, r = some u ∧
      wpAny (model P w) X.A (letOwnedTupleGo tg (.ref it) u) (fun _ s2 => ∃ x H', Inv X pins σ H' s2 ∧ RelV x u ∧ J.yld i H x H' ∧ tn (i + 1) s2.heap ∧ ∀ b ∈ fp, H' b = none) E s1) E s
  done : ∀ (X : Cx), X.prog = P → X.w = w → X.K = K → X.calm = true → ∀ (i : Nat) (pins : List (Addr × Obj)) (s : Shared) (σ : St) (H : Hp) (E : Value → Shared → Prop), Inv X pins σ H s → (∀ b ∈ fp, FpOk X pins H b) → tn i s.heap → J.stop i H →
    wpAny (model P w) X.A (pyNext (.ref it)) (fun r s1 => r = none ∧ Inv X pins σ H s1) E s
  self : ∀ (A : Around) (i : Nat) (s : Shared) (Q : Value → Shared → Prop) (E : Value → Shared → Prop), tn i s.heap → Q (.ref it) s → wpAny (model P w) A (pyIter (.ref it)) Q E s
abbrev TI := St → Hp → (It → Hp → Prop) → Prop
/-- an iterator has come -/
def PIE (X : Cx) (pins : List (Addr × Obj)) (σ : St) (tg : Expr) (R : It → Hp → Prop) (itv : Value) (s2 : Shared) : Prop :=
  ∃ (it : Addr) (fp : List Addr) (tn : Nat → Heap → Prop) (J : It) (H' : Hp), itv = .ref it ∧ Inv X pins σ H' s2 ∧ Turn X.prog X.w X.K tg J fp it tn ∧ tn 0 s2.heap ∧ (∀ b ∈ fp, FpOk X pins H' b) ∧ R J H'
def PI (X : Cx) (tg iter : Expr) (wi : TI) : Prop :=
  ∀ (pins : List (Addr × Obj)) (s : Shared) (σ : St) (H : Hp) (R : It → Hp → Prop), Inv X pins σ H s → wi σ H R →
    wpAny (model X.prog X.w) X.A (eval iter X.env) (fun v s1 => wpAny (model X.prog X.w) X.A (pyIter v) (PIE X pins σ tg R) X.xe s1) X.xe s

/-- the step ahead of the store is nothing for an iterator that keeps no tuple -/
theorem go_of {M : Model} {A : Around} {E : Value → Shared → Prop} {s : Shared} {tg : Expr} {it : Addr} {u : Value} {o : Obj} {n : String} {vs : Array Value} {Q : Unit → Shared → Prop} (ho : s.heap.get? it = some o) (hc : o.cls = .type n) (hd : o.data = .fields vs)
    (hn : ["enumerate", "zip", "dict_itemiterator", "dict_reverseitemiterator", "odict_iterator", "itertools.zip_longest", "itertools.pairwise"].contains n = false) (hQ : Q () s) : wpAny M A (letOwnedTupleGo tg (.ref it) u) Q E s := by
  unfold letOwnedTupleGo
  cases tg <;> first
    | exact wpAny_pure hQ
    | (cases u <;> first
        | exact wpAny_pure hQ
        | (refine wpAny_bind (wpAny_load ho ?_)
           rw [hc, hd]
           show wpAny M A (if (["enumerate", "zip", "dict_itemiterator", "dict_reverseitemiterator", "odict_iterator", "itertools.zip_longest", "itertools.pairwise"].contains n && vs[0]? == some (rawInt _)) = true then _ else _) Q E s
           rw [if_neg (by intro h; rw [hn, Bool.false_and] at h; cases h)]
           exact wpAny_pure hQ))

/-- the list at a, as it stands at each turn (a loop may append to it) -/
def Itl (K : PySem.W.Frag) (a : Addr) : It :=
  ⟨fun i H => ∃ xs x, SqL K H a xs ∧ xs[i]? = some x, fun i H x H' => H' = H ∧ ∀ xs, SqL K H a xs → xs[i]? = some x, fun i H => ∃ xs, SqL K H a xs ∧ xs.length ≤ i⟩
def Itt (K : PySem.W.Frag) (a : Addr) : It :=
  ⟨fun i H => ∃ xs x, SqT K H a xs ∧ xs[i]? = some x, fun i H x H' => H' = H ∧ ∀ xs, SqT K H a xs → xs[i]? = some x, fun i H => ∃ xs, SqT K H a xs ∧ xs.length ≤ i⟩
/-- lo, lo + 1, .. (n of them) -/
def Itr (lo : Int) (n : Nat) : It := ⟨fun i _ => i < n, fun i H x H' => H' = H ∧ x = .int (lo + i), fun i _ => n ≤ i⟩
theorem turn_list {P : Program} {w : World} {K : PySem.W.Frag} {tg : Expr} (a it : Addr) : Turn P w K tg (Itl K a) [it] it (fun i h => h.IsListIter it a i) where
  mem := by simp
  obj := fun i h st b hb => by
    have e : b = it := by simpa using hb
    subst e
    obtain ⟨o, e, c, d⟩ := st
    exact ⟨o, e, fun v z => by rw [d] at z; cases z⟩
  keep := fun i h h' st k => st.at fun o e => k it (by simp) o e
  item := by
    intro X hP hw hK hc i pins s σ H E I hf st hg
    subst hP hw hK
    obtain ⟨xs, x, hq, hx⟩ := hg
    obtain ⟨its, rv, p, hz⟩ := I.list hq
    obtain ⟨u, hu, ru⟩ := rv.get hx
    obtain ⟨f0, f1, f2, f3, f4, f5⟩ := hf it (by simp)
    refine wpAny_pyNext_list_item st p.isList (x := u) (by simpa using hu) fun h' st' sb => ?_
    have I1 : Inv X pins σ H { s with heap := h' } := I.turned (t' := s.toks) (fun b o hb e => (sb.2 b hb).trans e) f0 f1 f3 f4 f5
    obtain ⟨o, e, c, d⟩ := id st'
    exact ⟨u, rfl, go_of (s := { s with heap := h' }) e c d (by decide) ⟨x, H, I1, ru, ⟨rfl, fun ys hy => by rw [I.list_inj hy hq]; exact hx⟩, st', fun b hb => (hf b hb).1⟩⟩
  done := by
    intro X hP hw hK hc i pins s σ H E I hf st hg
    subst hP hw hK
    obtain ⟨xs, hq, hx⟩ := hg
    obtain ⟨its, rv, p, hz⟩ := I.list hq
    obtain ⟨f0, f1, f2, f3, f4, f5⟩ := hf it (by simp)
    have hl := rv.length
    exact wpAny_pyNext_list_end (I.ok.hd hc) st p.isList (by simp; omega) fun h' eb => ⟨rfl, I.turned (t' := s.toks) (fun b o hb e => eb b o hb e) f0 f1 f3 f4 f5⟩
  self := fun _ _ _ _ _ st h => wpAny_pyIter_listiter st h
theorem turn_tuple {P : Program} {w : World} {K : PySem.W.Frag} {tg : Expr} (a it : Addr) : Turn P w K tg (Itt K a) [it] it (fun i h => h.IsTupleIter it a i) where
  mem := by simp
  obj := fun i h st b hb => by
    have e : b = it := by simpa using hb
    subst e
    obtain ⟨o, e, c, d⟩ := st
    exact ⟨o, e, fun v z => by rw [d] at z; cases z⟩
  keep := fun i h h' st k => st.at fun o e => k it (by simp) o e
  item := by
    intro X hP hw hK hc i pins s σ H E I hf st hg
    subst hP hw hK
    obtain ⟨xs, x, hq, hx⟩ := hg
    obtain ⟨its, rv, p, hz⟩ := I.tuple hq
    obtain ⟨u, hu, ru⟩ := rv.get hx
    obtain ⟨f0, f1, f2, f3, f4, f5⟩ := hf it (by simp)
    refine wpAny_pyNext_tuple_item st (show s.heap.IsTuple a its.toArray from p) (x := u) (by simpa using hu) fun h' st' sb => ?_
    have I1 : Inv X pins σ H { s with heap := h' } := I.turned (t' := s.toks) (fun b o hb e => (sb.2 b hb).trans e) f0 f1 f3 f4 f5
    obtain ⟨o, e, c, d⟩ := id st'
    exact ⟨u, rfl, go_of (s := { s with heap := h' }) e c d (by decide) ⟨x, H, I1, ru, ⟨rfl, fun ys hy => by rw [I.tuple_inj hy hq]; exact hx⟩, st', fun b hb => (hf b hb).1⟩⟩
  done := by
    intro X hP hw hK hc i pins s σ H E I hf st hg
    subst hP hw hK
    obtain ⟨xs, hq, hx⟩ := hg
    obtain ⟨its, rv, p, hz⟩ := I.tuple hq
    obtain ⟨f0, f1, f2, f3, f4, f5⟩ := hf it (by simp)
    have hl := rv.length
    exact wpAny_pyNext_tuple_end (I.ok.hd hc) st (show s.heap.IsTuple a its.toArray from p) (by simp; omega) fun h' eb => ⟨rfl, I.turned (t' := s.toks) (fun b o hb e => eb b o hb e) f0 f1 f3 f4 f5⟩
  self := fun _ _ _ _ _ st h => wpAny_pyIter_tupleiter st h
theorem turn_range {P : Program} {w : World} {K : PySem.W.Frag} {tg : Expr} (it : Addr) (lo : Int) (n : Nat) : Turn P w K tg (Itr lo n) [it] it (fun i h => IsRangeIter h it (lo + (i : Nat) * 1) ((n : Int) - (i : Nat)) 1) where
  mem := by simp
  obj := fun i h st b hb => by
    have e : b = it := by simpa using hb
    subst e
    exact ⟨_, st, fun v z => by
      have z' : Data.fields _ = Data.cell v := z
      cases z'⟩
  keep := fun i h h' st k => k it (by simp) _ st
  item := by
    intro X hP hw hK hc i pins s σ H E I hf st hg
    subst hP hw hK
    obtain ⟨f0, f1, f2, f3, f4, f5⟩ := hf it (by simp)
    have W := Walks.range (prog := X.prog) (w := X.w) (I.ok.hd hc) it lo 1 n
    refine W.item i s _ _ hg st fun v h' tk hv st' kk => ?_
    obtain ⟨t, rfl⟩ := hv
    have I1 : Inv X pins σ H { s with heap := h', toks := tk } := I.turned (fun b o hb e => kk b o (by simpa using hb) e) f0 f1 f3 f4 f5
    refine ⟨_, rfl, go_of (s := { s with heap := h', toks := tk }) (n := "range_iterator") st' rfl rfl (by decide) ⟨.int (lo + i), H, I1, ⟨t, ?_⟩, ⟨rfl, rfl⟩, st', fun b hb => (hf b hb).1⟩⟩
    rw [Int.mul_one]
  done := by
    intro X hP hw hK hc i pins s σ H E I hf st hg
    subst hP hw hK
    obtain ⟨f0, f1, f2, f3, f4, f5⟩ := hf it (by simp)
    exact wpAny_pyNext_range_end (I.ok.hd hc) st (by have : n ≤ i := hg; omega) fun h' eb => ⟨rfl, I.turned (t' := s.toks) (fun b o hb e => eb b o hb e) f0 f1 f3 f4 f5⟩
  self := fun _ _ _ _ _ st h => wpAny_pyIter_rangeiter st h
end L2

namespace L2
open PySem PySem.Spec PyProof.Rows
section
variable {X : Cx} {tg : Expr}
def iList (K : PySem.W.Frag) (tl : TE) : TI := fun σ H R => tl σ H fun x H1 => ∃ a, x = .ref a ∧ (∃ xs, SqL K H1 a xs) ∧ R (Itl K a) H1
def iTup (K : PySem.W.Frag) (tl : TE) : TI := fun σ H R => tl σ H fun x H1 => ∃ a, x = .ref a ∧ (∃ xs, SqT K H1 a xs) ∧ R (Itt K a) H1
theorem pi_list {l : Expr} {tl : TE} (hl : PE X l tl) : PI X tg l (iList X.K tl) := by
  intro pins s σ H R I h
  refine thn (hl pins s σ H _ I h) fun v s1 ⟨x, H1, I1, r1, q1⟩ => ?_
  obtain ⟨a, e, ⟨xs, hq⟩, q⟩ := q1
  subst e
  cases r1
  obtain ⟨its, rv, p, hz⟩ := I1.list hq
  refine wpAny_pyIter_list p.isList ?_
  refine ⟨s1.heap.objs.size, [s1.heap.objs.size], _, _, H1, rfl, I1.kept (t' := s1.toks) fun b o e => Heap.get?_push_of_some _ e, turn_list a _, ⟨_, Heap.get?_push_size _ rfl, rfl, rfl⟩, fun b hb => ?_, q⟩
  have e : b = s1.heap.objs.size := by simpa using hb
  subst e
  exact I1.fpOk (Nat.le_refl _) (I1.hok.fresh (Nat.le_refl _))
theorem pi_tup {l : Expr} {tl : TE} (hl : PE X l tl) : PI X tg l (iTup X.K tl) := by
  intro pins s σ H R I h
  refine thn (hl pins s σ H _ I h) fun v s1 ⟨x, H1, I1, r1, q1⟩ => ?_
  obtain ⟨a, e, ⟨xs, hq⟩, q⟩ := q1
  subst e
  cases r1
  obtain ⟨its, rv, p, hz⟩ := I1.tuple hq
  refine wpAny_pyIter_tuple (show s1.heap.IsTuple a its.toArray from p) ?_
  refine ⟨s1.heap.objs.size, [s1.heap.objs.size], _, _, H1, rfl, I1.kept (t' := s1.toks) fun b o e => Heap.get?_push_of_some _ e, turn_tuple a _, ⟨_, Heap.get?_push_size _ rfl, rfl, rfl⟩, fun b hb => ?_, q⟩
  have e : b = s1.heap.objs.size := by simpa using hb
  subst e
  exact I1.fpOk (Nat.le_refl _) (I1.hok.fresh (Nat.le_refl _))
/-- a range object just made, walked -/
theorem range_it {pins : List (Addr × Obj)} {σ : St} {H : Hp} {s : Shared} {R : It → Hp → Prop} {E : Value → Shared → Prop} {lo hi : Int} {t u v : Tok} {tk : Nat} (I : Inv X pins σ H s) (h1 : -(2 ^ 62) ≤ lo) (h2 : lo < 2 ^ 62) (h3 : -(2 ^ 62) ≤ hi) (h4 : hi < 2 ^ 62)
    (q : R (Itr lo (hi - lo).toNat) H) : wpAny (model X.prog X.w) X.A (pyIter (.ref s.heap.objs.size)) (PIE X pins σ tg R) E { s with heap := s.heap.push { cls := .type "range", data := .fields #[.int lo t, .int hi u, .int 1 v] }, toks := tk } := by
  refine wpAny_pyIter_range (IsRange.new ..) (small_one h1 h2 h3 h4) ?_
  have I1 : Inv X pins σ H { s with heap := s.heap.push { cls := .type "range", data := .fields #[.int lo t, .int hi u, .int 1 v] }, toks := tk } := I.kept fun b o e => Heap.get?_push_of_some _ e
  refine ⟨(s.heap.push { cls := .type "range", data := .fields #[.int lo t, .int hi u, .int 1 v] }).objs.size, [(s.heap.push { cls := .type "range", data := .fields #[.int lo t, .int hi u, .int 1 v] }).objs.size], _, _, H, rfl,
    I1.kept (t' := tk) fun b o e => Heap.get?_push_of_some _ e, turn_range _ lo (hi - lo).toNat, ?_, fun b hb => ?_, q⟩
  · have e1 : lo + ((0 : Nat) : Int) * 1 = lo := by simp
    have e2 : (((hi - lo).toNat : Nat) : Int) - ((0 : Nat) : Int) = Builtin.Range.rangeSize lo hi 1 := by rw [rangeSize_one]; split <;> omega
    show IsRangeIter _ _ (lo + ((0 : Nat) : Int) * 1) ((((hi - lo).toNat : Nat) : Int) - ((0 : Nat) : Int)) 1
    rw [e1, e2]
    exact Heap.get?_push_size _ rfl
  · have e : b = (s.heap.push { cls := .type "range", data := .fields #[.int lo t, .int hi u, .int 1 v] }).objs.size := by simpa using hb
    subst e
    exact I1.fpOk (Nat.le_refl _) (I1.hok.fresh (Nat.le_refl _))
def iRng1 (ta : TA) : TI := fun σ H R => ta σ H fun vs H1 => ∃ j : Int, vs = [.int j] ∧ -(2 ^ 62) ≤ j ∧ j < 2 ^ 62 ∧ R (Itr 0 j.toNat) H1
def iRng2 (ta : TA) : TI := fun σ H R => ta σ H fun vs H1 => ∃ i j : Int, vs = [.int i, .int j] ∧ (-(2 ^ 62) ≤ i ∧ i < 2 ^ 62 ∧ -(2 ^ 62) ≤ j ∧ j < 2 ^ 62) ∧ R (Itr i (j - i).toNat) H1
theorem pi_range1 {a : Expr} {ta : TA} {p pos : Pos} (hg : Gl X "range") (hm : X.mg "range" = none) (ha : PA X [a] ta) (hs : starEach [a] X.env = [(false, eval a X.env)] := by rfl) : PI X tg (.Call (.Name "range" p) [a] [] pos) (iRng1 ta) := by
  intro pins s σ H R I h
  refine Call_ (ld_blt I hg hm boot_range (PyProof.Rows.callWith_type1 (thn (ha pos pins s σ H _ I h) fun us s1 ⟨vs, H1, I1, r1, q1⟩ => ?_) hs rfl))
  obtain ⟨j, e, q1, q2, q⟩ := q1
  subst e
  cases r1 with
  | cons r rr =>
    cases rr
    obtain ⟨t, rfl⟩ := r
    exact call_range_1 (range_it I1 (by omega) (by omega) q1 q2 (by simpa using q))
theorem pi_range2 {a b : Expr} {ta : TA} {p pos : Pos} (hg : Gl X "range") (hm : X.mg "range" = none) (ha : PA X [a, b] ta) (hs : starEach [a, b] X.env = [(false, eval a X.env), (false, eval b X.env)] := by rfl) (hs2 : starEach [b] X.env = [(false, eval b X.env)] := by rfl) :
    PI X tg (.Call (.Name "range" p) [a, b] [] pos) (iRng2 ta) := by
  intro pins s σ H R I h
  refine Call_ (ld_blt I hg hm boot_range (PyProof.Rows.callWith_type1 (thn (ha pos pins s σ H _ I h) fun us s1 ⟨vs, H1, I1, r1, q1⟩ => ?_) (by rw [hs, hs2]) (by rw [hs2]; rfl)))
  obtain ⟨i, j, e, ⟨q1, q2, q3, q4⟩, q⟩ := q1
  subst e
  cases r1 with
  | cons r rr =>
    cases rr with
    | cons r' rr =>
      cases rr
      obtain ⟨t, rfl⟩ := r
      obtain ⟨t', rfl⟩ := r'
      exact call_range_2 (range_it I1 q1 q2 q3 q4 q)

/-! ### for -/
/-- W: the invariant by the turn and a measure; N: what the body is to reach -/
def tFor (wi : TI) (g : TG) (tb : TS) : TS := fun D σ H => wi σ H fun J H1 => ∃ W : Nat → Nat → St → Hp → Prop, (∃ m, W 0 m σ H1) ∧ ∀ i m σ H, W i m σ H →
  (J.stop i H ∧ D.nx σ H) ∨ (J.go i H ∧ ∃ N : St → Hp → Prop, (∀ σ' H', N σ' H' → ∃ m', m' < m ∧ W (i + 1) m' σ' H') ∧ ∀ x H', J.yld i H x H' → g x σ H' fun σ2 H2 => tb { D with nx := N, ct := N, bk := D.nx } σ2 H2)
/-- the records at fp as they stand -/
def pinsAt (fp : List Addr) (h : Heap) : List (Addr × Obj) := fp.filterMap fun b => (h.get? b).map fun o => (b, o)
theorem mem_pinsAt {fp : List Addr} {h : Heap} {b : Addr} {o : Obj} (hb : b ∈ fp) (e : h.get? b = some o) : (b, o) ∈ pinsAt fp h := List.mem_filterMap.mpr ⟨b, hb, by rw [e]; rfl⟩
theorem of_pinsAt {fp : List Addr} {h : Heap} {p : Addr × Obj} (hp : p ∈ pinsAt fp h) : p.1 ∈ fp ∧ h.get? p.1 = some p.2 := by
  obtain ⟨b, hb, e⟩ := List.mem_filterMap.mp hp
  cases q : h.get? b with
  | none => rw [q] at e; cases e
  | some o =>
    rw [q] at e
    have e' : (b, o) = p := Option.some.inj e
    subst e'
    exact ⟨hb, q⟩
theorem Inv.pinned {pins : List (Addr × Obj)} {σ : St} {H : Hp} {s : Shared} {fp : List Addr} (I : Inv X pins σ H s) (hf : ∀ b ∈ fp, FpOk X pins H b) (ho : ∀ b ∈ fp, ∃ o, s.heap.get? b = some o ∧ ∀ v, o.data ≠ .cell v) : Inv X (pins ++ pinsAt fp s.heap) σ H s :=
  I.pins_of fun p hp => (List.mem_append.mp hp).elim (fun z => I.pin p (List.mem_append_right _ z)) fun z => by
    obtain ⟨hb, e⟩ := of_pinsAt z
    obtain ⟨f0, f1, f2, _⟩ := hf p.1 hb
    obtain ⟨o, e', d⟩ := ho p.1 hb
    rw [e] at e'; cases e'
    exact ⟨e, f0, f1, f2, d⟩
theorem Inv.unpinned {pins pl : List (Addr × Obj)} {σ : St} {H : Hp} {s : Shared} (I : Inv X (pins ++ pl) σ H s) : Inv X pins σ H s := I.pins_of fun p hp => I.pin p (List.mem_append_right _ (List.mem_append_left _ hp))
theorem ps_for {iter : Expr} {body : List Stmt} {wi : TI} {g : TG} {tb : TS} {pos : Pos} (hp : PassesOwn (model X.prog X.w) X.A X.env X.xe) (hc : X.calm = true) (hi : PI X tg iter wi) (hg : PG X tg g) (hb : PSs X body tb)
    (hs : ∀ x, foldedSetIterable iter X.env x = pure x := by intro _; rfl) : PS X (.For tg iter body [] pos) (tFor wi g tb) := by
  intro pins s σ H D I h
  refine wpAny_For (thn (hi pins s σ H _ I h) fun v s1 h1 => thn h1 fun itv s2 h2 => ?_) hs
  obtain ⟨it, fp, tn, J, H2, e, I2, T, st2, f2, W, ⟨m0, w0⟩, turn⟩ := h2
  subst e
  -- what stays true of the iterator's objects through the loop
  have stat : ∀ {H' : Hp}, (∀ b ∈ fp, H' b = none) → ∀ b ∈ fp, FpOk X pins H' b := fun hn b hb => ⟨hn b hb, (f2 b hb).2⟩
  refine codeAny_forLoop_any (fun n s' => ∃ i σ' H', Inv X pins σ' H' s' ∧ tn i s'.heap ∧ (∀ b ∈ fp, H' b = none) ∧ W i n σ' H') ?_ m0 ⟨0, σ, H2, I2, st2, fun b hb => (f2 b hb).1, w0⟩
  rintro n s3 ⟨i, σ3, H3, I3, st3, fr3, w3⟩
  rcases turn i n σ3 H3 w3 with ⟨stop, qn⟩ | ⟨go, N, hN, step⟩
  · refine wpAny_passesOwn hp (thn (T.done X rfl rfl rfl hc i pins s3 σ3 H3 X.xe I3 (stat fr3) st3 stop) fun r s4 ⟨hr, I4⟩ => ?_)
    subst hr
    exact wpAny_execs_nil ⟨σ3, H3, I4, qn⟩
  · refine wpAny_passesOwn hp (thn (T.item X rfl rfl rfl hc i pins s3 σ3 H3 X.xe I3 (stat fr3) st3 go) fun r s4 ⟨u, hr, h4⟩ => ?_)
    subst hr
    refine wpAny_passesOwn hp (thn h4 fun _ s5 ⟨x, H5, I5, r5, y5, st5, fr5⟩ => ?_)
    have I5' := I5.pinned (stat fr5) (T.obj _ _ st5)
    refine wpAny_passesOwn hp (thn (hg _ s5 σ3 H5 x u _ I5' r5 (step x H5 y5)) fun _ s6 ⟨σ6, H6, I6, q6⟩ => ?_)
    refine wpAny_passesOwn hp (thn (hb _ s6 σ6 H6 _ I6 q6) fun f s7 q7 => ?_)
    have again : ∀ {σ7 : St} {H7 : Hp}, Inv X (pins ++ pinsAt fp s5.heap) σ7 H7 s7 → N σ7 H7 → ∃ m, m < n ∧ ∃ i σ' H', Inv X pins σ' H' s7 ∧ tn i s7.heap ∧ (∀ b ∈ fp, H' b = none) ∧ W i m σ' H' := fun {σ7 H7} I7 n7 => by
      obtain ⟨m', hm, w7⟩ := hN σ7 H7 n7
      refine ⟨m', hm, i + 1, σ7, H7, I7.unpinned, T.keep _ _ _ st5 fun b hb o e => (I7.pin (b, o) (List.mem_append_right _ (List.mem_append_right _ (mem_pinsAt hb e)))).1, fun b hb => ?_, w7⟩
      obtain ⟨o, e, d⟩ := T.obj _ _ st5 b hb
      exact (I7.pin (b, o) (List.mem_append_right _ (List.mem_append_right _ (mem_pinsAt hb e)))).2.1
    cases f with
    | next => obtain ⟨σ7, H7, I7, n7⟩ := q7; exact again I7 n7
    | cont => obtain ⟨σ7, H7, I7, n7⟩ := q7; exact again I7 n7
    | brk => obtain ⟨σ7, H7, I7, q7⟩ := q7; exact ⟨σ7, H7, I7.unpinned, q7⟩
    | ret v => obtain ⟨x7, σ7, H7, I7, r7, q7⟩ := q7; exact ⟨x7, σ7, H7, I7.unpinned, r7, q7⟩
end

/-! ### the forms one uses -/
/-- over a list that the body leaves as it is -/
theorem for_list {K : PySem.W.Frag} {a : Addr} {xs : List V} {g : TG} {tb : TS} {D : Ends} {σ : St} {H : Hp} (Pv : Nat → St → Hp → Prop) (h0 : Pv 0 σ H) (hl : ∀ i σ H, i ≤ xs.length → Pv i σ H → SqL K H a xs)
    (hs : ∀ i x σ H, xs[i]? = some x → Pv i σ H → g x σ H fun σ2 H2 => tb { D with nx := Pv (i + 1), ct := Pv (i + 1), bk := D.nx } σ2 H2) (hd : ∀ σ H, Pv xs.length σ H → D.nx σ H) :
    ∃ W : Nat → Nat → St → Hp → Prop, (∃ m, W 0 m σ H) ∧ ∀ i m σ H, W i m σ H →
      ((Itl K a).stop i H ∧ D.nx σ H) ∨ ((Itl K a).go i H ∧ ∃ N : St → Hp → Prop, (∀ σ' H', N σ' H' → ∃ m', m' < m ∧ W (i + 1) m' σ' H') ∧ ∀ x H', (Itl K a).yld i H x H' → g x σ H' fun σ2 H2 => tb { D with nx := N, ct := N, bk := D.nx } σ2 H2) := by
  refine ⟨fun i m σ H => m = xs.length - i ∧ i ≤ xs.length ∧ Pv i σ H, ⟨xs.length, by simp, Nat.zero_le _, h0⟩, ?_⟩
  rintro i m σ H ⟨rfl, hi, p⟩
  have q := hl i σ H hi p
  by_cases hlt : i < xs.length
  · refine .inr ⟨⟨xs, xs[i], q, by simp [hlt]⟩, Pv (i + 1), fun σ' H' p' => ⟨xs.length - (i + 1), by omega, rfl, hlt, p'⟩, fun x H' y => ?_⟩
    obtain ⟨e, y⟩ := y
    subst e
    exact hs i x σ _ (y xs q) p
  · have e : i = xs.length := by omega
    subst e
    exact .inl ⟨⟨xs, q, Nat.le_refl _⟩, hd σ H p⟩
theorem for_tup {K : PySem.W.Frag} {a : Addr} {xs : List V} {g : TG} {tb : TS} {D : Ends} {σ : St} {H : Hp} (Pv : Nat → St → Hp → Prop) (h0 : Pv 0 σ H) (hl : ∀ i σ H, i ≤ xs.length → Pv i σ H → SqT K H a xs)
    (hs : ∀ i x σ H, xs[i]? = some x → Pv i σ H → g x σ H fun σ2 H2 => tb { D with nx := Pv (i + 1), ct := Pv (i + 1), bk := D.nx } σ2 H2) (hd : ∀ σ H, Pv xs.length σ H → D.nx σ H) :
    ∃ W : Nat → Nat → St → Hp → Prop, (∃ m, W 0 m σ H) ∧ ∀ i m σ H, W i m σ H →
      ((Itt K a).stop i H ∧ D.nx σ H) ∨ ((Itt K a).go i H ∧ ∃ N : St → Hp → Prop, (∀ σ' H', N σ' H' → ∃ m', m' < m ∧ W (i + 1) m' σ' H') ∧ ∀ x H', (Itt K a).yld i H x H' → g x σ H' fun σ2 H2 => tb { D with nx := N, ct := N, bk := D.nx } σ2 H2) := by
  refine ⟨fun i m σ H => m = xs.length - i ∧ i ≤ xs.length ∧ Pv i σ H, ⟨xs.length, by simp, Nat.zero_le _, h0⟩, ?_⟩
  rintro i m σ H ⟨rfl, hi, p⟩
  have q := hl i σ H hi p
  by_cases hlt : i < xs.length
  · refine .inr ⟨⟨xs, xs[i], q, by simp [hlt]⟩, Pv (i + 1), fun σ' H' p' => ⟨xs.length - (i + 1), by omega, rfl, hlt, p'⟩, fun x H' y => ?_⟩
    obtain ⟨e, y⟩ := y
    subst e
    exact hs i x σ _ (y xs q) p
  · have e : i = xs.length := by omega
    subst e
    exact .inl ⟨⟨xs, q, Nat.le_refl _⟩, hd σ H p⟩
theorem for_range {lo : Int} {n : Nat} {g : TG} {tb : TS} {D : Ends} {σ : St} {H : Hp} (Pv : Nat → St → Hp → Prop) (h0 : Pv 0 σ H)
    (hs : ∀ i σ H, i < n → Pv i σ H → g (.int (lo + i)) σ H fun σ2 H2 => tb { D with nx := Pv (i + 1), ct := Pv (i + 1), bk := D.nx } σ2 H2) (hd : ∀ σ H, Pv n σ H → D.nx σ H) :
    ∃ W : Nat → Nat → St → Hp → Prop, (∃ m, W 0 m σ H) ∧ ∀ i m σ H, W i m σ H →
      ((Itr lo n).stop i H ∧ D.nx σ H) ∨ ((Itr lo n).go i H ∧ ∃ N : St → Hp → Prop, (∀ σ' H', N σ' H' → ∃ m', m' < m ∧ W (i + 1) m' σ' H') ∧ ∀ x H', (Itr lo n).yld i H x H' → g x σ H' fun σ2 H2 => tb { D with nx := N, ct := N, bk := D.nx } σ2 H2) := by
  refine ⟨fun i m σ H => m = n - i ∧ i ≤ n ∧ Pv i σ H, ⟨n, by simp, Nat.zero_le _, h0⟩, ?_⟩
  rintro i m σ H ⟨rfl, hi, p⟩
  by_cases hlt : i < n
  · refine .inr ⟨hlt, Pv (i + 1), fun σ' H' p' => ⟨n - (i + 1), by omega, rfl, hlt, p'⟩, fun x H' y => ?_⟩
    obtain ⟨e, y⟩ := y
    subst e y
    exact hs i σ _ hlt p
  · have e : i = n := by omega
    subst e
    exact .inl ⟨Nat.le_refl _, hd σ H p⟩
/-- while, by a word and a measure of the state -/
theorem while_by {c : TT} {tb : TS} {D : Ends} {σ : St} {H : Hp} (Pv : St → Hp → Prop) (μ : St → Hp → Nat) (h0 : Pv σ H)
    (hs : ∀ σ H, Pv σ H → c σ H fun b H1 => if b = true then tb { D with nx := fun σ' H' => Pv σ' H' ∧ μ σ' H' < μ σ H, ct := fun σ' H' => Pv σ' H' ∧ μ σ' H' < μ σ H, bk := D.nx } σ H1 else D.nx σ H1)
    (mono : ∀ σ H Q Q', (∀ b H1, Q b H1 → Q' b H1) → c σ H Q → c σ H Q') : tWhile c tb D σ H := by
  refine ⟨fun m σ H => m = μ σ H ∧ Pv σ H, ⟨_, rfl, h0⟩, ?_⟩
  rintro m σ H ⟨rfl, p⟩
  refine mono σ H _ _ (fun b H1 q => ?_) (hs σ H p)
  cases b with
  | true => exact ⟨_, fun σ' H' ⟨p', l⟩ => ⟨_, l, rfl, p'⟩, q⟩
  | false => exact q
end L2

namespace L2
open PySem PySem.Spec PyProof.Rows

abbrev R2 := V → V → Hp → VK → Prop
/-- a two-place operation on values: f is binaryOp op, inplaceOp op or compareOp op -/
def OpR (X : Cx) (f : Value → Value → Sem Value) (r : R2) : Prop :=
  ∀ (pins : List (Addr × Obj)) (s : Shared) (σ : St) (H : Hp) (x y : V) (v u : Value) (Q : VK), Inv X pins σ H s → RelV x v → RelV y u → r x y H Q →
    wpAny (model X.prog X.w) X.A (f v u) (EP X pins σ Q) X.xe s
/-- a one-place operation -/
def UnR (X : Cx) (f : Value → Sem Value) (r : V → Hp → VK → Prop) : Prop :=
  ∀ (pins : List (Addr × Obj)) (s : Shared) (σ : St) (H : Hp) (x : V) (v : Value) (Q : VK), Inv X pins σ H s → RelV x v → r x H Q →
    wpAny (model X.prog X.w) X.A (f v) (EP X pins σ Q) X.xe s
/-- a call of a value that is known (a builtin, a type) with values -/
def CallR (X : Cx) (f : Value) (r : List V → Hp → VK → Prop) : Prop :=
  ∀ (pins : List (Addr × Obj)) (s : Shared) (σ : St) (H : Hp) (xs : List V) (us : List Value) (Q : VK), Inv X pins σ H s → Vals xs us → r xs H Q →
    wpAny (model X.prog X.w) X.A (call f us) (EP X pins σ Q) X.xe s
/-- a value's truth -/
def TruR (X : Cx) (r : V → Hp → (Bool → Hp → Prop) → Prop) : Prop :=
  ∀ (pins : List (Addr × Obj)) (s : Shared) (σ : St) (H : Hp) (x : V) (v : Value) (Q : Bool → Hp → Prop), Inv X pins σ H s → RelV x v → r x H Q →
    wpAny (model X.prog X.w) X.A (truthy v) (TP X pins σ Q) X.xe s

def tOp (r : R2) (ta tb : TE) : TE := fun σ H Q => ta σ H fun x H1 => tb σ H1 fun y H2 => r x y H2 Q
def tUn (r : V → Hp → VK → Prop) (ta : TE) : TE := fun σ H Q => ta σ H fun x H1 => r x H1 Q
/-- ints in, under C, and a value out -/
def rI (C : Int → Int → Prop) (g : Int → Int → V) : R2 := fun x y H Q => ∃ i j, x = .int i ∧ y = .int j ∧ C i j ∧ Q (g i j) H
def rI0 (g : Int → Int → V) : R2 := fun x y H Q => ∃ i j, x = .int i ∧ y = .int j ∧ Q (g i j) H
def rU (g : Int → V) : V → Hp → VK → Prop := fun x H Q => ∃ i, x = .int i ∧ Q (g i) H

section
variable {X : Cx} {a b c : Expr} {ta tb tc : TE} {pos : Pos}

theorem binT (ha : PE X a ta) (hb : PE X b tb) {pins : List (Addr × Obj)} {s : Shared} {σ : St} {H : Hp} {R : V → V → Hp → Prop} (I : Inv X pins σ H s)
    (h : ta σ H fun x H1 => tb σ H1 fun y H2 => R x y H2) {Q : Value → Shared → Prop} {f : Value → Value → Sem Value}
    (hf : ∀ v u s2 x y H2, Inv X pins σ H2 s2 → RelV x v → RelV y u → R x y H2 → wpAny (model X.prog X.w) X.A (f v u) Q X.xe s2) :
    wpAny (model X.prog X.w) X.A (eval a X.env) (fun v s₁ => wpAny (model X.prog X.w) X.A (eval b X.env) (fun u s₂ => wpAny (model X.prog X.w) X.A (f v u) Q X.xe s₂) X.xe s₁) X.xe s := by
  refine thn (ha pins s σ H _ I h) fun v s1 ⟨x, H1, I1, r1, q1⟩ => ?_
  refine thn (hb pins s1 σ H1 _ I1 q1) fun u s2 ⟨y, H2, I2, r2, q2⟩ => ?_
  exact hf v u s2 x y H2 I2 r1 r2 q2

theorem pe_op {op : Operator} {r : R2} (ho : OpR X (binaryOp op) r) (ha : PE X a ta) (hb : PE X b tb) : PE X (.BinOp a op b pos) (tOp r ta tb) := by
  intro pins s σ H Q I h
  exact wpAny_BinOp (binT ha hb I h fun v u s2 x y H2 I2 rx ry q => ho pins s2 σ H2 x y v u Q I2 rx ry q)
theorem pe_un {op : UnaryOp} {r : V → Hp → VK → Prop} (ho : UnR X (unaryOp op) r) (ha : PE X a ta) : PE X (.UnaryOp op a pos) (tUn r ta) := by
  intro pins s σ H Q I h
  exact UnaryOp_ (thn (ha pins s σ H _ I h) fun v s1 ⟨x, H1, I1, r1, q1⟩ => ho pins s1 σ H1 x v Q I1 r1 q1)
/-- a op= e at a name: the name's slot i -/
theorem augR {op : Operator} {r : R2} (ho : OpR X (inplaceOp op) r) {pins : List (Addr × Obj)} {s : Shared} {σ : St} {H : Hp} {x y : V} {v u : Value} {Q : VK} (I : Inv X pins σ H s)
    (rx : RelV x v) (ry : RelV y u) (q : r x y H Q) : wpAny (model X.prog X.w) X.A (inplaceOp op v u) (EP X pins σ Q) X.xe s := ho pins s σ H x y v u Q I rx ry q

/-! ### ints -/
theorem opI {f : Value → Value → Sem Value} {C : Int → Int → Prop} {g : Int → Int → Int}
    (rule : ∀ (i j : Int) (t u : Tok) (s : Shared) (Q : Value → Shared → Prop) (E : Value → Shared → Prop), C i j → Q (.int (g i j) s.toks) { s with toks := s.toks + 1 } → wpAny (model X.prog X.w) X.A (f (.int i t) (.int j u)) Q E s) :
    OpR X f (rI C fun i j => .int (g i j)) := by
  intro pins s σ H x y v u Q I rx ry h
  obtain ⟨i, j, rfl, rfl, hc, q⟩ := h
  obtain ⟨t, rfl⟩ := rx
  obtain ⟨t', rfl⟩ := ry
  exact rule i j t t' s _ _ hc ⟨.int (g i j), H, I.tok _, ⟨_, rfl⟩, q⟩
theorem opI0 {f : Value → Value → Sem Value} {g : Int → Int → Int}
    (rule : ∀ (i j : Int) (t u : Tok) (s : Shared) (Q : Value → Shared → Prop) (E : Value → Shared → Prop), Q (.int (g i j) s.toks) { s with toks := s.toks + 1 } → wpAny (model X.prog X.w) X.A (f (.int i t) (.int j u)) Q E s) :
    OpR X f (rI0 fun i j => .int (g i j)) := by
  intro pins s σ H x y v u Q I rx ry h
  obtain ⟨i, j, rfl, rfl, q⟩ := h
  obtain ⟨t, rfl⟩ := rx
  obtain ⟨t', rfl⟩ := ry
  exact rule i j t t' s _ _ ⟨.int (g i j), H, I.tok _, ⟨_, rfl⟩, q⟩
theorem opB0 {f : Value → Value → Sem Value} {g : Int → Int → Bool}
    (rule : ∀ (i j : Int) (t u : Tok) (s : Shared) (Q : Value → Shared → Prop) (E : Value → Shared → Prop), Q (.bool (g i j)) s → wpAny (model X.prog X.w) X.A (f (.int i t) (.int j u)) Q E s) :
    OpR X f (rI0 fun i j => .bl (g i j)) := by
  intro pins s σ H x y v u Q I rx ry h
  obtain ⟨i, j, rfl, rfl, q⟩ := h
  obtain ⟨t, rfl⟩ := rx
  obtain ⟨t', rfl⟩ := ry
  exact rule i j t t' s _ _ ⟨.bl (g i j), H, I, rfl, q⟩

def CDiv (i j : Int) : Prop := 0 < j ∧ j < 1073741824
def CDivN (i j : Int) : Prop := j ≠ 0 ∧ j.natAbs < 1073741824
def CPow (i j : Int) : Prop := 0 ≤ j ∧ j ≤ 1000000 ∧ i.natAbs < 2 ^ 64
def CMul (i j : Int) : Prop := (-(2 ^ 64) < i ∧ i < 2 ^ 64) ∨ (-(2 ^ 64) < j ∧ j < 2 ^ 64)
theorem CMul.ok {i j : Int} (h : CMul i j) : IntMulOk i j := by
  rcases h with ⟨h1, h2⟩ | ⟨h1, h2⟩
  · exact .of_left (intBits_le_64 h1 h2)
  · exact .of_right (intBits_le_64 h1 h2)
theorem two_pow_nn (k : Nat) : (0 : Int) ≤ 2 ^ k := by
  rw [two_pow_cast]
  exact Int.natCast_nonneg _

theorem op_add : OpR X (binaryOp .Add) (rI0 fun i j => .int (i + j)) := opI0 fun _ _ _ _ _ _ _ q => add_int q
theorem op_sub : OpR X (binaryOp .Sub) (rI0 fun i j => .int (i - j)) := opI0 fun _ _ _ _ _ _ _ q => sub_int q
theorem op_mul : OpR X (binaryOp .Mult) (rI CMul fun i j => .int (i * j)) := opI fun _ _ _ _ _ _ _ hc q => mul_int q hc.ok
/-- // by a positive divisor -/
theorem op_fdiv : OpR X (binaryOp .FloorDiv) (rI CDiv fun i j => .int (i / j)) := opI fun i j _ _ _ _ _ hc q => by
  have h1 : (0 : Int) < j := hc.1
  have h2 : j < 1073741824 := hc.2
  exact floordiv_int (by omega) (by rw [Int.fdiv_eq_ediv_of_nonneg i (by omega)]; exact q) (.inl (PyProof.noPylong_small (by omega)))
theorem op_fdivN : OpR X (binaryOp .FloorDiv) (rI CDivN fun i j => .int (i.fdiv j)) := opI fun _ _ _ _ _ _ _ hc q => floordiv_int hc.1 q (.inl (PyProof.noPylong_small hc.2))
/-- % by a positive divisor of any size -/
theorem op_mod : OpR X (binaryOp .Mod) (rI (fun _ j => 0 < j) fun i j => .int (i % j)) := opI fun i j _ _ _ _ _ hc q => by
  have h1 : (0 : Int) < j := hc
  exact mod_int' (by omega) (by rw [Int.fmod_eq_emod_of_nonneg i (by omega)]; exact q)
theorem op_modN : OpR X (binaryOp .Mod) (rI (fun _ j => j ≠ 0) fun i j => .int (i.fmod j)) := opI fun _ _ _ _ _ _ _ hc q => mod_int' hc q
theorem op_pow : OpR X (binaryOp .Pow) (rI CPow fun i j => .int (i ^ j.toNat)) := opI fun _ _ _ _ _ _ _ hc q => pow_int_small hc.1 hc.2.1 hc.2.2 q
theorem op_shl : OpR X (binaryOp .LShift) (rI CPow fun i j => .int (i * 2 ^ j.toNat)) := opI fun _ _ _ _ _ _ _ hc q => lshift_int_small hc.1 hc.2.1 hc.2.2 q
theorem op_shr : OpR X (binaryOp .RShift) (rI (fun _ j => 0 ≤ j) fun i j => .int (i / 2 ^ j.toNat)) := opI fun i j _ _ _ _ _ hc q =>
  rshift_int hc (by rw [Int.fdiv_eq_ediv_of_nonneg i (two_pow_nn _)]; exact q)
theorem op_and : OpR X (binaryOp .BitAnd) (rI0 fun i j => .int (Builtin.bitAnd i j)) := opI0 fun _ _ _ _ _ _ _ q => and_int q
theorem op_or : OpR X (binaryOp .BitOr) (rI0 fun i j => .int (Builtin.bitOr i j)) := opI0 fun _ _ _ _ _ _ _ q => or_int q
theorem op_xor : OpR X (binaryOp .BitXor) (rI0 fun i j => .int (Builtin.bitXor i j)) := opI0 fun _ _ _ _ _ _ _ q => xor_int q

theorem iop_add : OpR X (inplaceOp .Add) (rI0 fun i j => .int (i + j)) := opI0 fun _ _ _ _ _ _ _ q => iadd_int q
theorem iop_sub : OpR X (inplaceOp .Sub) (rI0 fun i j => .int (i - j)) := opI0 fun _ _ _ _ _ _ _ q => isub_int q
theorem iop_mul : OpR X (inplaceOp .Mult) (rI CMul fun i j => .int (i * j)) := opI fun _ _ _ _ _ _ _ hc q => imul_int q hc.ok
theorem iop_fdiv : OpR X (inplaceOp .FloorDiv) (rI CDiv fun i j => .int (i / j)) := opI fun i j _ _ _ _ _ hc q => by
  have h1 : (0 : Int) < j := hc.1
  have h2 : j < 1073741824 := hc.2
  exact ifloordiv_int (by omega) (by rw [Int.fdiv_eq_ediv_of_nonneg i (by omega)]; exact q) (.inl (PyProof.noPylong_small (by omega)))
theorem iop_mod : OpR X (inplaceOp .Mod) (rI (fun _ j => 0 < j) fun i j => .int (i % j)) := opI fun i j _ _ _ _ _ hc q => by
  have h1 : (0 : Int) < j := hc
  exact imod_int (by omega) (by rw [Int.fmod_eq_emod_of_nonneg i (by omega)]; exact q)
theorem iop_shl : OpR X (inplaceOp .LShift) (rI CPow fun i j => .int (i * 2 ^ j.toNat)) := opI fun _ _ _ _ _ _ _ hc q => ilshift_int_small hc.1 hc.2.1 hc.2.2 q
theorem iop_shr : OpR X (inplaceOp .RShift) (rI (fun _ j => 0 ≤ j) fun i j => .int (i / 2 ^ j.toNat)) := opI fun i j _ _ _ _ _ hc q =>
  irshift_int hc (by rw [Int.fdiv_eq_ediv_of_nonneg i (two_pow_nn _)]; exact q)
theorem iop_and : OpR X (inplaceOp .BitAnd) (rI0 fun i j => .int (Builtin.bitAnd i j)) := opI0 fun _ _ _ _ _ _ _ q => iand_int q
theorem iop_or : OpR X (inplaceOp .BitOr) (rI0 fun i j => .int (Builtin.bitOr i j)) := opI0 fun _ _ _ _ _ _ _ q => ior_int q
theorem iop_xor : OpR X (inplaceOp .BitXor) (rI0 fun i j => .int (Builtin.bitXor i j)) := opI0 fun _ _ _ _ _ _ _ q => ixor_int q

theorem unI {f : Value → Sem Value} {g : Int → Int}
    (rule : ∀ (i : Int) (t : Tok) (s : Shared) (Q : Value → Shared → Prop) (E : Value → Shared → Prop), Q (.int (g i) s.toks) { s with toks := s.toks + 1 } → wpAny (model X.prog X.w) X.A (f (.int i t)) Q E s) :
    UnR X f (rU fun i => .int (g i)) := by
  intro pins s σ H x v Q I rx h
  obtain ⟨i, rfl, q⟩ := h
  obtain ⟨t, rfl⟩ := rx
  exact rule i t s _ _ ⟨.int (g i), H, I.tok _, ⟨_, rfl⟩, q⟩
theorem un_neg : UnR X (unaryOp .USub) (rU fun i => .int (-i)) := unI fun _ _ _ _ _ q => neg_int q
theorem un_inv : UnR X (unaryOp .Invert) (rU fun i => .int (Builtin.bitNot i)) := unI fun _ _ _ _ _ q => invert_int q

/-! ### bools among ints: n += (a < b) -/
theorem op_add_ib : OpR X (binaryOp .Add) (fun x y H Q => ∃ i k, x = .int i ∧ y = .bl k ∧ Q (.int (i + b2i k)) H) := by
  intro pins s σ H x y v u Q I rx ry h
  obtain ⟨i, k, rfl, rfl, q⟩ := h
  obtain ⟨t, rfl⟩ := rx
  cases ry
  exact add_int_bool ⟨.int (i + b2i k), H, I.tok _, ⟨_, rfl⟩, q⟩
end

/-! ### comparisons -/
/-- the scalars that == tells apart as data does -/
def scal : V → V → Bool
  | .non, .non => true | .non, .int _ => true | .int _, .non => true | .non, .bl _ => true | .bl _, .non => true | .non, .str _ => true | .str _, .non => true
  | .int _, .int _ => true | .bl _, .bl _ => true | .str _, .str _ => true | .byt _, .byt _ => true
  | .int _, .str _ => true | .str _, .int _ => true | .bl _, .str _ => true | .str _, .bl _ => true
  | _, _ => false
def rEq : R2 := fun x y H Q => scal x y = true ∧ Q (.bl (decide (x = y))) H
def rNe : R2 := fun x y H Q => scal x y = true ∧ Q (.bl (!decide (x = y))) H

theorem dec_int {i j : Int} : decide (V.int i = V.int j) = (i == j) := by
  rw [Bool.eq_iff_iff]
  simp
theorem dec_bl {i j : Bool} : decide (V.bl i = V.bl j) = (i == j) := by
  rw [Bool.eq_iff_iff]
  simp
theorem dec_str {i j : Str} : decide (V.str i = V.str j) = (i == j) := by
  rw [Bool.eq_iff_iff]
  simp
theorem dec_byt {i j : Array UInt8} : decide (V.byt i = V.byt j) = (i.toList == j.toList) := by
  rw [Bool.eq_iff_iff]
  cases i
  cases j
  simp

section
variable {X : Cx} {a b c : Expr} {ta tb tc : TE} {pos : Pos}
theorem fin_bl {pins : List (Addr × Obj)} {σ : St} {H : Hp} {s : Shared} {Q : VK} {k k' : Bool} (I : Inv X pins σ H s) (q : Q (.bl k) H) (e : k = k') : EP X pins σ Q (.bool k') s := by
  subst e
  exact ⟨.bl k, H, I, rfl, q⟩
theorem op_eq : OpR X (compareOp .Eq) rEq := by
  intro pins s σ H x y v u Q I rx ry h
  obtain ⟨hs, q⟩ := h
  cases x with
  | non =>
    cases rx
    cases y with
    | non => cases ry; exact PySem.EqNone.eq_none_none (fin_bl I q (by simp))
    | bl j => cases ry; exact PySem.EqNone.eq_none_bool (fin_bl I q (by simp))
    | int j => obtain ⟨t', rfl⟩ := ry; exact PySem.EqNone.eq_none_int (fin_bl I q (by simp))
    | str j => obtain ⟨t', rfl⟩ := ry; exact PySem.EqNone.eq_none_str (fin_bl I q (by simp))
    | _ => exact absurd (show false = true from hs) Bool.false_ne_true
  | bl i =>
    cases rx
    cases y with
    | non => cases ry; exact PySem.EqNone.eq_bool_none (fin_bl I q (by simp))
    | bl j => cases ry; exact eq_bool (fin_bl I q dec_bl)
    | str j => obtain ⟨t', rfl⟩ := ry; exact PySem.EqMixed.eq_bool_str (fin_bl I q (by simp))
    | _ => exact absurd (show false = true from hs) Bool.false_ne_true
  | int i =>
    obtain ⟨t, rfl⟩ := rx
    cases y with
    | non => cases ry; exact PySem.EqNone.eq_int_none (fin_bl I q (by simp))
    | int j => obtain ⟨t', rfl⟩ := ry; exact eq_int (fin_bl I q dec_int)
    | str j => obtain ⟨t', rfl⟩ := ry; exact PySem.EqMixed.eq_int_str (fin_bl I q (by simp))
    | _ => exact absurd (show false = true from hs) Bool.false_ne_true
  | str i =>
    obtain ⟨t, rfl⟩ := rx
    cases y with
    | non => cases ry; exact PySem.EqNone.eq_str_none (fin_bl I q (by simp))
    | bl j => cases ry; exact PySem.EqMixed.eq_str_bool (fin_bl I q (by simp))
    | int j => obtain ⟨t', rfl⟩ := ry; exact PySem.EqMixed.eq_str_int (fin_bl I q (by simp))
    | str j => obtain ⟨t', rfl⟩ := ry; exact eq_str (fin_bl I q dec_str)
    | _ => exact absurd (show false = true from hs) Bool.false_ne_true
  | byt i =>
    obtain ⟨t, rfl⟩ := rx
    cases y with
    | byt j => obtain ⟨t', rfl⟩ := ry; exact PySem.W.eq_bytes (fin_bl I q dec_byt)
    | _ => exact absurd (show false = true from hs) Bool.false_ne_true
  | _ => cases y <;> exact absurd (show false = true from hs) Bool.false_ne_true
theorem op_ne : OpR X (compareOp .NotEq) rNe := by
  intro pins s σ H x y v u Q I rx ry h
  obtain ⟨hs, q⟩ := h
  cases x with
  | non =>
    cases rx
    cases y with
    | non => cases ry; exact PySem.EqNone.ne_none_none (fin_bl I q (by simp))
    | bl j => cases ry; exact PySem.EqNone.ne_none_bool (fin_bl I q (by simp))
    | int j => obtain ⟨t', rfl⟩ := ry; exact PySem.EqNone.ne_none_int (fin_bl I q (by simp))
    | str j => obtain ⟨t', rfl⟩ := ry; exact PySem.EqNone.ne_none_str (fin_bl I q (by simp))
    | _ => exact absurd (show false = true from hs) Bool.false_ne_true
  | bl i =>
    cases rx
    cases y with
    | non => cases ry; exact PySem.EqNone.ne_bool_none (fin_bl I q (by simp))
    | bl j => cases ry; exact ne_bool (fin_bl I q (congrArg not dec_bl))
    | str j => obtain ⟨t', rfl⟩ := ry; exact PySem.EqMixed.ne_bool_str (fin_bl I q (by simp))
    | _ => exact absurd (show false = true from hs) Bool.false_ne_true
  | int i =>
    obtain ⟨t, rfl⟩ := rx
    cases y with
    | non => cases ry; exact PySem.EqNone.ne_int_none (fin_bl I q (by simp))
    | int j => obtain ⟨t', rfl⟩ := ry; exact ne_int (fin_bl I q (congrArg not dec_int))
    | str j => obtain ⟨t', rfl⟩ := ry; exact PySem.EqMixed.ne_int_str (fin_bl I q (by simp))
    | _ => exact absurd (show false = true from hs) Bool.false_ne_true
  | str i =>
    obtain ⟨t, rfl⟩ := rx
    cases y with
    | non => cases ry; exact PySem.EqNone.ne_str_none (fin_bl I q (by simp))
    | bl j => cases ry; exact PySem.EqMixed.ne_str_bool (fin_bl I q (by simp))
    | int j => obtain ⟨t', rfl⟩ := ry; exact PySem.EqMixed.ne_str_int (fin_bl I q (by simp))
    | str j => obtain ⟨t', rfl⟩ := ry; exact ne_str (fin_bl I q (congrArg not dec_str))
    | _ => exact absurd (show false = true from hs) Bool.false_ne_true
  | byt i =>
    obtain ⟨t, rfl⟩ := rx
    cases y with
    | byt j => obtain ⟨t', rfl⟩ := ry; exact PySem.W.ne_bytes (fin_bl I q (congrArg not dec_byt))
    | _ => exact absurd (show false = true from hs) Bool.false_ne_true
  | _ => cases y <;> exact absurd (show false = true from hs) Bool.false_ne_true

theorem op_lt : OpR X (compareOp .Lt) (rI0 fun i j => .bl (decide (i < j))) := opB0 fun _ _ _ _ _ _ _ q => lt_int q
theorem op_le : OpR X (compareOp .LtE) (rI0 fun i j => .bl (decide (i ≤ j))) := opB0 fun _ _ _ _ _ _ _ q => le_int q
theorem op_gt : OpR X (compareOp .Gt) (rI0 fun i j => .bl (decide (j < i))) := opB0 fun _ _ _ _ _ _ _ q => gt_int q
theorem op_ge : OpR X (compareOp .GtE) (rI0 fun i j => .bl (decide (j ≤ i))) := opB0 fun _ _ _ _ _ _ _ q => ge_int q
theorem op_lt_str : OpR X (compareOp .Lt) (fun x y H Q => ∃ i j, x = .str i ∧ y = .str j ∧ Q (.bl (decide (i.cps.toList < j.cps.toList))) H) := by
  intro pins s σ H x y v u Q I rx ry h
  obtain ⟨i, j, rfl, rfl, q⟩ := h
  obtain ⟨t, rfl⟩ := rx
  obtain ⟨t', rfl⟩ := ry
  exact lt_str (fin_bl I q rfl)
/-- the one string within the other -/
theorem op_in_str : OpR X (compareOp .In) (fun x y H Q => ∃ i j, x = .str i ∧ y = .str j ∧ Q (.bl (!(Builtin.Str.occurrences j i 0 j.length 1).isEmpty)) H) := by
  intro pins s σ H x y v u Q I rx ry h
  obtain ⟨i, j, rfl, rfl, q⟩ := h
  obtain ⟨t, rfl⟩ := rx
  obtain ⟨t', rfl⟩ := ry
  exact in_str (fin_bl I q rfl)

/-- is None, is not None: the right side a value none -/
theorem op_isN : OpR X (compareOp .Is) (fun x y H Q => y = .non ∧ Q (.bl (decide (x = .non))) H) := by
  intro pins s σ H x y v u Q I rx ry h
  obtain ⟨rfl, q⟩ := h
  cases ry
  refine is_none_gen (fin_bl I q ?_)
  cases x <;> first
    | (cases rx; rfl)
    | (obtain ⟨t, rfl⟩ := rx; rfl)
theorem op_notN : OpR X (compareOp .IsNot) (fun x y H Q => y = .non ∧ Q (.bl (!decide (x = .non))) H) := by
  intro pins s σ H x y v u Q I rx ry h
  obtain ⟨rfl, q⟩ := h
  cases ry
  refine isnot_none_gen (fin_bl I q ?_)
  cases x <;> first
    | (cases rx; rfl)
    | (obtain ⟨t, rfl⟩ := rx; rfl)

theorem op_notin_str : OpR X (compareOp .NotIn) (fun x y H Q => ∃ i j, x = .str i ∧ y = .str j ∧ Q (.bl (!(!(Builtin.Str.occurrences j i 0 j.length 1).isEmpty))) H) := by
  intro pins s σ H x y v u Q I rx ry h
  obtain ⟨i, j, rfl, rfl, q⟩ := h
  obtain ⟨t, rfl⟩ := rx
  obtain ⟨t', rfl⟩ := ry
  exact notIn_str (fin_bl I q rfl)
/-- is, is not of two objects that are tracked lists or instances -/
def isObj : HO → Bool
  | .lst _ => true
  | .ins _ _ _ => true
  | _ => false
theorem obj_there {pins : List (Addr × Obj)} {s : Shared} {σ : St} {H : Hp} {a : Addr} {o : HO} (I : Inv X pins σ H s) (h : H a = some o) (p : isObj o = true) : ∃ ob, s.heap.get? a = some ob ∧ ob.cls ≠ .type "tuple" := by
  cases o with
  | lst xs =>
    obtain ⟨_, its, n, _, e⟩ : xs.length ≤ sizeLine ∧ ∃ (its : List Value) (n : Nat), Vals xs its ∧ s.heap.get? a = some { cls := .type "list", data := .seq its.toArray n } := I.hok a _ h
    exact ⟨_, e, (by show Value.type "list" ≠ .type "tuple"; decide +kernel)⟩
  | ins C dx fs =>
    have x := I.hok a _ h
    obtain ⟨_, _, _, e, _⟩ := x
    exact ⟨_, e, (by show Value.ref C ≠ .type "tuple"; exact fun z => by cases z)⟩
  | _ => exact absurd (show false = true from p) Bool.false_ne_true
theorem op_is_ref : OpR X (compareOp .Is) (fun x y H Q => ∃ a b oa ob, x = .ref a ∧ y = .ref b ∧ H a = some oa ∧ isObj oa = true ∧ H b = some ob ∧ isObj ob = true ∧ Q (.bl (decide (a = b))) H) := by
  intro pins s σ H x y v u Q I rx ry h
  obtain ⟨a, b, oa, ob, rfl, rfl, ha, pa, hb, pb, q⟩ := h
  cases rx
  cases ry
  obtain ⟨o1, e1, n1⟩ := obj_there I ha pa
  obtain ⟨o2, e2, _⟩ := obj_there I hb pb
  by_cases z : a = b
  · subst z
    exact wpAny_is_ref_self (fin_bl I q (by simp))
  · exact wpAny_is_ref_other z e1 e2 n1 (fin_bl I q (by simp [z]))
theorem op_isnot_ref : OpR X (compareOp .IsNot) (fun x y H Q => ∃ a b oa ob, x = .ref a ∧ y = .ref b ∧ H a = some oa ∧ isObj oa = true ∧ H b = some ob ∧ isObj ob = true ∧ Q (.bl (!decide (a = b))) H) := by
  intro pins s σ H x y v u Q I rx ry h
  obtain ⟨a, b, oa, ob, rfl, rfl, ha, pa, hb, pb, q⟩ := h
  cases rx
  cases ry
  obtain ⟨o1, e1, n1⟩ := obj_there I ha pa
  obtain ⟨o2, e2, _⟩ := obj_there I hb pb
  by_cases z : a = b
  · subst z
    exact wpAny_isNot_ref_self (fin_bl I q (by simp))
  · exact wpAny_isNot_ref_other z e1 e2 n1 (fin_bl I q (by simp [z]))

/-- two rules for one operation: by cases -/
theorem OpR.or {f : Value → Value → Sem Value} {r r' : R2} (h : OpR X f r) (h' : OpR X f r') : OpR X f (fun x y H Q => r x y H Q ∨ r' x y H Q) := by
  intro pins s σ H x y v u Q I rx ry q
  rcases q with q | q
  · exact h pins s σ H x y v u Q I rx ry q
  · exact h' pins s σ H x y v u Q I rx ry q

theorem nomark (b : Expr) {op : CmpOp} (h : op ≠ .In := by decide) (h2 : op ≠ .NotIn := by decide) : behindInMarks op b = false := by
  have e1 : (op == CmpOp.In) = false := by cases op <;> first | rfl | exact absurd rfl h
  have e2 : (op == CmpOp.NotIn) = false := by cases op <;> first | rfl | exact absurd rfl h2
  cases b <;> simp [behindInMarks, e1, e2]
/-- a comparison as a value; hm: nomark b, or (for in, not in) by with_unfolding_all rfl -/
theorem pe_cmpR {op : CmpOp} {r : R2} (ho : OpR X (compareOp op) r) (ha : PE X a ta) (hb : PE X b tb) (hm : behindInMarks op b = false) : PE X (.Compare a [op] [b] pos) (tOp r ta tb) := by
  intro pins s σ H Q I h
  exact wpAny_Compare1 (binT ha hb I h fun v u s2 x y H2 I2 rx ry q => ho pins s2 σ H2 x y v u Q I2 rx ry q) hm
/-- a reading of a value as a test -/
def tTest (t : TE) : TT := fun σ H Q => t σ H fun x H' => ∃ k, x = .bl k ∧ Q k H'
theorem pt_cmpR {op : CmpOp} {r : R2} (ho : OpR X (compareOp op) r) (ha : PE X a ta) (hb : PE X b tb) (hm : behindInMarks op b = false) : PT X (.Compare a [op] [b] pos) (tTest (tOp r ta tb)) := by
  intro pins s σ H Q I h
  refine wpAny_isTrue_Compare1 (thn (ha pins s σ H _ I h) fun v s1 ⟨x, H1, I1, r1, q1⟩ => thn (hb pins s1 σ H1 _ I1 q1) fun u s2 ⟨y, H2, I2, r2, q2⟩ =>
    thn (ho pins s2 σ H2 x y v u _ I2 r1 r2 q2) fun c s3 ⟨z, H3, I3, r3, k, e, q3⟩ => ?_) hm
  subst e
  cases r3
  exact wpAny_truthy_bool ⟨H3, I3, q3⟩
/-- a op1 b op2 c -/
def tChain (r r' : R2) (ta tb tc : TE) : TE := fun σ H Q => ta σ H fun x H1 => tb σ H1 fun y H2 => r x y H2 fun z H3 => ∃ k, z = .bl k ∧
  (if k = true then tc σ H3 fun w' H4 => r' y w' H4 Q else Q (.bl false) H3)
theorem pe_chain {op op' : CmpOp} {r r' : R2} (ho : OpR X (compareOp op) r) (ho' : OpR X (compareOp op') r') (ha : PE X a ta) (hb : PE X b tb) (hc : PE X c tc)
    (hm : lastMarks [op, op'] [b, c] = false := by with_unfolding_all rfl) : PE X (.Compare a [op, op'] [b, c] pos) (tChain r r' ta tb tc) := by
  intro pins s σ H Q I h
  refine Compare_chain (thn (ha pins s σ H _ I h) fun v s1 ⟨x, H1, I1, r1, q1⟩ => chain_link (thn (hb pins s1 σ H1 _ I1 q1) fun u s2 ⟨y, H2, I2, r2, q2⟩ =>
    thn (ho pins s2 σ H2 x y v u _ I2 r1 r2 q2) fun d s3 ⟨z, H3, I3, r3, k, e, q3⟩ => ?_)) hm
  subst e
  cases r3
  refine wpAny_truthy_bool ?_
  cases k with
  | false => exact ite_ff ⟨.bl false, H3, I3, rfl, q3⟩
  | true => exact ite_tt (chain_last (thn (hc pins s3 σ H3 _ I3 q3) fun w' s4 ⟨z', H4, I4, r4, q4⟩ => ho' pins s4 σ H4 y z' u w' Q I4 r2 r4 q4))
theorem pt_chain {op op' : CmpOp} {r r' : R2} (ho : OpR X (compareOp op) r) (ho' : OpR X (compareOp op') r') (ha : PE X a ta) (hb : PE X b tb) (hc : PE X c tc)
    (hm : lastMarks [op, op'] [b, c] = false := by with_unfolding_all rfl) : PT X (.Compare a [op, op'] [b, c] pos) (tTest (tChain r r' ta tb tc)) := by
  intro pins s σ H Q I h
  refine isTrue_chain (thn (ha pins s σ H _ I h) fun v s1 ⟨x, H1, I1, r1, q1⟩ => test_link (thn (hb pins s1 σ H1 _ I1 q1) fun u s2 ⟨y, H2, I2, r2, q2⟩ =>
    thn (ho pins s2 σ H2 x y v u _ I2 r1 r2 q2) fun d s3 ⟨z, H3, I3, r3, k, e, q3⟩ => ?_)) hm
  subst e
  cases r3
  refine wpAny_truthy_bool ?_
  cases k with
  | false =>
    obtain ⟨k', e', q'⟩ := q3
    cases e'
    exact ite_ff ⟨H3, I3, q'⟩
  | true =>
    refine ite_tt (test_last (thn (hc pins s3 σ H3 _ I3 q3) fun w' s4 ⟨z', H4, I4, r4, q4⟩ => thn (ho' pins s4 σ H4 y z' u w' _ I4 r2 r4 q4) fun d' s5 ⟨z2, H5, I5, r5, k2, e2, q5⟩ => ?_))
    subst e2
    cases r5
    exact wpAny_truthy_bool ⟨H5, I5, q5⟩

/-! ### truth -/
/-- a value's truth by the abstract heap -/
def TruV (K : PySem.W.Frag) (x : V) (H : Hp) (k : Bool) : Prop :=
  match x with
  | .non => k = false
  | .bl b => k = b
  | .int i => k = (i != 0)
  | .str y => y.length ≤ sizeLine ∧ k = ((y.length : Int) != 0)
  | .byt y => y.size ≤ sizeLine ∧ k = ((y.size : Int) != 0)
  | .ref p => (∃ xs, SqL K H p xs ∧ k = !xs.isEmpty) ∨ (∃ xs, SqT K H p xs ∧ k = !xs.isEmpty) ∨ ∃ kvs, H p = some (.dK kvs) ∧ k = !kvs.isEmpty
  | _ => False
theorem isEmpty_kv {κ : Type} {kvs : List (κ × V)} {vs : List (κ × Value)} (r : KV kvs vs) : (!vs.isEmpty) = !kvs.isEmpty := by
  cases r <;> rfl
theorem isEmpty_of {xs : List V} {its : List Value} (r : Vals xs its) : (!its.toArray.isEmpty) = !xs.isEmpty := by
  cases r <;> simp
theorem line63 : (sizeLine : Nat) < 2 ^ 63 := by rw [sizeLine_eq]; decide
theorem tru_ok : TruR X (fun x H Q => ∃ k, TruV X.K x H k ∧ Q k H) := by
  intro pins s σ H x v Q I rx h
  obtain ⟨k, e, q⟩ := h
  have hl := line63
  have hs : sizeLine = 16777216 := sizeLine_eq
  cases x with
  | non =>
    cases rx
    have e' : k = false := e
    subst e'
    exact truthy_none ⟨H, I, q⟩
  | bl b =>
    cases rx
    have e' : k = b := e
    subst e'
    exact wpAny_truthy_bool ⟨H, I, q⟩
  | int i =>
    obtain ⟨t, rfl⟩ := rx
    have e' : k = (i != 0) := e
    subst e'
    exact PySem.P.truthy_int ⟨H, I, q⟩
  | str y =>
    obtain ⟨t, rfl⟩ := rx
    obtain ⟨hy, e'⟩ : y.length ≤ sizeLine ∧ k = ((y.length : Int) != 0) := e
    subst e'
    exact PySem.P.truthy_str (by omega) ⟨H, I.tok _, q⟩
  | byt y =>
    obtain ⟨t, rfl⟩ := rx
    obtain ⟨hy, e'⟩ : y.size ≤ sizeLine ∧ k = ((y.size : Int) != 0) := e
    subst e'
    exact PySem.W.truthy_bytes (by omega) ⟨H, I.tok _, q⟩
  | ref p =>
    cases rx
    have e' : (∃ xs, SqL X.K H p xs ∧ k = !xs.isEmpty) ∨ (∃ xs, SqT X.K H p xs ∧ k = !xs.isEmpty) ∨ ∃ kvs, H p = some (.dK kvs) ∧ k = !kvs.isEmpty := e
    rcases e' with ⟨xs, hx, e'⟩ | ⟨xs, hx, e'⟩ | ⟨kvs, hx, e'⟩
    · subst e'
      obtain ⟨its, r, pl, hz⟩ := I.list hx
      have hlen := r.length
      exact wpAny_truthy_list pl.isList (by simp only [List.size_toArray]; omega) ⟨H, I.tok _, by rw [isEmpty_of r]; exact q⟩
    · subst e'
      obtain ⟨its, r, pl, hz⟩ := I.tuple hx
      have hlen := r.length
      exact truthy_tuple pl (by simp only [List.size_toArray]; omega) ⟨H, I.tok _, by rw [isEmpty_of r]; exact q⟩
    · subst e'
      obtain ⟨hz, hS, vs, r, m⟩ : kvs.length ≤ sizeLine ∧ (p == sysModules) = false ∧ ∃ vs, KV kvs vs ∧ s.heap.DictOf (mixKind X.prog X.w) p vs := I.hok p _ hx
      have hlen : kvs.length = vs.length := Paired.length r
      exact wpAny_truthy_dict hS m (by omega) ⟨H, I.tok _, by rw [isEmpty_kv r]; exact q⟩
  | _ => exact (show False from e).elim
/-- any expression whose test is its value's truth (a name, a call, a subscript, a field ..: he by fun _ => rfl) -/
theorem pt_truth (ha : PE X a ta) (he : ∀ whole, isTrue a X.env whole = (do let v ← whole; standAt a.pos; holding [v] (truthy v))) :
    PT X a (fun σ H Q => ta σ H fun x H' => ∃ k, TruV X.K x H' k ∧ Q k H') := by
  intro pins s σ H Q I h
  exact isTrue_plain (thn (ha pins s σ H _ I h) fun v s1 ⟨x, H1, I1, r1, q1⟩ => tru_ok pins s1 σ H1 x v Q I1 r1 q1) (he _)

/-! ### strs and bytes -/
theorem pe_byt {x : List UInt8} {k : Nat} : PE X (.Constant (.bytes x) k pos) (fun _ H Q => Q (.byt x.toArray) H) := fun _ _ _ H _ I h => PySem.W.Constant_bytes ⟨.byt x.toArray, H, I.tok _, ⟨_, rfl⟩, h⟩
theorem op_add_str : OpR X (binaryOp .Add) (fun x y H Q => ∃ i j, x = .str i ∧ y = .str j ∧ i.length + j.length ≤ sizeLine ∧ Q (.str (i ++ j)) H) := by
  intro pins s σ H x y v u Q I rx ry h
  obtain ⟨i, j, rfl, rfl, hz, q⟩ := h
  obtain ⟨t, rfl⟩ := rx
  obtain ⟨t', rfl⟩ := ry
  exact add_str (fun t' tk => ⟨.str (i ++ j), H, I.tok _, ⟨_, rfl⟩, q⟩) hz
theorem iop_add_str : OpR X (inplaceOp .Add) (fun x y H Q => ∃ i j, x = .str i ∧ y = .str j ∧ i.length + j.length ≤ sizeLine ∧ Q (.str (i ++ j)) H) := by
  intro pins s σ H x y v u Q I rx ry h
  obtain ⟨i, j, rfl, rfl, hz, q⟩ := h
  obtain ⟨t, rfl⟩ := rx
  obtain ⟨t', rfl⟩ := ry
  exact iadd_str (fun t' tk => ⟨.str (i ++ j), H, I.tok _, ⟨_, rfl⟩, q⟩) hz
theorem op_add_byt : OpR X (binaryOp .Add) (fun x y H Q => ∃ i j, x = .byt i ∧ y = .byt j ∧ i.size + j.size ≤ 16777216 ∧ Q (.byt (i ++ j)) H) := by
  intro pins s σ H x y v u Q I rx ry h
  obtain ⟨i, j, rfl, rfl, hz, q⟩ := h
  obtain ⟨t, rfl⟩ := rx
  obtain ⟨t', rfl⟩ := ry
  exact PySem.W.KBy.add_bytes hz (fun t' tk => ⟨.byt (i ++ j), H, I.tok _, ⟨_, rfl⟩, q⟩)

def PlainIxT (b : Expr) : Prop := ∀ o i, subscripted b false o i = operate [o, i] (getItem o i)
/-- s[i], 0 ≤ i < len -/
theorem pe_item_str (ha : PE X a ta) (hb : PE X b tb) (hs : PlainIxT b) :
    PE X (.Subscript a b pos) (tOp (fun x y H Q => ∃ z i c, x = .str z ∧ y = .int i ∧ 0 ≤ i ∧ i < 2 ^ 63 ∧ i < z.length ∧ z.cps[i.toNat]? = some c ∧ Q (.str ⟨#[c]⟩) H) ta tb) := by
  intro pins s σ H Q I h
  refine Subscript_ (binT ha hb I h fun v u s2 x y H2 I2 rx ry q => ?_)
  obtain ⟨z, i, c, rfl, rfl, h0, h63, h1, hc, q⟩ := q
  obtain ⟨t, rfl⟩ := rx
  obtain ⟨t', rfl⟩ := ry
  have e : seqIndex? i z.length = some i.toNat := PySem.StrLaws.seqIndex_nonneg h0 h1
  exact tail_any (typeIs_str s2 z t) slot_str_getitem.lookup (getItem_str (c := c) (by
    have e1 : decide (i < -(2 ^ 63 : Int)) = false := decide_eq_false (by omega)
    have e2 : decide (i ≥ 2 ^ 63) = false := decide_eq_false (by omega)
    rw [e1, e2] <;> rfl) (by rw [e]; exact hc) ⟨.str ⟨#[c]⟩, H2, I2.tok _, ⟨_, rfl⟩, q⟩) (hs _ _)
/-- b[i], 0 ≤ i < len -/
theorem pe_item_byt (ha : PE X a ta) (hb : PE X b tb) (hs : PlainIxT b) :
    PE X (.Subscript a b pos) (tOp (fun x y H Q => ∃ (z : List UInt8) (i : Int), x = .byt z.toArray ∧ y = .int i ∧ z.length ≤ sizeLine ∧ 0 ≤ i ∧ i < z.length ∧ Q (.int ((z.getD i.toNat 0).toNat : Nat)) H) ta tb) := by
  intro pins s σ H Q I h
  refine Subscript_ (binT ha hb I h fun v u s2 x y H2 I2 rx ry q => ?_)
  obtain ⟨z, i, rfl, rfl, hz, h0, h1, q⟩ := q
  obtain ⟨t, rfl⟩ := rx
  obtain ⟨t', rfl⟩ := ry
  have hl : sizeLine = 16777216 := sizeLine_eq
  exact tail_any (PySem.W.typeIs_bytes s2 z.toArray t) PySem.W.FB.slot_bytes_getitem.lookup (PySem.W.getItem_bytes (by omega) h0 h1 ⟨.int ((z.getD i.toNat 0).toNat : Nat), H2, I2.tok _, ⟨_, rfl⟩, q⟩) (hs _ _)

/-! ### scalar builtins, by CallR -/
theorem vals1 {x : V} {us : List Value} (r : Vals [x] us) : ∃ u, us = [u] ∧ RelV x u := by
  cases r with
  | cons r1 r2 => cases r2; exact ⟨_, rfl, r1⟩
theorem vals2 {x y : V} {us : List Value} (r : Vals [x, y] us) : ∃ u w', us = [u, w'] ∧ RelV x u ∧ RelV y w' := by
  cases r with
  | cons r1 r2 =>
    cases r2 with
    | cons r3 r4 => cases r4; exact ⟨_, _, rfl, r1, r3⟩
theorem call_abs : CallR X (.builtin "abs") (fun xs H Q => ∃ i, xs = [.int i] ∧ Q (.int (if i < 0 then -i else i)) H) := by
  intro pins s σ H xs us Q I r h
  obtain ⟨i, rfl, q⟩ := h
  obtain ⟨u, rfl, t, rfl⟩ := vals1 r
  exact call_abs_int fun u tk => ⟨.int (if i < 0 then -i else i), H, I.tok _, ⟨_, rfl⟩, q⟩
theorem call_max2 (hc : X.calm = true) : CallR X (.builtin "max") (fun xs H Q => ∃ i j, xs = [.int i, .int j] ∧ Q (.int (if j > i then j else i)) H) := by
  intro pins s σ H xs us Q I r h
  obtain ⟨i, j, rfl, q⟩ := h
  obtain ⟨u, w', rfl, ⟨t, rfl⟩, ⟨t', rfl⟩⟩ := vals2 r
  refine max_two_ints (I.ok.hd hc) fun h' tk k => ⟨_, H, I.kept k, ?_, q⟩
  by_cases hj : j > i
  · rw [if_pos hj, if_pos hj]; exact ⟨_, rfl⟩
  · rw [if_neg hj, if_neg hj]; exact ⟨_, rfl⟩
theorem call_min2 (hc : X.calm = true) : CallR X (.builtin "min") (fun xs H Q => ∃ i j, xs = [.int i, .int j] ∧ Q (.int (if j < i then j else i)) H) := by
  intro pins s σ H xs us Q I r h
  obtain ⟨i, j, rfl, q⟩ := h
  obtain ⟨u, w', rfl, ⟨t, rfl⟩, ⟨t', rfl⟩⟩ := vals2 r
  refine min_two_ints (I.ok.hd hc) fun h' tk k => ⟨_, H, I.kept k, ?_, q⟩
  by_cases hj : j < i
  · rw [if_pos hj, if_pos hj]; exact ⟨_, rfl⟩
  · rw [if_neg hj, if_neg hj]; exact ⟨_, rfl⟩
theorem call_int1 : CallR X (.type "int") (fun xs H Q => (∃ i, xs = [.int i] ∧ Q (.int i) H) ∨ ∃ k, xs = [.bl k] ∧ Q (.int (if k then 1 else 0)) H) := by
  intro pins s σ H xs us Q I r h
  rcases h with ⟨i, rfl, q⟩ | ⟨k, rfl, q⟩
  · obtain ⟨u, rfl, t, rfl⟩ := vals1 r
    exact call_int_int ⟨.int i, H, I, ⟨_, rfl⟩, q⟩
  · obtain ⟨u, rfl, r1⟩ := vals1 r
    cases r1
    exact call_int_bool ⟨.int (if k then 1 else 0), H, I.tok _, ⟨_, rfl⟩, q⟩
theorem call_bool1 : CallR X (.type "bool") (fun xs H Q => (∃ i, xs = [.int i] ∧ Q (.bl (i != 0)) H) ∨ ∃ k, xs = [.bl k] ∧ Q (.bl k) H) := by
  intro pins s σ H xs us Q I r h
  rcases h with ⟨i, rfl, q⟩ | ⟨k, rfl, q⟩
  · obtain ⟨u, rfl, t, rfl⟩ := vals1 r
    exact call_bool_int ⟨.bl (i != 0), H, I, rfl, q⟩
  · obtain ⟨u, rfl, r1⟩ := vals1 r
    cases r1
    exact call_bool_bool ⟨.bl k, H, I, rfl, q⟩
theorem call_str_int : CallR X (.type "str") (fun xs H Q => ∃ i, xs = [.int i] ∧ i.natAbs.log2 < 1920 ∧ Q (.str (toString i)) H) := by
  intro pins s σ H xs us Q I r h
  obtain ⟨i, rfl, hz, q⟩ := h
  obtain ⟨u, rfl, t, rfl⟩ := vals1 r
  exact PySem.P.str_of_int hz ⟨.str _, H, I.tok _, ⟨_, rfl⟩, q⟩
theorem call_ord : CallR X (.builtin "ord") (fun xs H Q => ∃ x, xs = [.str x] ∧ x.length = 1 ∧ Q (.int (x.cps.getD 0 0 : Nat)) H) := by
  intro pins s σ H xs us Q I r h
  obtain ⟨x, rfl, hz, q⟩ := h
  obtain ⟨u, rfl, t, rfl⟩ := vals1 r
  exact ord_of_one hz ⟨.int _, H, I.tok _, ⟨_, rfl⟩, q⟩
theorem call_chr : CallR X (.builtin "chr") (fun xs H Q => ∃ i, xs = [.int i] ∧ 0 ≤ i ∧ i ≤ 1114111 ∧ Q (.str ⟨#[i.toNat]⟩) H) := by
  intro pins s σ H xs us Q I r h
  obtain ⟨i, rfl, h0, h1, q⟩ := h
  obtain ⟨u, rfl, t, rfl⟩ := vals1 r
  exact chr_of_range h0 h1 ⟨.str _, H, I.tok _, ⟨_, rfl⟩, q⟩
/-- len of a str, a bytes, a list, a tuple -/
def LenV (K : PySem.W.Frag) (x : V) (H : Hp) (n : Nat) : Prop :=
  match x with
  | .str y => y.length ≤ sizeLine ∧ n = y.length
  | .byt y => y.size ≤ sizeLine ∧ n = y.size
  | .ref p => (∃ xs, SqL K H p xs ∧ n = xs.length) ∨ ∃ xs, SqT K H p xs ∧ n = xs.length
  | _ => False
theorem call_len : CallR X (.builtin "len") (fun xs H Q => ∃ x n, xs = [x] ∧ LenV X.K x H n ∧ Q (.int n) H) := by
  intro pins s σ H xs us Q I r h
  obtain ⟨x, n, rfl, e, q⟩ := h
  obtain ⟨u, rfl, rx⟩ := vals1 r
  have hl := line63
  have hs : sizeLine = 16777216 := sizeLine_eq
  cases x with
  | str y =>
    obtain ⟨t, rfl⟩ := rx
    obtain ⟨hy, e'⟩ : y.length ≤ sizeLine ∧ n = y.length := e
    subst e'
    exact len_str (by omega) ⟨.int _, H, I.tok _, ⟨_, rfl⟩, q⟩
  | byt y =>
    obtain ⟨t, rfl⟩ := rx
    obtain ⟨hy, e'⟩ : y.size ≤ sizeLine ∧ n = y.size := e
    subst e'
    exact PySem.W.len_bytes (by omega) ⟨.int _, H, I.tok _, ⟨_, rfl⟩, q⟩
  | ref p =>
    cases rx
    have e' : (∃ xs, SqL X.K H p xs ∧ n = xs.length) ∨ ∃ xs, SqT X.K H p xs ∧ n = xs.length := e
    rcases e' with ⟨xs, hx, e'⟩ | ⟨xs, hx, e'⟩
    · subst e'
      obtain ⟨its, r', pl, hz⟩ := I.list hx
      have hlen := r'.length
      exact Calls.call_len_list pl.isList (by simp only [List.size_toArray]; omega) ⟨.int xs.length, H, I.tok _, ⟨_, by simp only [List.size_toArray]; rw [hlen]⟩, q⟩
    · subst e'
      obtain ⟨its, r', pl, hz⟩ := I.tuple hx
      have hlen := r'.length
      exact len_tuple pl (by simp only [List.size_toArray]; omega) ⟨.int xs.length, H, I.tok _, ⟨_, by simp only [List.size_toArray]; rw [hlen]⟩, q⟩
  | _ => exact (show False from e).elim
/-- divmod: a new tuple -/
theorem call_divmod : CallR X (.builtin "divmod") (fun xs H Q => ∃ i j, xs = [.int i, .int j] ∧ CDiv i j ∧ ∀ p, H p = none → Q (.ref p) (upd H p (.tup [.int (i / j), .int (i % j)]))) := by
  intro pins s σ H xs us Q I r h
  obtain ⟨i, j, rfl, ⟨h1, h2⟩, q⟩ := h
  obtain ⟨u, w', rfl, ⟨t, rfl⟩, ⟨t', rfl⟩⟩ := vals2 r
  refine divmod_int (by omega) ?_ (.inl (PyProof.noPylong_small (by omega)))
  rw [Int.fdiv_eq_ediv_of_nonneg i (by omega), Int.fmod_eq_emod_of_nonneg i (by omega)]
  have hn : H s.heap.objs.size = none := I.hok.fresh (Nat.le_refl _)
  refine ⟨.ref s.heap.objs.size, _, ?_, rfl, q _ hn⟩
  refine I.laid (fun b o e => Heap.get?_push_of_some _ e) (Nat.le_refl _) ⟨by simp only [List.length_cons, List.length_nil]; rw [sizeLine_eq]; decide, [.int (i / j) s.toks, .int (i % j) (s.toks + 1)], .cons ⟨_, rfl⟩ (.cons ⟨_, rfl⟩ .nil), ?_⟩
  exact ⟨_, Heap.get?_push_size s.heap rfl, rfl, 0, rfl⟩
end
end L2

namespace L2
open PySem PySem.Spec PyProof.Rows

/-! ### an instance, its attributes a map -/
structure ObjM (h : Heap) (x dx C : Addr) (mA : Str → Option Value) : Prop where
  obj : h.get? x = some (PySem.W.instObj C dx)
  ns : h.Ns1 dx mA
  ne : dx ≠ x

theorem lookIn_ns {h : Heap} {dx : Addr} {mA : Str → Option Value} (n : h.Ns1 dx mA) : ∃ od, h.get? dx = some od ∧ ∀ name, PySem.W.lookIn name od = some (mA name) := by
  obtain ⟨o, es, ep, ho, hd, hk, _, hm⟩ := n
  refine ⟨o, ho, fun name => ?_⟩
  have e := hm name
  unfold nsFind findBy at e
  rw [← Array.find?_toList] at e
  unfold PySem.W.lookIn
  rw [hd]
  dsimp only
  split
  · rename_i y q
    rw [q] at e
    exact congrArg some e
  · rename_i q
    rw [q] at e
    have a : es.toList.any (·.refKey) = false := by
      rw [List.any_eq_false]
      intro y hy
      obtain ⟨z, t, hkey⟩ := hk y (Array.mem_toList_iff.mp hy)
      simp [DictEntry.refKey, hkey]
    have a' : ¬ es.toList.any (·.refKey) = true := by rw [a]; exact Bool.false_ne_true
    rw [if_neg a']
    exact congrArg some e

theorem ObjM.look {h : Heap} {x dx C : Addr} {mA : Str → Option Value} (I : ObjM h x dx C mA) : ∃ od, PySem.W.InstAt h x (PySem.W.instObj C dx) C (some od) ∧ ∀ name, PySem.W.lookIn name od = some (mA name) :=
  let ⟨od, ho, hl⟩ := lookIn_ns I.ns
  ⟨od, ⟨I.obj, rfl, rfl, ho⟩, hl⟩

section
variable {prog : Program} {w : World} {A : Around} {E : Value → Shared → Prop} {s : Shared} {K : PySem.W.Frag} {x dx C f : Addr} {mA : Str → Option Value} {name : Str} {v : Value}

theorem get_map {expr : Bool} {Q : Value → Shared → Prop} (X : K.In s.heap) (I : ObjM s.heap x dx C mA) (hg : PySem.W.plainGet K C name = true) (hh : PySem.W.hasDictIn K C = true)
    (ha : PySem.W.findIn K (.ref C) name = some none) (hv : mA name = some v) (hv' : PySem.W.handedIn v = true) (h : Q v { s with toks := s.toks + 1 }) :
    wpAny (model prog w) A (getAttr (.ref x) name expr) Q E s := by
  obtain ⟨od, J, hl⟩ := I.look
  exact PySem.W.get_value X J (PySem.W.plainGet_of hg).1 (PySem.W.findObj_own hh ha rfl (by rw [hl, hv])) hv' h

theorem get_const {expr : Bool} {a : Value} {Q : Value → Shared → Prop} (X : K.In s.heap) (I : ObjM s.heap x dx C mA) (hg : PySem.W.plainGet K C name = true) (hh : PySem.W.hasDictIn K C = true)
    (ha : PySem.W.findIn K (.ref C) name = some (some a)) (hn : PySem.W.specialIn K a "__get__" = some none) (hc : PySem.W.copiedNames.contains name = false) (hv : mA name = none) (hv' : PySem.W.handedIn a = true)
    (h : Q a { s with toks := s.toks + 1 }) : wpAny (model prog w) A (getAttr (.ref x) name expr) Q E s := by
  obtain ⟨od, J, hl⟩ := I.look
  exact PySem.W.get_value X J (PySem.W.plainGet_of hg).1 (PySem.W.findObj_cls hh ha hn hv' hc (by rw [hl, hv])) hv' h

theorem get_meth {pl : Sem Bool} {Q : Value × List Value → Shared → Prop} (X : K.In s.heap) (I : ObjM s.heap x dx C mA) (hg : PySem.W.plainGet K C name = true)
    (hf : PySem.W.findIn K (.ref C) name = some (some (.ref f))) (ht : PySem.W.isFn K (.ref f) = true) (hv : mA name = none) (h : Q (.ref f, [.ref x]) s) :
    wpAny (model prog w) A (getMethod (.ref x) name pl) Q E s := by
  obtain ⟨od, J, hl⟩ := I.look
  exact PySem.W.method_fn X J (PySem.W.plainGet_of hg).1 (PySem.W.plainGet_of hg).2 hf (beq_iff_eq.mp ht) (by show (PySem.W.lookIn name od).map (·.isSome) = some false; rw [hl, hv]; rfl) h

theorem set_map {ns : List Str} {Q : Unit → Shared → Prop} (X : K.In s.heap) (I : ObjM s.heap x dx C mA)
    (hs : PySem.W.findIn K (.ref C) "__setattr__" = some (some (.builtin "object.__setattr__"))) (hp : PySem.W.plainOver K C = true) (ht : PySem.W.takerIn K C name = some none) (hh : PySem.W.hasDictIn K C = true)
    (hw : PySem.Within mA ns) (hsz : ns.length ≤ sizeLine)
    (h : ∀ h', ObjM h' x dx C (fun y => if y = name then some v else mA y) → Heap.SameBut dx s.heap h' → Q () { s with heap := h', toks := s.toks + 2 }) :
    wpAny (model prog w) A (setAttr (.ref x) name v) Q E s := by
  obtain ⟨od, J, hl⟩ := I.look
  refine PySem.W.set_plain X J hs (PySem.W.osa_open (s := { s with toks := s.toks + 1 }) (r := none) X J hp ht fun b => ?_)
  obtain ⟨cd, hc, hd'⟩ := PySem.W.any_some hh
  have hx : s.heap.get? x = some ⟨.ref C, some dx, .plain, #[]⟩ := I.obj
  refine wpAny_bind (wpAny_pure (wpAny_bind (wpAny_bind (wpAny_loadPart hx (wpAny_bind (PySem.W.Looks.here (s := { s with toks := s.toks + 1 }) (PySem.W.looks_clsIn X hc) ?_))))))
  rw [hd']
  refine wpAny_pure (a := some dx) (wpAny_bind (wpAny_pure (wpAny_bind ?_)))
  refine wpAny_nsSet1 (s := { s with toks := s.toks + 1 }) I.ns fun h' hn2 hs2 => ?_
  obtain ⟨oD, esD, epD, hoD, hdD, hcD⟩ := hn2.count (PySem.Within.cons name v hw)
  refine wpAny_bind (wpAny_lookBehind hoD (by rw [hdD]; exact pastItsLine_dict (Nat.le_trans hcD (by rw [List.length_cons]; omega))) ?_)
  exact wpAny_pure (h _ ⟨(hs2.2 _ (Ne.symm I.ne)).trans I.obj, hn2, I.ne⟩ hs2)

/-- C(..): the dict at the heap's end, the instance behind it; then its __init__ -/
theorem make_map {R : Result → Shared → Prop} {vs : List Value} {kw : List (Str × Value)} (X : K.In s.heap) (hm : PySem.W.makesIn K C = true)
    (hi : PySem.W.findIn K (.ref C) "__init__" = some (some (.ref f))) (hf : PySem.W.typeIn K (.ref f) = some (.type "function"))
    (h : codeAny (model prog w) (A.under (.builtin "type.__call__" ⟨.ref C :: vs, kw⟩)) (.call (.ref f) ⟨.ref (s.heap.objs.size + 1) :: vs, kw⟩) (PySem.W.InitBack (s.heap.objs.size + 1) R)
      { s with heap := (s.heap.push PySem.W.emptyDict).push (PySem.W.instObj C s.heap.objs.size) }) :
    codeAny (model prog w) A (.call (.ref C) ⟨vs, kw⟩) R s := by
  obtain ⟨hh, g, d, t, os⟩ := s
  exact PySem.W.make_core (PySem.W.makes_of X hm) (PySem.W.looks_findIn X hi) (fun self => PySem.W.bind_fn X self hf) (.inl rfl) h
/-- C() where there is no __init__ but object's -/
theorem make_map0 {R : Result → Shared → Prop} (X : K.In s.heap) (hm : PySem.W.makesIn K C = true)
    (hi : PySem.W.findIn K (.ref C) "__init__" = some (some (.builtin "object.__init__")))
    (hb : ∀ self, PySem.W.Looks (model prog w) s.heap (bindSpecial (.builtin "object.__init__") self) (.builtin "object.__init__", [self]))
    (h : codeAny (model prog w) (A.under (.builtin "type.__call__" ⟨[.ref C], []⟩)) (.call (.builtin "object.__init__") ⟨[.ref (s.heap.objs.size + 1)], []⟩) (PySem.W.InitBack (s.heap.objs.size + 1) R)
      { s with heap := (s.heap.push PySem.W.emptyDict).push (PySem.W.instObj C s.heap.objs.size) }) :
    codeAny (model prog w) A (.call (.ref C) ⟨[], []⟩) R s := by
  obtain ⟨hh, g, d, t, os⟩ := s
  exact PySem.W.make_core (PySem.W.makes_of X hm) (PySem.W.looks_findIn X hi) hb (.inr ⟨rfl, rfl⟩) h
end

/-! ### the attributes as a list of pairs -/
def putF (f : Str) (v : V) : List (Str × V) → List (Str × V)
  | [] => [(f, v)]
  | (g, x) :: r => if g = f then (g, v) :: r else (g, x) :: putF f v r
theorem lookup_putF (f g : Str) (v : V) : ∀ fs : List (Str × V), (putF f v fs).lookup g = if g = f then some v else fs.lookup g
  | [] => by
    show List.lookup g [(f, v)] = _
    by_cases h : g = f
    · have hb : (g == f) = true := beq_iff_eq.mpr h
      simp only [List.lookup, hb, if_pos h]
    · have hb : (g == f) = false := beq_eq_false_iff_ne.mpr h
      simp only [List.lookup, hb, if_neg h]
  | (k, x) :: r => by
    have ih := lookup_putF f g v r
    rw [show putF f v ((k, x) :: r) = (if k = f then (k, v) :: r else (k, x) :: putF f v r) from rfl]
    by_cases hk : k = f
    · rw [if_pos hk]
      by_cases h : g = k
      · have hb : (g == k) = true := beq_iff_eq.mpr h
        simp only [List.lookup, hb, if_pos (h.trans hk)]
      · have hb : (g == k) = false := beq_eq_false_iff_ne.mpr h
        simp only [List.lookup, hb, if_neg (fun e : g = f => h (e.trans hk.symm))]
    · rw [if_neg hk]
      by_cases h : g = k
      · have hb : (g == k) = true := beq_iff_eq.mpr h
        simp only [List.lookup, hb, if_neg (fun e : g = f => hk (h.symm.trans e))]
      · have hb : (g == k) = false := beq_eq_false_iff_ne.mpr h
        simp only [List.lookup, hb]
        exact ih
theorem keys_putF (f : Str) (v : V) : ∀ fs : List (Str × V), f ∈ (putF f v fs).map (·.1) ∧ ∀ g, g ∈ fs.map (·.1) → g ∈ (putF f v fs).map (·.1)
  | [] => ⟨by simp [putF], fun g h => by simp at h⟩
  | (k, x) :: r => by
    obtain ⟨i1, i2⟩ := keys_putF f v r
    rw [show putF f v ((k, x) :: r) = (if k = f then (k, v) :: r else (k, x) :: putF f v r) from rfl]
    by_cases hk : k = f
    · rw [if_pos hk]
      subst hk
      exact ⟨by simp, fun g h => by simpa using h⟩
    · rw [if_neg hk]
      refine ⟨?_, fun g h => ?_⟩
      · rw [List.map_cons]
        exact List.mem_cons_of_mem _ i1
      · rw [List.map_cons] at h ⊢
        rcases List.mem_cons.mp h with e | e
        · exact List.mem_cons.mpr (.inl e)
        · exact List.mem_cons_of_mem _ (i2 g e)
theorem length_putF (f : Str) (v : V) : ∀ fs : List (Str × V), (putF f v fs).length ≤ fs.length + 1
  | [] => by simp [putF]
  | (k, x) :: r => by
    have ih := length_putF f v r
    rw [show putF f v ((k, x) :: r) = (if k = f then (k, v) :: r else (k, x) :: putF f v r) from rfl]
    by_cases hk : k = f
    · rw [if_pos hk, List.length_cons, List.length_cons]; omega
    · rw [if_neg hk, List.length_cons, List.length_cons]; omega

theorem RelO.some_of {v : V} {o : Option Value} (r : RelO (some v) o) : ∃ u, o = some u ∧ RelV v u := by
  cases o with
  | none => exact (show False from r).elim
  | some u => exact ⟨u, rfl, r⟩
theorem RelO.none_of {o : Option Value} (r : RelO none o) : o = none := by
  cases o with
  | none => rfl
  | some u => exact (show False from r).elim
theorem handed_of {v : V} {u : Value} (r : RelV v u) : PySem.W.handedIn u = true := by
  cases v with
  | non => cases (show u = Value.none from r); rfl
  | bl b => cases (show u = Value.bool b from r); rfl
  | int i => obtain ⟨t, e⟩ := (show ∃ t, u = Value.int i t from r); cases e; rfl
  | str x => obtain ⟨t, e⟩ := (show ∃ t, u = Value.str x t from r); cases e; rfl
  | byt b => obtain ⟨t, e⟩ := (show ∃ t, u = Value.bytes b t from r); cases e; rfl
  | flt b => obtain ⟨t, e⟩ := (show ∃ t, u = Value.float b t from r); cases e; rfl
  | ref a => cases (show u = Value.ref a from r); rfl
  | ty n => cases (show u = Value.type n from r); rfl

section
variable {P : Program} {w : World} {H H' : Hp} {h h' : Heap} {a C dx : Addr} {fs fs' : List (Str × V)}
theorem ins_get (hok : HOk P w H h) (e : H a = some (.ins C dx fs)) : ∃ mA, ObjM h a dx C mA ∧ (∀ f, RelO (fs.lookup f) (mA f)) ∧ PySem.Within mA (fs.map (·.1)) ∧ fs.length ≤ 1000 ∧ H dx = some (.own a) := by
  obtain ⟨d, z, ne, ob, mA, n, r, q⟩ := (show ObjOk P w H h a (.ins C dx fs) from hok a _ e)
  exact ⟨mA, ⟨ob, n, ne⟩, r, q, z, d⟩
end

/-! ### what of the text a class must have -/
structure Cls (K : PySem.W.Frag) (C : Addr) : Prop where
  pg : PySem.W.plainGet K C Str.empty = true
  hd : PySem.W.hasDictIn K C = true
  po : PySem.W.plainOver K C = true
  sa : PySem.W.findIn K (.ref C) "__setattr__" = some (some (.builtin "object.__setattr__"))
theorem Cls.get {K : PySem.W.Frag} {C : Addr} (c : Cls K C) (f : Str) : PySem.W.plainGet K C f = true := c.pg
/-- no class of it has the name -/
def NoAttr (K : PySem.W.Frag) (C : Addr) (f : Str) : Prop := PySem.W.findIn K (.ref C) f = some none
theorem NoAttr.taker {K : PySem.W.Frag} {C : Addr} {f : Str} (n : NoAttr K C f) : PySem.W.takerIn K C f = some none := by
  unfold PySem.W.takerIn
  rw [show PySem.W.findIn K (.ref C) f = some none from n]
  rfl
/-- a constant of the class -/
structure Con (K : PySem.W.Frag) (C : Addr) (f : Str) (v : V) (u : Value) : Prop where
  at_ : PySem.W.findIn K (.ref C) f = some (some u)
  rel : RelV v u
  get : PySem.W.specialIn K u "__get__" = some none
  cp : PySem.W.copiedNames.contains f = false
/-- a method: a plain def of the class or of one above it -/
structure Meth (K : PySem.W.Frag) (C : Addr) (m : Str) (f : Addr) : Prop where
  at_ : PySem.W.findIn K (.ref C) m = some (some (.ref f))
  fn : PySem.W.isFn K (.ref f) = true
  kp : PySem.W.keepIn K (.ref f) = true

section
variable {X : Cx} {pins : List (Addr × Obj)} {σ : St} {H : Hp} {s : Shared} {a C dx : Addr} {fs : List (Str × V)} {f : Str} {v : V} {A : Around} {E : Value → Shared → Prop}

theorem getattr_ok {b : Bool} {Q : Value → Shared → Prop} (I : Inv X pins σ H s) (e : H a = some (.ins C dx fs)) (c : Cls X.K C) (n : NoAttr X.K C f) (l : fs.lookup f = some v)
    (h : ∀ u s', Inv X pins σ H s' → RelV v u → Q u s') : wpAny (model X.prog X.w) A (getAttr (.ref a) f b) Q E s := by
  obtain ⟨mA, O, r, _, _, _⟩ := ins_get I.hok e
  obtain ⟨u, hu, ru⟩ := RelO.some_of (v := v) (o := mA f) (by rw [← l]; exact r f)
  exact get_map I.kIn O (c.get f) c.hd n hu (handed_of ru) (h u _ (I.tok _) ru)

theorem getcon_ok {b : Bool} {u : Value} {Q : Value → Shared → Prop} (I : Inv X pins σ H s) (e : H a = some (.ins C dx fs)) (c : Cls X.K C) (k : Con X.K C f v u) (l : fs.lookup f = none)
    (h : ∀ s', Inv X pins σ H s' → Q u s') : wpAny (model X.prog X.w) A (getAttr (.ref a) f b) Q E s := by
  obtain ⟨mA, O, r, _, _, _⟩ := ins_get I.hok e
  have hn : mA f = none := RelO.none_of (by rw [← l]; exact r f)
  exact get_const I.kIn O (c.get f) c.hd k.at_ k.get k.cp hn (handed_of k.rel) (h _ (I.tok _))

theorem getmeth_ok {m : Str} {g : Addr} {pl : Sem Bool} {Q : Value × List Value → Shared → Prop} (I : Inv X pins σ H s) (e : H a = some (.ins C dx fs)) (c : Cls X.K C) (k : Meth X.K C m g) (l : fs.lookup m = none)
    (h : Q (.ref g, [.ref a]) s) : wpAny (model X.prog X.w) A (getMethod (.ref a) m pl) Q E s := by
  obtain ⟨mA, O, r, _, _, _⟩ := ins_get I.hok e
  have hn : mA m = none := RelO.none_of (by rw [← l]; exact r m)
  exact get_meth I.kIn O (c.get m) k.at_ k.fn hn h

theorem setattr_ok {y : V} {u : Value} {Q : Unit → Shared → Prop} (I : Inv X pins σ H s) (e : H a = some (.ins C dx fs)) (c : Cls X.K C) (n : NoAttr X.K C f) (hl : fs.length < 1000) (ry : RelV y u)
    (h : ∀ s', Inv X pins σ (upd H a (.ins C dx (putF f y fs))) s' → Q () s') : wpAny (model X.prog X.w) A (setAttr (.ref a) f u) Q E s := by
  obtain ⟨mA, O, r, wi, _, ho⟩ := ins_get I.hok e
  have hz : (fs.map (·.1)).length ≤ sizeLine := by rw [List.length_map, sizeLine_eq]; omega
  refine set_map I.kIn O c.sa c.po n.taker c.hd wi hz fun h' O' sb => h _ ?_
  have hd : ∃ o, h'.get? dx = some o := let ⟨o, _, _, e', _⟩ := O'.ns; ⟨o, e'⟩
  refine I.write (x := a) (e := dx) (by rw [e]; exact True.intro) (.inr ho) (fun b q hb z => (sb.2 b hb).trans z) hd ?_
  refine ⟨by rw [upd_ne O.ne]; exact ho, ?_, O.ne, O'.obj, _, O'.ns, fun g => ?_, fun g hg => ?_⟩
  · have := length_putF f y fs; omega
  · show RelO ((putF f y fs).lookup g) (if g = f then some u else mA g)
    rw [lookup_putF]
    by_cases q : g = f
    · rw [if_pos q, if_pos q]; exact ry
    · rw [if_neg q, if_neg q]; exact r g
  · by_cases q : g = f
    · rw [q]; exact (keys_putF f y fs).1
    · refine (keys_putF f y fs).2 g (wi g fun z => hg ?_)
      show (if g = f then some u else mA g) = none
      rw [if_neg q]; exact z

/-- a new instance, tracked, without attributes -/
theorem Inv.made (I : Inv X pins σ H s) : Inv X pins σ (upd (upd H s.heap.objs.size (.own (s.heap.objs.size + 1))) (s.heap.objs.size + 1) (.ins C s.heap.objs.size []))
    { s with heap := (s.heap.push PySem.W.emptyDict).push (PySem.W.instObj C s.heap.objs.size) } := by
  have e1 : (s.heap.push PySem.W.emptyDict).get? s.heap.objs.size = some PySem.W.emptyDict := Heap.get?_push_size s.heap rfl
  have e2 : ((s.heap.push PySem.W.emptyDict).push (PySem.W.instObj C s.heap.objs.size)).get? (s.heap.objs.size + 1) = some (PySem.W.instObj C s.heap.objs.size) := by
    have := Heap.get?_push_size (s.heap.push PySem.W.emptyDict) (o := PySem.W.instObj C s.heap.objs.size) rfl
    rwa [Heap.size_push] at this
  have e3 : (s.heap.push PySem.W.emptyDict).Ns s.heap.objs.size (fun _ => none) := ⟨PySem.W.emptyDict, #[], _, e1, rfl, (fun e he => absurd he (by simp)), fun _ => rfl⟩
  have I1 := I.laid (a := s.heap.objs.size) (o := .own (s.heap.objs.size + 1)) (h' := s.heap.push PySem.W.emptyDict) (t' := s.toks) (fun b u q => Heap.get?_push_of_some _ q) (Nat.le_refl _) ⟨_, e1⟩
  refine I1.laid (a := s.heap.objs.size + 1) (o := .ins C s.heap.objs.size []) (t' := s.toks) (fun b u q => Heap.get?_push_of_some _ q) (Nat.le_of_eq (Heap.size_push _ _)) ?_
  have ne : s.heap.objs.size ≠ s.heap.objs.size + 1 := Nat.ne_of_lt (Nat.lt_succ_self _)
  refine ⟨by rw [upd_ne ne, upd_same], Nat.zero_le _, ne, e2, fun _ => none, (Heap.Ns1.of_empty e3).at fun o q => Heap.get?_push_of_some _ q, fun _ => True.intro, fun y hy => absurd rfl hy⟩

/-- e.f where nothing but the object is asked: through attributeBase (super) and the last hold -/
theorem attr_of {prog : Program} {w : World} {env : Env} {e : Expr} {f : Str} {pos : Pos} {s : Shared} {Q : Value → Shared → Prop} (hb : attributeBase e f env (eval e env) = eval e env)
    (h : wpAny (model prog w) A (eval e env) (fun o s₁ => wpAny (model prog w) A (getAttr o f true) Q E s₁) E s) : wpAny (model prog w) A (eval (.Attribute e f pos) env) Q E s :=
  Attribute_any_ h (by rw [arm_eval_Attribute, hb])
end

/-! ### readings and rules -/
/-- e.f, an attribute of the instance -/
def tFld (K : PySem.W.Frag) (ta : TE) (f : Str) : TE := fun σ H Q => ta σ H fun x H1 => ∃ a C dx fs v, x = .ref a ∧ H1 a = some (.ins C dx fs) ∧ Cls K C ∧ NoAttr K C f ∧ fs.lookup f = some v ∧ Q v H1
/-- e.f, a constant of the class -/
def tCon (K : PySem.W.Frag) (ta : TE) (f : Str) : TE := fun σ H Q => ta σ H fun x H1 => ∃ a C dx fs v u, x = .ref a ∧ H1 a = some (.ins C dx fs) ∧ Cls K C ∧ Con K C f v u ∧ fs.lookup f = none ∧ Q v H1
/-- e.f = value -/
def sFld (K : PySem.W.Frag) (ta tv : TE) (f : Str) : TS := fun D σ H => tv σ H fun y H1 => ta σ H1 fun x H2 => ∃ a C dx fs, x = .ref a ∧ H2 a = some (.ins C dx fs) ∧ Cls K C ∧ NoAttr K C f ∧ fs.length < 1000 ∧
  D.nx σ (upd H2 a (.ins C dx (putF f y fs)))
/-- an augmented operator on two values -/
def InOp (X : Cx) (op : Operator) (rd : V → V → Hp → VK → Prop) : Prop :=
  ∀ (pins : List (Addr × Obj)) (s : Shared) (σ : St) (H : Hp) (x y : V) (u v : Value) (Q : VK), Inv X pins σ H s → RelV x u → RelV y v → rd x y H Q → wpAny (model X.prog X.w) X.A (inplaceOp op u v) (EP X pins σ Q) X.xe s
/-- e.f op= value -/
def sFldAug (K : PySem.W.Frag) (ta tv : TE) (rd : V → V → Hp → VK → Prop) (f : Str) : TS := fun D σ H => ta σ H fun x H1 => ∃ a C dx fs v, x = .ref a ∧ H1 a = some (.ins C dx fs) ∧ Cls K C ∧ NoAttr K C f ∧ fs.lookup f = some v ∧
  tv σ H1 fun y H2 => rd v y H2 fun z H3 => ∃ dx' fs', H3 a = some (.ins C dx' fs') ∧ fs'.length < 1000 ∧ D.nx σ (upd H3 a (.ins C dx' (putF f z fs')))

section
variable {X : Cx} {o e value : Expr} {f : Str} {pos pos' tpos : Pos} {ta tv : TE}
theorem pe_fld (he : PE X e ta) (hb : attributeBase e f X.env (eval e X.env) = eval e X.env) : PE X (.Attribute e f pos) (tFld X.K ta f) := by
  intro pins s σ H Q I h
  refine attr_of hb (thn (he pins s σ H _ I h) fun u s1 ⟨x, H1, I1, rx, a, C, dx, fs, v, ex, ea, c, n, l, q⟩ => ?_)
  subst ex
  obtain rfl : u = Value.ref a := rx
  exact getattr_ok I1 ea c n l fun u' s2 I2 ru => ⟨v, H1, I2, ru, q⟩
theorem pe_con (he : PE X e ta) (hb : attributeBase e f X.env (eval e X.env) = eval e X.env) : PE X (.Attribute e f pos) (tCon X.K ta f) := by
  intro pins s σ H Q I h
  refine attr_of hb (thn (he pins s σ H _ I h) fun u s1 ⟨x, H1, I1, rx, a, C, dx, fs, v, u0, ex, ea, c, k, l, q⟩ => ?_)
  subst ex
  obtain rfl : u = Value.ref a := rx
  exact getcon_ok I1 ea c k l fun s2 I2 => ⟨v, H1, I2, k.rel, q⟩
theorem ps_fld (ha : PE X o ta) (hv : PE X value tv) (hs : swapsWith value (some (.Attribute o f pos')) pos.line X.env = pure false) : PS X (.Assign [.Attribute o f pos'] value pos) (sFld X.K ta tv f) := by
  intro pins s σ H D I h
  refine plainObj_wpAny_Assign_Attribute (thn (hv pins s σ H _ I h) fun u s1 ⟨y, H1, I1, ry, q⟩ => thn (ha pins s1 σ H1 _ I1 q) fun ov s2 ⟨x, H2, I2, rx, a, C, dx, fs, ex, ea, c, n, l, q2⟩ => ?_) hs
  subst ex
  obtain rfl : ov = Value.ref a := rx
  exact setattr_ok I2 ea c n l ry fun s3 I3 => ⟨σ, _, I3, q2⟩
theorem ps_fldaug {op : Operator} {rd : V → V → Hp → VK → Prop} (ha : PE X o ta) (hv : PE X value tv) (hop : InOp X op rd) : PS X (.AugAssign (.Attribute o f tpos) op value pos) (sFldAug X.K ta tv rd f) := by
  intro pins s σ H D I h
  refine wpAny_AugAssign_AttributeAny (thn (ha pins s σ H _ I h) fun ov s1 ⟨x, H1, I1, rx, a, C, dx, fs, v, ex, ea, c, n, l, q⟩ => ?_)
  subst ex
  obtain rfl : ov = Value.ref a := rx
  refine getattr_ok I1 ea c n l fun u s2 I2 ru => thn (hv pins s2 σ H1 _ I2 q) fun w3 s3 ⟨y, H2, I3, ry, q3⟩ => thn (hop pins s3 σ H2 v y u w3 _ I3 ru ry q3) fun w4 s4 ⟨z, H3, I4, rz, dx', fs', ea', l', q4⟩ => ?_
  exact setattr_ok I4 ea' c n l' rz fun s5 I5 => ⟨σ, _, I5, q4⟩
def rAdd : V → V → Hp → VK → Prop := fun x y H Q => ∃ i j, x = .int i ∧ y = .int j ∧ Q (.int (i + j)) H
def rSub : V → V → Hp → VK → Prop := fun x y H Q => ∃ i j, x = .int i ∧ y = .int j ∧ Q (.int (i - j)) H
theorem in_add : InOp X .Add rAdd := by
  rintro pins s σ H x y u v Q I rx ry ⟨i, j, rfl, rfl, q⟩
  obtain ⟨t, rfl⟩ := (show ∃ t, u = Value.int i t from rx)
  obtain ⟨t', rfl⟩ := (show ∃ t', v = Value.int j t' from ry)
  exact PyProof.Rows.iadd_int ⟨.int (i + j), H, I.tok _, ⟨_, rfl⟩, q⟩
theorem in_sub : InOp X .Sub rSub := by
  rintro pins s σ H x y u v Q I rx ry ⟨i, j, rfl, rfl, q⟩
  obtain ⟨t, rfl⟩ := (show ∃ t, u = Value.int i t from rx)
  obtain ⟨t', rfl⟩ := (show ∃ t', v = Value.int j t' from ry)
  exact PyProof.Rows.isub_int ⟨.int (i - j), H, I.tok _, ⟨_, rfl⟩, q⟩

/-- what is between an instance and its method: the tree of a method call -/
theorem methcall_of {pl : Sem Bool} {m : Str} {apos : Pos} {args : List Expr} {pins : List (Addr × Obj)} {s : Shared} {σ : St} {H : Hp} {Q : Value → Shared → Prop} {te : TE} (he : PE X e te) (I : Inv X pins σ H s)
    (h : te σ H fun x H1 => ∃ a C dx fs g, x = .ref a ∧ H1 a = some (.ins C dx fs) ∧ Cls X.K C ∧ Meth X.K C m g ∧ fs.lookup m = none ∧
      ∀ s1, Inv X pins σ H1 s1 → wpAny (model X.prog X.w) X.A (callWith pos (.ref g) [.ref a] (backTo pos (starEach args X.env)) (backToKw pos (keywordEach [] X.env))) Q X.xe s1)
    (ht : eval (.Call (.Attribute e m apos) args [] pos) X.env = (do
      let ov ← eval e X.env
      standAt apos.atName
      let (f, first) ← holding [ov] (getMethod ov m pl)
      callWith pos f first (backTo pos (starEach args X.env)) (backToKw pos (keywordEach [] X.env)))) :
    wpAny (model X.prog X.w) X.A (eval (.Call (.Attribute e m apos) args [] pos) X.env) Q X.xe s := by
  refine PySem.W.methodCall_KW (pl := pl) (thn (he pins s σ H _ I h) fun u s1 ⟨x, H1, I1, rx, a, C, dx, fs, g, ex, ea, c, k, l, q⟩ => ?_) ht
  subst ex
  obtain rfl : u = Value.ref a := rx
  exact getmeth_ok I1 ea c k l (q s1 I1)
end

/-! ### isinstance -/
section
variable {X : Cx} {pins : List (Addr × Obj)} {σ : St} {H : Hp} {s : Shared} {A : Around} {E : Value → Shared → Prop} {Q : Value → Shared → Prop} {c : Value} {b : Bool}
/-- the type of a value, as the fragment's deciders take it; for an instance its class -/
inductive TyOf (K : PySem.W.Frag) (H : Hp) : V → Value → Prop where
  | non : TyOf K H .non (.type "NoneType")
  | bl (x : Bool) : TyOf K H (.bl x) (.type "bool")
  | int (i : Int) : TyOf K H (.int i) (.type "int")
  | str (x : Str) : TyOf K H (.str x) (.type "str")
  | flt (x : UInt64) : TyOf K H (.flt x) (.type "float")
  | lst {a : Addr} {xs : List V} (e : H a = some (.lst xs)) : TyOf K H (.ref a) (.type "list")
  | frz {a : Addr} {o : Obj} {xs : List V} (e : H a = some (.frz o (.lst xs))) : TyOf K H (.ref a) (.type "list")
  | tup {a : Addr} {xs : List V} (e : H a = some (.tup xs)) : TyOf K H (.ref a) (.type "tuple")
  | dK {a : Addr} {kvs : List (Key × V)} (e : H a = some (.dK kvs)) : TyOf K H (.ref a) (.type "dict")
  | dT {a : Addr} {kvs : List (List Key × V)} (e : H a = some (.dT kvs)) : TyOf K H (.ref a) (.type "dict")
  | ins {a C dx : Addr} {fs : List (Str × V)} (e : H a = some (.ins C dx fs)) (cl : Cls K C) (ha : PySem.W.findIn K (.ref C) "__class__" = some (some (.builtin "object.__class__")))
      (hn : PySem.W.specialIn K (.builtin "object.__class__") "__get__" = some (some (.builtin "getset_descriptor.__get__"))) (htk : PySem.W.takesIn K (.builtin "object.__class__") = some true)
      (hm : PySem.W.mroIn K C (.type "object") = some true) : TyOf K H (.ref a) (.ref C)
/-- isinstance(x, c) for one class c, a built-in or an own one: kitOne's answer -/
theorem isinst_ok {x : V} {u t : Value} (I : Inv X pins σ H s) (rx : RelV x u) (ty : TyOf X.K H x t) (e : PySem.W.kitOne X.K t c = some b) (h : ∀ tk, Q (.bool b) { s with toks := tk }) :
    wpAny (model X.prog X.w) A (call (.builtin "isinstance") [u, c]) Q E s := by
  cases ty with
  | non => cases (show u = Value.none from rx); exact PySem.W.kia_one PySem.W.kitx_none I.kIn True.intro e (fun z => nomatch z) h
  | bl y => cases (show u = Value.bool y from rx); exact PySem.W.kia_one PySem.W.kitx_bool I.kIn True.intro e (fun z => nomatch z) h
  | int i => obtain ⟨t, q⟩ := (show ∃ t, u = Value.int i t from rx); cases q; exact PySem.W.kia_one PySem.W.kitx_int I.kIn True.intro e (fun z => nomatch z) h
  | str y => obtain ⟨t, q⟩ := (show ∃ t, u = Value.str y t from rx); cases q; exact PySem.W.kia_one PySem.W.kitx_str I.kIn True.intro e (fun z => nomatch z) h
  | flt y => obtain ⟨t, q⟩ := (show ∃ t, u = Value.float y t from rx); cases q; exact PySem.W.kia_one PySem.W.kitx_float I.kIn True.intro e (fun z => nomatch z) h
  | @lst a xs ea =>
    cases (show u = Value.ref a from rx)
    obtain ⟨_, _, n, _, h1⟩ := (show ObjOk X.prog X.w H s.heap a (.lst xs) from I.hok a _ ea)
    exact PySem.W.kia_one PySem.W.kitx_list I.kIn ⟨_, h1, rfl⟩ e (fun z => nomatch z) h
  | @frz a ob xs ea =>
    cases (show u = Value.ref a from rx)
    obtain ⟨_, _, _, n, _, h1⟩ := (show ObjOk X.prog X.w H s.heap a (.frz ob (.lst xs)) from I.hok a _ ea)
    exact PySem.W.kia_one PySem.W.kitx_list I.kIn ⟨_, h1, rfl⟩ e (fun z => nomatch z) h
  | @tup a xs ea =>
    cases (show u = Value.ref a from rx)
    obtain ⟨_, _, _, p⟩ := (show ObjOk X.prog X.w H s.heap a (.tup xs) from I.hok a _ ea)
    obtain ⟨o, h1, h2, _⟩ := p
    exact PySem.W.kia_one PySem.W.kitx_tuple I.kIn ⟨o, h1, h2⟩ e (fun z => nomatch z) h
  | @dK a kvs ea =>
    cases (show u = Value.ref a from rx)
    obtain ⟨_, _, vs, _, p⟩ := (show ObjOk X.prog X.w H s.heap a (.dK kvs) from I.hok a _ ea)
    obtain ⟨o, es, ep, h1, h2, _⟩ := p
    exact PySem.W.kia_one PySem.W.kitx_dict I.kIn ⟨o, h1, h2.1⟩ e (fun z => nomatch z) h
  | @dT a kvs ea =>
    cases (show u = Value.ref a from rx)
    obtain ⟨_, _, xs, _, o, es, ep, h1, h2, _⟩ := (show ObjOk X.prog X.w H s.heap a (.dT kvs) from I.hok a _ ea)
    exact PySem.W.kia_one PySem.W.kitx_dict I.kIn ⟨o, h1, h2.1⟩ e (fun z => nomatch z) h
  | @ins a C dx fs ea cl ha hn htk hm =>
    cases (show u = Value.ref a from rx)
    obtain ⟨mA, O, _⟩ := ins_get I.hok ea
    obtain ⟨od, J, _⟩ := O.look
    exact PySem.W.kia_one (PySem.W.kitx_own (cl.get _) cl.hd ha hn htk hm) I.kIn J e (fun z => nomatch z) h
end
end L2

namespace L2
open PySem PySem.Spec PyProof.Rows

/-! ### room -/
structure Room (k : Nat) (A : Around) : Prop where
  hd : A.handled = none
  dp : A.depth + 3 * k + 5 < recursionLimit
  un : A.units + 16 * k + 200 < cLine
theorem Room.mono {j k : Nat} {A : Around} (r : Room k A) (h : j ≤ k) : Room j A := ⟨r.hd, by have := r.dp; omega, by have := r.un; omega⟩
theorem Room.deeper {k : Nat} {A : Around} (r : Room (k + 1) A) (env : Env) : Room k (A.deeper env) :=
  ⟨r.hd, by have := r.dp; show A.depth + 1 + 3 * k + 5 < _; omega, by have := r.un; show A.units + 3 + 16 * k + 200 < _; omega⟩
theorem Room.in1 {k : Nat} {A : Around} (r : Room (k + 1) A) : Room k A.in1 :=
  ⟨r.hd, by have := r.dp; show A.depth + 3 * k + 5 < _; omega, by have := r.un; show A.units + 1 + 16 * k + 200 < _; omega⟩
theorem make_depth {A : Around} {C : Addr} {us : List Value} {kw : List (Str × Value)} : (A.under (.builtin "type.__call__" ⟨.ref C :: us, kw⟩)).depth = A.depth + 1 := by
  first | rfl | simp [Around.under, Code.weight, Code.isCreation, Code.isGuard, Code.isCaller, Code.frames, Code.isFrame, guardIds]
theorem make_units {A : Around} {C : Addr} {us : List Value} {kw : List (Str × Value)} : (A.under (.builtin "type.__call__" ⟨.ref C :: us, kw⟩)).units = A.units + 1 := by
  first | rfl | simp [Around.under, Code.cUnits, Code.frames, Code.isFrame]
theorem Room.make {k : Nat} {A : Around} (r : Room (k + 1) A) (C : Addr) (us : List Value) (kw : List (Str × Value)) : Room k (A.under (.builtin "type.__call__" ⟨.ref C :: us, kw⟩)) :=
  ⟨r.hd, by have := r.dp; rw [make_depth]; omega, by have := r.un; rw [make_units]; omega⟩
theorem Room.depth {k : Nat} {A : Around} (r : Room k A) : A.depth < recursionLimit := by have := r.dp; omega
theorem Room.units {k : Nat} {A : Around} (r : Room k A) : A.units + 64 < cLine := by have := r.un; omega
theorem Room.units0 {k : Nat} {A : Around} (r : Room k A) : A.units < cLine := by have := r.un; omega

/-! ### argument lists and displays -/
def tNil : TA := fun _ H Q => Q [] H
def tCons (ta : TE) (tr : TA) : TA := fun σ H Q => ta σ H fun x H1 => tr σ H1 fun xs H2 => Q (x :: xs) H2
section
variable {X : Cx} {e : Expr} {es : List Expr} {te : TE} {t : TA} {pos : Pos}
theorem pa_nil : PA X [] tNil := fun _ _ _ _ H Q I h => Calls.spliced_nil ⟨[], H, I, .nil, h⟩
theorem pa_cons (ha : PE X e te) (hr : PA X es t) (hs : starEach (e :: es) X.env = (false, eval e X.env) :: starEach es X.env := by rfl) : PA X (e :: es) (tCons te t) := by
  intro pos pins s σ H Q I h
  rw [hs]
  show wpAny _ _ (spliced ((false, eval e X.env) :: backTo pos (starEach es X.env))) _ _ s
  refine Calls.spliced_cons (thn (ha pins s σ H _ I h) fun u s1 ⟨x, H1, I1, r1, q1⟩ => ?_)
  exact thn (hr pos pins s1 σ H1 _ I1 q1) fun us s2 ⟨xs, H2, I2, r2, q2⟩ => ⟨x :: xs, H2, I2, .cons r1 r2, q2⟩

/-- a tuple, a list of written items -/
def tTup (t : TA) : TE := fun σ H Q => t σ H fun xs H1 => xs.length ≤ sizeLine ∧ ∀ p, H1 p = none → Q (.ref p) (upd H1 p (.tup xs))
def tLst (t : TA) : TE := fun σ H Q => t σ H fun xs H1 => xs.length ≤ sizeLine ∧ ∀ p, H1 p = none → Q (.ref p) (upd H1 p (.lst xs))
theorem pe_tup {x1} (h : PA X es t) : PE X (.Tuple es x1 pos) (tTup t) := by
  intro pins s σ H Q I hq
  refine wpAny_Tuple_spliced (thn (h pos pins s σ H _ I hq) fun us s1 ⟨xs, H1, I1, r, z, q⟩ => ⟨by rw [← r.length]; exact z, ?_⟩)
  have hf : H1 s1.heap.objs.size = none := I1.hok.fresh (Nat.le_refl _)
  refine ⟨.ref s1.heap.objs.size, upd H1 s1.heap.objs.size (.tup xs), I1.laid (t' := s1.toks) (fun b u e => Heap.get?_push_of_some _ e) (Nat.le_refl _) ?_, rfl, q _ hf⟩
  exact ⟨z, us, r, ⟨_, Heap.get?_push_size _ rfl, rfl, _, rfl⟩⟩
theorem pe_lst (h : PA X es t) : PE X (.List es pos) (tLst t) := by
  intro pins s σ H Q I hq
  refine wpAny_List_spliced (thn (h pos pins s σ H _ I hq) fun us s1 ⟨xs, H1, I1, r, z, q⟩ => ⟨by rw [← r.length]; exact z, ?_⟩)
  have hf : H1 s1.heap.objs.size = none := I1.hok.fresh (Nat.le_refl _)
  refine ⟨.ref s1.heap.objs.size, upd H1 s1.heap.objs.size (.lst xs), I1.laid (t' := s1.toks) (fun b u e => Heap.get?_push_of_some _ e) (Nat.le_refl _) ?_, rfl, q _ hf⟩
  exact ⟨z, us, 0, r, Heap.get?_push_size _ rfl⟩
end

/-! ### what a def promises -/
/-- a def's promise: the bound arguments in the parameters' order, the heap, the wanted end, the wanted exception -/
abbrev Sp := List V → Hp → VK → XK → Prop
/-- how an exception lies behind a call (file 08 gives it): the callers' frames, abstract heap and state ahead of the call, the wish, the exception, the state -/
abbrev CXT := List Env → Hp → Shared → XK → Value → Shared → Prop

/-- the state at a call -/
structure Env0 (P : Program) (w : World) (K : PySem.W.Frag) (mg : Str → Option Value) (base : Heap) (A : Around) (outer : List Env) (s : Shared) (H : Hp) : Prop where
  frames : A.frames = some outer
  mod : Mod K mg base
  bs : ∀ b o, base.get? b = some o → s.heap.get? b = some o ∧ H b = none
  bsz : base.objs.size ≤ s.heap.objs.size
  funs : s.heap.FunFrames base outer
  frf : ∀ b ∈ frs outer, H b = none
  hok : HOk P w H s.heap
  bare : AllBare s.gens
/-- a call's end -/
def CE (outer : List Env) (P : Program) (w : World) (H : Hp) (s : Shared) (Q : VK) (u : Value) (s' : Shared) : Prop :=
  ∃ v H', s'.os = s.os ∧ AllBare s'.gens ∧ Un (frs outer) [] H H' s.heap s'.heap ∧ HOk P w H' s'.heap ∧ RelV v u ∧ Q v H'
def CR (CX : CXT) (outer : List Env) (P : Program) (w : World) (H : Hp) (s : Shared) (Q : VK) (E : XK) (r : Result) (s' : Shared) : Prop :=
  match r with
  | .ok (.ret u) => CE outer P w H s Q u s'
  | .ok _ => False
  | .error e => CX outer H s E e s'
structure FnOk (P : Program) (w : World) (K : PySem.W.Frag) (mg : Str → Option Value) (base : Heap) (CX : CXT) (k : Nat) (f : Addr) (fd : FuncData) (ps : List Str) (sp : Sp) : Prop where
  len : ∀ vs H Q E, sp vs H Q E → vs.length = ps.length
  run : ∀ (A : Around) (outer : List Env) (s : Shared) (H : Hp) (args : Args) (us : List Value) (vs : List V) (Q : VK) (E : XK), Room k A → Env0 P w K mg base A outer s H → BindsTo s fd args (ps.zip us) → Vals vs us → sp vs H Q E →
    codeAny (model P w) A (.call (.ref f) args) (CR CX outer P w H s Q E) s
theorem FnOk.mono {P : Program} {w : World} {K : PySem.W.Frag} {mg : Str → Option Value} {base : Heap} {CX : CXT} {j k : Nat} {f : Addr} {fd : FuncData} {ps : List Str} {sp : Sp} (F : FnOk P w K mg base CX j f fd ps sp) (h : j ≤ k) :
    FnOk P w K mg base CX k f fd ps sp := ⟨F.len, fun A outer s H args us vs Q E hr => F.run A outer s H args us vs Q E (hr.mono h)⟩
/-- a weaker promise -/
theorem FnOk.imp {P : Program} {w : World} {K : PySem.W.Frag} {mg : Str → Option Value} {base : Heap} {CX : CXT} {k : Nat} {f : Addr} {fd : FuncData} {ps : List Str} {sp sp' : Sp} (F : FnOk P w K mg base CX k f fd ps sp)
    (h : ∀ vs H Q E, sp' vs H Q E → sp vs H Q E) : FnOk P w K mg base CX k f fd ps sp' :=
  ⟨fun vs H Q E q => F.len vs H Q E (h _ _ _ _ q), fun A outer s H args us vs Q E hr he hb hv hs => F.run A outer s H args us vs Q E hr he hb hv (h _ _ _ _ hs)⟩

theorem Env0.make {P : Program} {w : World} {K : PySem.W.Frag} {mg : Str → Option Value} {base : Heap} {A : Around} {outer : List Env} {s : Shared} {H : Hp} (e : Env0 P w K mg base A outer s H) (C : Addr) (us : List Value) (kw : List (Str × Value)) :
    Env0 P w K mg base (A.under (.builtin "type.__call__" ⟨.ref C :: us, kw⟩)) outer s H := ⟨by first | exact e.frames | (simpa [Around.under, Code.envs, Code.isFrame, pushEnvs] using e.frames), e.mod, e.bs, e.bsz, e.funs, e.frf, e.hok, e.bare⟩
theorem Env0.in1 {P : Program} {w : World} {K : PySem.W.Frag} {mg : Str → Option Value} {base : Heap} {A : Around} {outer : List Env} {s : Shared} {H : Hp} (e : Env0 P w K mg base A outer s H) :
    Env0 P w K mg base A.in1 outer s H := ⟨e.frames, e.mod, e.bs, e.bsz, e.funs, e.frf, e.hok, e.bare⟩

section
variable {X : Cx} {pins : List (Addr × Obj)} {σ : St} {H : Hp} {s s' : Shared}
/-- from a body: what a callee wants -/
theorem Inv.env0 (I : Inv X pins σ H s) : Env0 X.prog X.w X.K X.mg X.base X.A X.stack s H :=
  ⟨I.ok.frames, I.ok.mod, I.bs, Nat.le_trans I.ok.bsz I.sz, I.stack, I.stkFree, I.hok, I.bare⟩
/-- behind a call -/
theorem Inv.after {Q : VK} {u : Value} (I : Inv X pins σ H s) (h : CE X.stack X.prog X.w H s Q u s') : EP X pins σ Q u s' := by
  obtain ⟨v, H', os, bare, un, hok, r, q⟩ := h
  obtain ⟨hh, g, d, t, os'⟩ := s'
  obtain rfl : os' = s.os := os
  exact ⟨v, H', I.call (h' := hh) (g' := g) (d' := d) (t' := t) (ch := []) un hok bare (fun b z => absurd z (by simp)), r, q⟩
end

/-! ### calls -/
/-- f(..): the written arguments, then the defaults dvs; E: what is wanted of an exception -/
def tCall (sp : Sp) (dvs : List V) (E : XK) (t : TA) : TE := fun σ H Q => t σ H fun vs H1 => sp (vs ++ dvs) H1 Q E
/-- o.m(..) of an instance of the class at C -/
def tMeth (C : Addr) (m : Str) (sp : Sp) (dvs : List V) (E : XK) (ta : TE) (t : TA) : TE := fun σ H Q => ta σ H fun x H1 => ∃ a dx fs, x = .ref a ∧ H1 a = some (.ins C dx fs) ∧ fs.lookup m = none ∧
  t σ H1 fun vs H2 => sp (x :: (vs ++ dvs)) H2 Q E
/-- C(..): a new instance and its dict, then __init__ -/
def tMake (C : Addr) (sp : Sp) (dvs : List V) (E : XK) (t : TA) : TE := fun σ H Q => t σ H fun vs H1 => ∀ x dx, H1 x = none → H1 dx = none → dx ≠ x →
  sp (.ref x :: (vs ++ dvs)) (upd (upd H1 dx (.own x)) x (.ins C dx [])) (fun v H2 => v = .non ∧ Q (.ref x) H2) E

/-- how the parameters are bound: us the positional arguments, kw the keywords' values by name, ds the defaults that fill up -/
def Binds (K : PySem.W.Frag) (fd : FuncData) (ps : List Str) (ds : List Value) : Prop :=
  ∀ (s : Shared) (us : List Value), K.In s.heap → (us ++ ds).length = ps.length → BindsTo s fd ⟨us, []⟩ (ps.zip (us ++ ds))
/-- every parameter is given -/
theorem Binds.all {K : PySem.W.Frag} {fd : FuncData} {ps : List Str} (h : ∀ us : List Value, us.length = ps.length → bindArgs fd ⟨us, []⟩ = pure (ps.zip us)) : Binds K fd ps [] := fun s us _ hl => by
  rw [List.append_nil] at hl ⊢
  exact .of_eq (h us hl)

/-- an exception of a callee reaches what this body wants of exceptions -/
def Passes (CX : CXT) (X : Cx) (E : XK) : Prop := ∀ (pins : List (Addr × Obj)) (σ : St) (H : Hp) (s : Shared) (e : Value) (s' : Shared), Inv X pins σ H s → CX X.stack H s E e s' → X.xe e s'

section
variable {X : Cx} {CX : CXT} {k : Nat} {f C : Addr} {fd : FuncData} {ps : List Str} {sp : Sp} {dvs : List V} {ds : List Value} {E : XK} {x m : Str} {p pos apos : Pos} {e o : Expr} {es : List Expr} {ta : TE} {t : TA}

/-- the callee runs -/
theorem run_fn {pins : List (Addr × Obj)} {σ : St} {H : Hp} {s : Shared} {Q : VK} {us : List Value} {vs : List V} (F : FnOk X.prog X.w X.K X.mg X.base CX k f fd ps sp) (hr : Room k X.A) (hb : Binds X.K fd ps ds) (hd : Vals dvs ds) (hx : Passes CX X E)
    (I : Inv X pins σ H s) (r : Vals vs us) (h : sp (vs ++ dvs) H Q E) : wpAny (model X.prog X.w) X.A (call (.ref f) us) (EP X pins σ Q) X.xe s := by
  have r2 : Vals (vs ++ dvs) (us ++ ds) := r.append hd
  have hl : (us ++ ds).length = ps.length := by rw [← r2.length]; exact F.len _ _ _ _ h
  refine wpAny_call (codeAny_mono (F.run X.A X.stack s H ⟨us, []⟩ (us ++ ds) (vs ++ dvs) Q E hr I.env0 (hb s us I.kIn hl) r2 h) fun r s' hq => ?_)
  cases r with
  | error e => exact hx pins σ H s e s' I hq
  | ok fl =>
    cases fl with
    | ret u => exact I.after hq
    | next => exact False.elim hq
    | brk => exact False.elim hq
    | cont => exact False.elim hq

theorem pe_call (F : FnOk X.prog X.w X.K X.mg X.base CX k f fd ps sp) (hr : Room k X.A) (hg : Gl X x) (hm : X.mg x = some (.ref f)) (hk : PySem.W.keepIn X.K (.ref f) = true) (hb : Binds X.K fd ps ds) (hd : Vals dvs ds) (hx : Passes CX X E)
    (ha : PA X (e :: es) t) (hdb : (x == ("__debug__" : Str)) = false := by decide) (he : starEach (e :: es) X.env = (false, eval e X.env) :: starEach es X.env := by rfl) (hpl : (backTo pos (starEach es X.env)).any (·.1) = false := by rfl) :
    PE X (.Call (.Name x p) (e :: es) [] pos) (tCall sp dvs E t) := by
  intro pins s σ H Q I h
  refine wpAny_Call_Name_kw (ld_glob I hg hm ?_ hdb)
  refine PySem.W.callWith_K (h₀ := X.base) I.ok.mod.kin hk (thn (ha pos pins s σ H _ I h) fun us s1 ⟨vs, H1, I1, r, q⟩ => ⟨I1.kIn, ?_⟩) he hpl
  exact run_fn F hr hb hd hx I1 r q
theorem pe_call0 (F : FnOk X.prog X.w X.K X.mg X.base CX k f fd ps sp) (hr : Room k X.A) (hg : Gl X x) (hm : X.mg x = some (.ref f)) (hk : PySem.W.keepIn X.K (.ref f) = true) (hb : Binds X.K fd ps ds) (hd : Vals dvs ds) (hx : Passes CX X E)
    (hdb : (x == ("__debug__" : Str)) = false := by decide) : PE X (.Call (.Name x p) [] [] pos) (tCall sp dvs E tNil) := by
  intro pins s σ H Q I h
  refine wpAny_Call_Name_kw (ld_glob I hg hm ?_ hdb)
  exact PySem.W.callWith_K0 I.kIn hk (run_fn (us := []) F hr hb hd hx I .nil h)

/-- o.m(e, ..) -/
theorem pe_meth {pl : Sem Bool} (he : PE X o ta) (c : Cls X.K C) (hm : Meth X.K C m f) (F : FnOk X.prog X.w X.K X.mg X.base CX k f fd ps sp) (hr : Room k X.A) (hb : Binds X.K fd ps ds) (hd : Vals dvs ds) (hx : Passes CX X E) (ha : PA X (e :: es) t)
    (hst : starEach (e :: es) X.env = (false, eval e X.env) :: starEach es X.env := by rfl) (hpl : (backTo pos (starEach es X.env)).any (·.1) = false := by rfl)
    (ht : eval (.Call (.Attribute o m apos) (e :: es) [] pos) X.env = (do
      let ov ← eval o X.env
      standAt apos.atName
      let (f, first) ← holding [ov] (getMethod ov m pl)
      callWith pos f first (backTo pos (starEach (e :: es) X.env)) (backToKw pos (keywordEach [] X.env))) := by rfl) :
    PE X (.Call (.Attribute o m apos) (e :: es) [] pos) (tMeth C m sp dvs E ta t) := by
  intro pins s σ H Q I h
  refine PySem.W.methodCall_KW (pl := pl) (thn (he pins s σ H _ I h) fun u s1 ⟨x, H1, I1, rx, a, dx, fs, ex, ea, l, q⟩ => ?_) ht
  subst ex
  obtain rfl : u = Value.ref a := rx
  refine getmeth_ok I1 ea c hm l ?_
  refine PySem.W.callWith_K (first := [.ref a]) (h₀ := X.base) I.ok.mod.kin hm.kp (thn (ha pos pins s1 σ H1 _ I1 q) fun us s2 ⟨vs, H2, I2, r, q2⟩ => ⟨I2.kIn, ?_⟩) hst hpl
  exact run_fn (us := .ref a :: us) (vs := .ref a :: vs) F hr hb hd hx I2 (.cons rfl r) q2
/-- o.m() -/
theorem pe_meth0 {pl : Sem Bool} (he : PE X o ta) (c : Cls X.K C) (hm : Meth X.K C m f) (F : FnOk X.prog X.w X.K X.mg X.base CX k f fd ps sp) (hr : Room k X.A) (hb : Binds X.K fd ps ds) (hd : Vals dvs ds) (hx : Passes CX X E)
    (ht : eval (.Call (.Attribute o m apos) [] [] pos) X.env = (do
      let ov ← eval o X.env
      standAt apos.atName
      let (f, first) ← holding [ov] (getMethod ov m pl)
      callWith pos f first (backTo pos (starEach [] X.env)) (backToKw pos (keywordEach [] X.env))) := by rfl) :
    PE X (.Call (.Attribute o m apos) [] [] pos) (tMeth C m sp dvs E ta tNil) := by
  intro pins s σ H Q I h
  refine PySem.W.methodCall_KW (pl := pl) (thn (he pins s σ H _ I h) fun u s1 ⟨x, H1, I1, rx, a, dx, fs, ex, ea, l, q⟩ => ?_) ht
  subst ex
  obtain rfl : u = Value.ref a := rx
  refine getmeth_ok I1 ea c hm l ?_
  exact PySem.W.callWith_K0 (first := [.ref a]) I1.kIn hm.kp (run_fn (us := [.ref a]) (vs := [.ref a]) F hr hb hd hx I1 (.cons rfl .nil) q)

/-- what a class must have to be made -/
structure Mk (K : PySem.W.Frag) (C f : Addr) : Prop where
  makes : PySem.W.makesIn K C = true
  init : PySem.W.findIn K (.ref C) "__init__" = some (some (.ref f))
  fn : PySem.W.isFn K (.ref f) = true
  kp : PySem.W.keepIn K (.ref C) = true

theorem run_make {pins : List (Addr × Obj)} {σ : St} {H : Hp} {s : Shared} {Q : VK} {us : List Value} {vs : List V} (M : Mk X.K C f) (F : FnOk X.prog X.w X.K X.mg X.base CX k f fd ps sp) (hr : Room (k + 1) X.A) (hb : Binds X.K fd ps ds) (hd : Vals dvs ds)
    (hx : Passes CX X E) (I : Inv X pins σ H s) (r : Vals vs us)
    (h : ∀ x dx, H x = none → H dx = none → dx ≠ x → sp (.ref x :: (vs ++ dvs)) (upd (upd H dx (.own x)) x (.ins C dx [])) (fun v H2 => v = .non ∧ Q (.ref x) H2) E) :
    wpAny (model X.prog X.w) X.A (call (.ref C) us) (EP X pins σ Q) X.xe s := by
  have hq := h (s.heap.objs.size + 1) s.heap.objs.size (I.hok.fresh (Nat.le_succ _)) (I.hok.fresh (Nat.le_refl _)) (Nat.ne_of_lt (Nat.lt_succ_self _))
  have I2 := Inv.made (C := C) I
  have r2 : Vals (V.ref (s.heap.objs.size + 1) :: (vs ++ dvs)) (Value.ref (s.heap.objs.size + 1) :: (us ++ ds)) := .cons rfl (r.append hd)
  have hl : (Value.ref (s.heap.objs.size + 1) :: us ++ ds).length = ps.length := by
    have e := r2.length
    rw [F.len _ _ _ _ hq] at e
    exact e.symm
  refine wpAny_call (make_map (f := f) I.kIn M.makes M.init (beq_iff_eq.mp M.fn) (codeAny_mono (F.run _ X.stack _ _ ⟨Value.ref (s.heap.objs.size + 1) :: us, []⟩ (Value.ref (s.heap.objs.size + 1) :: (us ++ ds)) _ _ E (hr.make C us [])
    (I2.env0.make C us []) (hb _ (Value.ref (s.heap.objs.size + 1) :: us) I2.kIn hl) r2 hq) fun r s' hq' => ?_))
  cases r with
  | error e => exact hx pins σ _ _ e s' I2 hq'
  | ok fl =>
    cases fl with
    | ret u =>
      obtain ⟨v, H', I3, rv, ev, q3⟩ := I2.after hq'
      subst ev
      exact ⟨rv, ⟨V.ref (s.heap.objs.size + 1), H', I3, rfl, q3⟩⟩
    | next => exact False.elim hq'
    | brk => exact False.elim hq'
    | cont => exact False.elim hq'
theorem pe_make (M : Mk X.K C f) (F : FnOk X.prog X.w X.K X.mg X.base CX k f fd ps sp) (hr : Room (k + 1) X.A) (hg : Gl X x) (hm : X.mg x = some (.ref C)) (hb : Binds X.K fd ps ds) (hd : Vals dvs ds) (hx : Passes CX X E)
    (ha : PA X (e :: es) t) (hdb : (x == ("__debug__" : Str)) = false := by decide) (he : starEach (e :: es) X.env = (false, eval e X.env) :: starEach es X.env := by rfl) (hpl : (backTo pos (starEach es X.env)).any (·.1) = false := by rfl) :
    PE X (.Call (.Name x p) (e :: es) [] pos) (tMake C sp dvs E t) := by
  intro pins s σ H Q I h
  refine wpAny_Call_Name_kw (ld_glob I hg hm ?_ hdb)
  refine PySem.W.callWith_K (h₀ := X.base) I.ok.mod.kin M.kp (thn (ha pos pins s σ H _ I h) fun us s1 ⟨vs, H1, I1, r, q⟩ => ⟨I1.kIn, ?_⟩) he hpl
  exact run_make M F hr hb hd hx I1 r q
theorem pe_make0 (M : Mk X.K C f) (F : FnOk X.prog X.w X.K X.mg X.base CX k f fd ps sp) (hr : Room (k + 1) X.A) (hg : Gl X x) (hm : X.mg x = some (.ref C)) (hb : Binds X.K fd ps ds) (hd : Vals dvs ds) (hx : Passes CX X E)
    (hdb : (x == ("__debug__" : Str)) = false := by decide) : PE X (.Call (.Name x p) [] [] pos) (tMake C sp dvs E tNil) := by
  intro pins s σ H Q I h
  refine wpAny_Call_Name_kw (ld_glob I hg hm ?_ hdb)
  exact PySem.W.callWith_K0 I.kIn M.kp (run_make (us := []) M F hr hb hd hx I .nil h)
end

/-! ### keywords -/
/-- the values of the keywords, from the left -/
def PK (X : Cx) (kws : List Keyword) (t : TA) : Prop :=
  ∀ (pos : Pos) (pins : List (Addr × Obj)) (s : Shared) (σ : St) (H : Hp) (Q : List V → Hp → Prop), Inv X pins σ H s → t σ H Q → wpAny (model X.prog X.w) X.A (evalAll ((backToKw pos (keywordEach kws X.env)).map (·.2))) (AP X pins σ Q) X.xe s
section
variable {X : Cx} {CX : CXT} {k : Nat} {f C : Addr} {fd : FuncData} {ps ks : List Str} {sp : Sp} {E : XK} {x m : Str} {p pos apos kpos : Pos} {e o : Expr} {es : List Expr} {kws : List Keyword} {te ta : TE} {t tk : TA} {nm : Option Str}
theorem pk_nil : PK X [] tNil := fun _ _ _ _ H Q I h => wpAny_evalAll_nil ⟨[], H, I, .nil, h⟩
theorem pk_cons (ha : PE X e te) (hr : PK X kws t) : PK X (⟨nm, e, kpos⟩ :: kws) (tCons te t) := by
  intro pos pins s σ H Q I h
  show wpAny _ _ (evalAll ((do let v ← eval e X.env; standAt pos; pure v) :: (backToKw pos (keywordEach kws X.env)).map (·.2))) _ _ s
  refine wpAny_evalAll_cons (wpAny_bind (thn (ha pins s σ H _ I h) fun u s1 ⟨x, H1, I1, r1, q1⟩ => wpAny_bind (wpAny_standAt (wpAny_pure ?_))))
  exact thn (hr pos pins s1 σ H1 _ I1 q1) fun us s2 ⟨xs, H2, I2, r2, q2⟩ => ⟨x :: xs, H2, I2, .cons r1 r2, q2⟩

/-- how a call with keywords binds: g puts the positional values us and the keywords' values ws (names ks) in the parameters' order, defaults among them -/
structure KBinds (K : PySem.W.Frag) (fd : FuncData) (ps ks : List Str) (g : List Value → List Value → List Value) (gV : List V → List V → List V) : Prop where
  to : ∀ (s : Shared) (us ws : List Value), K.In s.heap → (g us ws).length = ps.length → BindsTo s fd ⟨us, ks.zip ws⟩ (ps.zip (g us ws))
  rel : ∀ {vs : List V} {us : List Value} {zs : List V} {ws : List Value}, Vals vs us → Vals zs ws → Vals (gV vs zs) (g us ws)
def tCallK (sp : Sp) (gV : List V → List V → List V) (E : XK) (t tk : TA) : TE := fun σ H Q => t σ H fun vs H1 => tk σ H1 fun zs H2 => sp (gV vs zs) H2 Q E
variable {g : List Value → List Value → List Value} {gV : List V → List V → List V}
theorem run_fnk {pins : List (Addr × Obj)} {σ : St} {H : Hp} {s : Shared} {Q : VK} {us ws : List Value} {vs zs : List V} (F : FnOk X.prog X.w X.K X.mg X.base CX k f fd ps sp) (hr : Room k X.A) (hb : KBinds X.K fd ps ks g gV) (hx : Passes CX X E)
    (I : Inv X pins σ H s) (r : Vals vs us) (rz : Vals zs ws) (h : sp (gV vs zs) H Q E) : wpAny (model X.prog X.w) X.A (call (.ref f) us (ks.zip ws)) (EP X pins σ Q) X.xe s := by
  have r2 := hb.rel r rz
  have hl : (g us ws).length = ps.length := by rw [← r2.length]; exact F.len _ _ _ _ h
  refine wpAny_call (codeAny_mono (F.run X.A X.stack s H ⟨us, ks.zip ws⟩ (g us ws) (gV vs zs) Q E hr I.env0 (hb.to s us ws I.kIn hl) r2 h) fun r s' hq => ?_)
  cases r with
  | error e => exact hx pins σ H s e s' I hq
  | ok fl =>
    cases fl with
    | ret u => exact I.after hq
    | next => exact False.elim hq
    | brk => exact False.elim hq
    | cont => exact False.elim hq
/-- f(e, .., k = v, ..) -/
theorem pe_callK (F : FnOk X.prog X.w X.K X.mg X.base CX k f fd ps sp) (hr : Room k X.A) (hg : Gl X x) (hm : X.mg x = some (.ref f)) (hk : PySem.W.keepIn X.K (.ref f) = true) (hb : KBinds X.K fd ps ks g gV) (hx : Passes CX X E)
    (ha : PA X (e :: es) t) (hkw : PK X kws tk) (hall : (backToKw pos (keywordEach kws X.env)).all (·.1.isSome) = true := by rfl) (hks : (backToKw pos (keywordEach kws X.env)).filterMap (·.1) = ks := by rfl)
    (hdb : (x == ("__debug__" : Str)) = false := by decide) (he : starEach (e :: es) X.env = (false, eval e X.env) :: starEach es X.env := by rfl)
    (hpl : ((backTo pos (starEach (e :: es) X.env)).any (·.1) || (backToKw pos (keywordEach kws X.env)).any (·.1.isNone)) = false := by rfl) :
    PE X (.Call (.Name x p) (e :: es) kws pos) (tCallK sp gV E t tk) := by
  intro pins s σ H Q I h
  refine wpAny_Call_Name_kw (ld_glob I hg hm ?_ hdb)
  refine PySem.W.callWith_KW (h₀ := X.base) I.ok.mod.kin hk hall (thn (ha pos pins s σ H _ I h) fun us s1 ⟨vs, H1, I1, r, q⟩ => ?_) hpl he
  refine thn (hkw pos pins s1 σ H1 _ I1 q) fun ws s2 ⟨zs, H2, I2, rz, q2⟩ => ⟨I2.kIn, ?_⟩
  rw [hks]
  exact run_fnk F hr hb hx I2 r rz q2
end

/-! ### a def's body keeps its promise -/
/-- names: the parameters first -/
structure FnScope (N P : List Str) (sc : Scope) : Prop where
  kind : sc.kind = .function
  co : sc.isCoroutine = false
  gen : sc.isGenerator = false
  nd : N.Nodup
  pre : N.take P.length = P
  par : ∀ x ∈ P, sc.names.lookup x = some .local ∨ sc.names.lookup x = some .cell
  nofree : ∀ y ∈ sc.names, y.2 ≠ .free

theorem bindL_out {kindOf : Str → Option NameKind} {x : Str} : ∀ {binds : List (Str × Value)} {m : Str → Option Value}, (∀ v, (x, v) ∉ binds) → bindL kindOf binds m x = m x
  | [], _, _ => rfl
  | (n, v) :: r, m, h => by
    unfold bindL
    rw [bindL_out fun w hw => h w (List.mem_cons_of_mem _ hw)]
    split
    · have : x ≠ n := by rintro rfl; exact h v List.mem_cons_self
      simp [this]
    · rfl
theorem bindC_out {kindOf : Str → Option NameKind} {x : Str} : ∀ {binds : List (Str × Value)} {m : Str → Option Value}, (∀ v, (x, v) ∉ binds) → bindC kindOf binds m x = m x
  | [], _, _ => rfl
  | (n, v) :: r, m, h => by
    unfold bindC
    rw [bindC_out fun w hw => h w (List.mem_cons_of_mem _ hw)]
    split
    · rfl
    · have : x ≠ n := by rintro rfl; exact h v List.mem_cons_self
      simp [this]
theorem bindL_get {kindOf : Str → Option NameKind} {x : Str} {v : Value} : ∀ {P : List Str} {vs : List Value} {i : Nat} {m : Str → Option Value}, P.Nodup → P[i]? = some x → vs[i]? = some v → kindOf x = some .local →
    bindL kindOf (P.zip vs) m x = some v
  | [], _, _, _, _, h, _, _ => by simp at h
  | _ :: _, [], _, _, _, _, h, _ => by simp at h
  | p :: P, w :: vs, 0, m, nd, h1, h2, hk => by
    simp at h1 h2; subst h1; subst h2
    show bindL kindOf ((p, w) :: P.zip vs) m p = _
    unfold bindL
    rw [bindL_out fun v hv => (List.nodup_cons.mp nd).1 (List.of_mem_zip hv).1, if_pos hk]
    simp
  | p :: P, w :: vs, i + 1, m, nd, h1, h2, hk => by
    show bindL kindOf ((p, w) :: P.zip vs) m x = _
    unfold bindL
    exact bindL_get (i := i) (List.nodup_cons.mp nd).2 (by simpa using h1) (by simpa using h2) hk
theorem bindC_get {kindOf : Str → Option NameKind} {x : Str} {v : Value} : ∀ {P : List Str} {vs : List Value} {i : Nat} {m : Str → Option Value}, P.Nodup → P[i]? = some x → vs[i]? = some v → kindOf x ≠ some .local →
    bindC kindOf (P.zip vs) m x = some v
  | [], _, _, _, _, h, _, _ => by simp at h
  | _ :: _, [], _, _, _, _, h, _ => by simp at h
  | p :: P, w :: vs, 0, m, nd, h1, h2, hk => by
    simp at h1 h2; subst h1; subst h2
    show bindC kindOf ((p, w) :: P.zip vs) m p = _
    unfold bindC
    rw [bindC_out fun v hv => (List.nodup_cons.mp nd).1 (List.of_mem_zip hv).1, if_neg hk]
    simp
  | p :: P, w :: vs, i + 1, m, nd, h1, h2, hk => by
    show bindC kindOf ((p, w) :: P.zip vs) m x = _
    unfold bindC
    exact bindC_get (i := i) (List.nodup_cons.mp nd).2 (by simpa using h1) (by simpa using h2) hk

/-- the names' values at the entry -/
def start (N : List Str) (vs : List V) : St := vs.map some ++ List.replicate (N.length - vs.length) none

/-- the context of a def's body, at its entry; an exception leaves the frame, then lies as CX says -/
def cxOf (CX : CXT) (P : Program) (w : World) (K : PySem.W.Frag) (mg : Str → Option Value) (base : Heap) (N : List Str) (qual : Str) (scope : Scope) (f : Addr) (cd : Value) (A : Around) (outer : List Env) (s : Shared) (H : Hp) (E : XK) : Cx where
  prog := P
  w := w
  K := K
  mg := mg
  base := base
  A := A.deeper (envOfC qual scope s.heap.objs.size f cd)
  N := N
  s₀ := s
  H₀ := H
  env := envOfC qual scope s.heap.objs.size f cd
  outer := outer
  stack := envOfC qual scope s.heap.objs.size f cd :: outer
  ex := []
  calm := true
  fn := fun _ => true
  pn := []
  xe := fun e s' => wpAny (model P w) (A.deeper (envOfC qual scope s.heap.objs.size f cd)) (leaving (envOfC qual scope s.heap.objs.size f cd) e) (fun _ s'' => CX outer H s E e s'') (fun e' s'' => CX outer H s E e' s'') s'

theorem cell_has {sc : Scope} {n : Nat} {x : Str} (h : sc.names.lookup x = some .cell) : ∃ c, (cellsFrom n sc.names []).lookup x = some c := by
  have q := PySem.W.cellsFrom_some sc.names n [] (.inl h)
  exact Option.isSome_iff_exists.mp q

theorem inv_start {CX : CXT} {P : Program} {w : World} {K : PySem.W.Frag} {mg : Str → Option Value} {base : Heap} {N ps : List Str} {qual : Str} {scope : Scope} {f : Addr} {cd : Value} {A : Around} {outer : List Env} {s s1 : Shared} {H : Hp} {E : XK} {us : List Value} {vs : List V}
    (S : FnScope N ps scope) (hd : A.handled = none) (e0 : Env0 P w K mg base A outer s H) (hl : vs.length = ps.length) (r : Vals vs us)
    (x : InCallC s s.heap.objs.size (bindL (envOfC qual scope s.heap.objs.size f cd).kindOf (ps.zip us) fun _ => none) (cellsFrom (s.heap.objs.size + 1) scope.names []) (bindC (envOfC qual scope s.heap.objs.size f cd).kindOf (ps.zip us) fun _ => none) s1) :
    Inv (cxOf CX P w K mg base N qual scope f cd A outer s H E) [] (start N vs) H s1 := by
  have hpl : ps.length ≤ N.length := by have := congrArg List.length S.pre; rw [List.length_take] at this; omega
  obtain ⟨h1, tk, rfl, hk⟩ := x.done
  have noA : ∀ b : Addr, b ∉ (cxOf CX P w K mg base N qual scope f cd A outer s H E).ex := fun b z => absurd (show b ∈ ([] : List Addr) from z) (by simp)
  refine ⟨⟨e0.mod, S.kind, rfl, rfl, Nat.le_refl _, fun y z c h1 h2 => ?_, fun y hy => ?_, fun y c _ h => ?_, fun _ => hd, Around.frames_deeper e0.frames, .inr ⟨rfl, rfl⟩, fun b z => absurd z (noA b), e0.bs, e0.bsz, fun b _ _ => noA b, fun b z => absurd z (noA b), e0.funs, e0.frf⟩,
    rfl, e0.bare, Un.kept hk, ⟨_, x.toInCall.ns, fun i y v h1 h2 h3 => ?_⟩, fun y c h => ⟨_, x.cell y c h⟩, e0.hok.fresh (Nat.le_refl _), fun y c h => ?_, fun p hp => absurd (show p ∈ ([] : List (Addr × Obj)) from hp) (by simp), e0.hok.kept hk, ?_⟩
  · exact name_of_addr x.apart (PySem.mem_of_lookup h1) (PySem.mem_of_lookup h2)
  · have hy : scope.names.lookup y = some .cell ∨ scope.names.lookup y = some .free := hy
    rcases hy with hy | hy
    · exact cell_has hy
    · exact absurd rfl (S.nofree _ (PySem.mem_of_lookup hy))
  · exact Nat.le_of_lt (x.above y c (PySem.mem_of_lookup h))
  · have hi : i < vs.length := by
      unfold start at h2
      by_cases hi : i < vs.length
      · exact hi
      · rw [List.getElem?_append_right (by simpa using hi)] at h2
        rw [List.getElem?_replicate] at h2
        split at h2 <;> cases h2
    have ha : vs[i]? = some v := by
      unfold start at h2
      rw [List.getElem?_append_left (by simpa using hi), List.getElem?_map] at h2
      cases e : vs[i]? with
      | none => rw [e] at h2; cases h2
      | some a => rw [e] at h2; cases h2; rfl
    obtain ⟨u, hu, rv⟩ := r.get ha
    have hp : ps[i]? = some y := by
      rw [← S.pre, List.getElem?_take_of_lt (by omega)]; exact h1
    have ndP : ps.Nodup := by rw [← S.pre]; exact S.nd.sublist (List.take_sublist _ _)
    refine ⟨u, rv, ?_⟩
    rcases S.par y (List.mem_of_getElem? hp) with k | k
    · exact .inl ⟨k, bindL_get ndP hp hu k⟩
    · obtain ⟨c, e⟩ := cell_has (n := s.heap.objs.size + 1) k
      refine .inr ⟨.inl k, c, e, ?_⟩
      have q := x.cell y c e
      rw [bindC_get ndP hp hu (by show scope.names.lookup y ≠ _; rw [k]; decide)] at q
      exact q
  · exact e0.hok.fresh (Nat.le_of_lt (x.above y c (PySem.mem_of_lookup h)))
  · unfold start
    show _ = N.length
    rw [List.length_append, List.length_map, List.length_replicate]
    omega

/-- THE RULE: a def (or a method) of the text, by its body. The body's reading t is chosen for each entry; it is run at the parameters' values -/
theorem fn_of {CX : CXT} {P : Program} {w : World} {K : PySem.W.Frag} {mg : Str → Option Value} {base : Heap} {k : Nat} {f : Addr} {name qual : Str} {params : Arguments} {body : List Stmt} {scope : Scope} {dV kV doc pm cdv ct oc : Value} {an od : Option Addr}
    {osl : Array (Option Value)} {N ps : List Str} {sp : Sp} (lk : K.lookup f = some ⟨oc, od, .func (PySem.W.fnOf name qual params body scope dV kV doc pm an cdv ct), osl⟩) (hcd : PySem.W.codeIn K cdv qual = true) (S : FnScope N ps scope)
    (len : ∀ vs H Q E, sp vs H Q E → vs.length = ps.length)
    (hbody : ∀ (A : Around) (outer : List Env) (s : Shared) (H : Hp) (vs : List V) (Q : VK) (E : XK), Room k (A.deeper (envOfC qual scope s.heap.objs.size f cdv)) → sp vs H Q E →
      ∃ t, PSs (cxOf CX P w K mg base N qual scope f cdv A outer s H E) body t ∧ t { nx := fun _ H' => Q .non H', rt := Q } (start N vs) H) :
    FnOk P w K mg base CX (k + 1) f (PySem.W.fnOf name qual params body scope dV kV doc pm an cdv ct) ps sp := by
  refine ⟨len, fun A outer s H args us vs Q E hr e0 hb r hsp => ?_⟩
  have hl := len _ _ _ _ hsp
  have KX : K.In s.heap := e0.mod.kin.keeps fun b o e => (e0.bs b o e).1
  have lim : s.heap.NoLimit := e0.mod.nolimit.keeps fun b o e => (e0.bs b o e).1
  have hkind : ∀ y ∈ ps.zip us, scope.names.lookup y.1 = some .local ∨ (scope.names.lookup y.1 = some .cell ∧ ((cellsFrom (s.heap.objs.size + 1) scope.names []).lookup y.1).isSome = true) := fun ⟨n, v⟩ hy => by
    rcases S.par n (List.of_mem_zip hy).1 with q | q
    · exact .inl q
    · exact .inr ⟨q, PySem.W.cellsFrom_some _ _ _ (.inl q)⟩
  refine codeAny_call_function hr.depth (KX _ _ lk) rfl S.co S.gen rfl (PySem.W.codeRec_of KX hcd) (hb _ _ _ _ ?_)
  refine wpAny_newFunctionEnv_cells S.kind hkind fun env he s1 x => ?_
  subst he
  refine ⟨lim.keeps x.toInCall.keep, codeAny_func ?_⟩
  obtain ⟨t, ht, hq⟩ := hbody A outer s H vs Q E (hr.deeper _) hsp
  have I : Inv (cxOf CX P w K mg base N qual scope f cdv A outer s H E) [] (start N vs) H s1 := inv_start S hr.hd e0 hl r x
  refine wpAny_mono (ht [] s1 (start N vs) H _ I hq) (fun fl s' hs => ?_) fun e s' hs => hs
  have fin : ∀ {σ' : St} {H' : Hp} {v : V} {u : Value}, Inv (cxOf CX P w K mg base N qual scope f cdv A outer s H E) [] σ' H' s' → RelV v u → Q v H' → CE outer P w H s Q u s' :=
    fun {σ' H' v u} J rv q => ⟨v, H', J.os, J.bare, J.base, J.hok, rv, q⟩
  cases fl with
  | ret u =>
    obtain ⟨v, σ', H', J, rv, q⟩ := hs
    exact fin J rv q
  | next =>
    obtain ⟨σ', H', J, q⟩ := hs
    exact fin (v := V.non) (u := Value.none) J rfl q
  | brk =>
    obtain ⟨_, _, _, q⟩ := hs
    exact False.elim q
  | cont =>
    obtain ⟨_, _, _, q⟩ := hs
    exact False.elim q
end L2

namespace L2
open PySem PySem.Spec PyProof.Rows
section
variable {X : Cx} {x : Str} {p pos : Pos} {e : Expr} {es : List Expr} {t : TA} {id T : String} {r : List V → Hp → VK → Prop}

def tCB (r : List V → Hp → VK → Prop) (t : TA) : TE := fun σ H Q => t σ H fun vs H1 => r vs H1 Q
/-- f(e, ..), f a built-in function -/
theorem pe_callB (hc : CallR X (.builtin id) r) (hg : Gl X x) (hm : X.mg x = none) (hv : bootBuiltins x = some (.builtin id)) (ha : PA X (e :: es) t) (hn : x ≠ "__name__" := by decide) (hdb : (x == ("__debug__" : Str)) = false := by decide)
    (he : starEach (e :: es) X.env = (false, eval e X.env) :: starEach es X.env := by rfl) (hpl : (backTo pos (starEach es X.env)).any (·.1) = false := by rfl) : PE X (.Call (.Name x p) (e :: es) [] pos) (tCB r t) := by
  intro pins s σ H Q I h
  refine wpAny_Call_Name_kw (ld_blt I hg hm hv ?_ hn hdb)
  exact PyProof.Rows.callWith_builtin1 (thn (ha pos pins s σ H _ I h) fun us s1 ⟨vs, H1, I1, r1, q1⟩ => hc pins s1 σ H1 vs us Q I1 r1 q1) he hpl
/-- T(e, ..), T a built-in type -/
theorem pe_callTy (hc : CallR X (.type T) r) (hg : Gl X x) (hm : X.mg x = none) (hv : bootBuiltins x = some (.type T)) (ha : PA X (e :: es) t) (hn : x ≠ "__name__" := by decide) (hdb : (x == ("__debug__" : Str)) = false := by decide)
    (he : starEach (e :: es) X.env = (false, eval e X.env) :: starEach es X.env := by rfl) (hpl : (backTo pos (starEach es X.env)).any (·.1) = false := by rfl) : PE X (.Call (.Name x p) (e :: es) [] pos) (tCB r t) := by
  intro pins s σ H Q I h
  refine wpAny_Call_Name_kw (ld_blt I hg hm hv ?_ hn hdb)
  exact PyProof.Rows.callWith_type1 (thn (ha pos pins s σ H _ I h) fun us s1 ⟨vs, H1, I1, r1, q1⟩ => hc pins s1 σ H1 vs us Q I1 r1 q1) he hpl
/-- T() -/
theorem pe_callTy0 (hc : CallR X (.type T) r) (hg : Gl X x) (hm : X.mg x = none) (hv : bootBuiltins x = some (.type T)) (hn : x ≠ "__name__" := by decide) (hdb : (x == ("__debug__" : Str)) = false := by decide) :
    PE X (.Call (.Name x p) [] [] pos) (tCB r tNil) := by
  intro pins s σ H Q I h
  refine wpAny_Call_Name_kw (ld_blt I hg hm hv ?_ hn hdb)
  exact PyProof.Rows.callWith_type0 (hc pins s σ H [] [] Q I .nil h)
end
end L2

namespace HT
open PySem PyProof.Rows

/-- t < u of tuples of ints -/
def lexLt : List Int → List Int → Bool
  | [], [] => false
  | [], _ :: _ => true
  | _ :: _, [] => false
  | x :: xs, y :: ys => if x = y then lexLt xs ys else decide (x < y)
theorem lexLt_cons (x y : Int) (xs ys : List Int) : lexLt (x :: xs) (y :: ys) = if x = y then lexLt xs ys else decide (x < y) := rfl
theorem lexLt_nil_nil : lexLt [] [] = false := rfl
theorem lexLt_nil_cons (y : Int) (ys : List Int) : lexLt [] (y :: ys) = true := rfl
theorem lexLt_cons_nil (x : Int) (xs : List Int) : lexLt (x :: xs) [] = false := rfl

theorem eqAt_int (A : Around) (s : Shared) (a : Int) (t : Tok) (c : Int) (u : Tok) : ∃ e, SeqAt.EqAt A s (.int a t) (.int c u) e ∧ (e = true ↔ a = c) :=
  ⟨(a == c), SeqAt.EqAt.int_int a t c u, by simp⟩
theorem rcLt_int (A : Around) (s : Shared) (a : Int) (t : Tok) (c : Int) (u : Tok) (prog : Program) (w : World) (E : Value → Shared → Prop) (Q : Value → Shared → Prop) (h : Q (.bool (decide (a < c))) s) :
    wpAny (model prog w) A (richCompare .Lt (.int a t) (.int c u)) Q E s :=
  (PyProof.Rows.lt_int h : wpAny (model prog w) A (compareOp .Lt (.int a t) (.int c u)) Q E s)

section
open PySem.SeqAt
open PySem.AutoSeq1 (wpAny_loadPart')
open PySem.MeetsSeq PySem.MeetsSeq2 PySem.MeetsSeq3

theorem tuple_lt_ints (l b : Addr) (items items2 : Array Value) (n n2 : Nat) (dd dd2 : Option Addr) (sl sl2 : Array (Option Value)) (ns ms : List Int) (hi : IntsAre items.toList ns) (hj : IntsAre items2.toList ms) :
    Meets (Builtin.«tuple.__lt__» ⟨[.ref l, .ref b], []⟩)
      (fun _ R s => s.heap.get? l = some { cls := .type "tuple", dict := dd, data := .seq items n, slots := sl } ∧ s.heap.get? b = some { cls := .type "tuple", dict := dd2, data := .seq items2 n2, slots := sl2 } ∧
        R (.ok (.ret (.bool (lexLt ns ms)))) s) :=
  .of_wp fun prog w A R s h => by
    obtain ⟨hp, g, d, tk, os⟩ := s; obtain ⟨hl, hb, h⟩ := h
    have f2 := AutoSeq1.sub_tuple_tuple
    have z1 : items.size = ns.length := by rw [← hi.length]; simp
    have z2 : items2.size = ms.length := by rw [← hj.length]; simp
    wp_walk using wpAny_loadPart' hl, wpAny_loadPart' hb, wpAny_forIn_list _ (fun rest b s' => b.1 = none ∧ s' = ⟨hp, g, d, tk, os⟩ ∧ ∃ (vs ws : List Value) (ns' ms' : List Int), rest = vs.zip ws ∧
      IntsAre vs ns' ∧ IntsAre ws ms' ∧ ns'.length + items2.size = ms'.length + items.size ∧ R (.ok (.ret (.bool (lexLt ns' ms')))) ⟨hp, g, d, tk, os⟩) _
    case turn =>
      rintro ⟨y, x⟩ rest b s' ⟨hb', rfl, vs, ws, ns', ms', hz, hvi, hwi, hlen, hR⟩
      cases hvi with
      | nil => rw [List.zip_nil_left] at hz; cases hz
      | cons a t hvi' =>
        cases hwi with
        | nil => rw [List.zip_nil_right] at hz; cases hz
        | cons c u hwi' =>
          rw [List.zip_cons_cons] at hz
          injection hz with hyx hrest
          injection hyx with hy hx
          subst hy hx
          rw [lexLt_cons] at hR
          simp only [List.length_cons] at hlen
          obtain ⟨e, he, hiff⟩ := eqAt_int A.in1 ⟨hp, g, d, tk, os⟩ a t c u
          refine wpAny_bind (he prog w _ _ ?_)
          cases e with
          | true =>
            rw [if_pos (hiff.mp rfl)] at hR
            wp_walk
            exact ⟨rfl, rfl, _, _, _, _, hrest, hvi', hwi', by omega, hR⟩
          | false =>
            rw [if_neg (fun q => absurd (hiff.mpr q) Bool.false_ne_true)] at hR
            have hri := rcLt_int A.in1 ⟨hp, g, d, tk, os⟩ a t c u prog w
            wp_walk using hri
            exact ⟨_, rfl, by simpa using hR⟩
    case fin =>
      rintro ⟨b1, b2⟩ s' ⟨hb', rfl, vs, ws, ns', ms', hz, hvi, hwi, hlen, hR⟩
      simp only at hb'
      subst hb'
      have hv : lexLt ns' ms' = decide (items.size < items2.size) := by
        cases hvi with
        | nil =>
          cases hwi with
          | nil =>
            simp only [List.length_nil] at hlen
            rw [lexLt_nil_nil]
            exact (decide_eq_false (by omega)).symm
          | cons c u hw =>
            simp only [List.length_nil, List.length_cons] at hlen
            rw [lexLt_nil_cons]
            exact (decide_eq_true (by omega)).symm
        | cons a t hv =>
          cases hwi with
          | nil =>
            simp only [List.length_nil, List.length_cons] at hlen
            rw [lexLt_cons_nil]
            exact (decide_eq_false (by omega)).symm
          | cons c u hw =>
            rw [List.zip_cons_cons] at hz
            cases hz
      rw [hv] at hR
      wp_walk
      exact ⟨_, rfl, by simpa [Builtin.Tuple.tupleCompareSizes] using hR⟩
    case h =>
      exact ⟨rfl, rfl, items.toList, items2.toList, ns, ms, rfl, hi, hj, by omega, h⟩
end

section
variable {prog : Program} {w : World} {A : Around} {E : Value → Shared → Prop} {s : Shared}

theorem lt_tupInts {l b : Addr} {items items2 : Array Value} {ns ms : List Int} {Q : Value → Shared → Prop} (hl : IsTup s.heap l items) (hb : IsTup s.heap b items2) (hi : IntsAre items.toList ns) (hj : IntsAre items2.toList ms)
    (hu : A.units < cLine) (h : Q (.bool (lexLt ns ms)) s) : wpAny (model prog w) A (compareOp .Lt (.ref l) (.ref b)) Q E s := by
  obtain ⟨⟨cls, dd, data, sl⟩, ho, hc, n, hd⟩ := id hl
  obtain ⟨⟨cls2, dd2, data2, sl2⟩, ho2, hc2, n2, hd2⟩ := id hb
  simp only at hc hd hc2 hd2
  subst hc hd hc2 hd2
  exact richCompare_meets_room (op := .Lt) ⟨_, ho, rfl⟩ ⟨_, ho2, rfl⟩ PySem.F.slot_tuple_lt PySem.F.entry_tuple_lt (PySem.F.args_tuple_lt_2 _ _) (tuple_lt_ints l b items items2 n n2 dd dd2 sl sl2 ns ms hi hj)
    ⟨ho, ho2, show Value.bool (lexLt ns ms) ≠ Value.notImplemented ∧ Q (.bool (lexLt ns ms)) s from ⟨(fun x => nomatch x), h⟩⟩ hu

/-- t + u, t not empty -/
theorem cat_tup {t b : Addr} {vs ws : List Value} {Q : Value → Shared → Prop} (ht : IsTup s.heap t vs.toArray) (hb : IsTup s.heap b ws.toArray) (hv : vs ≠ [])
    (h1 : ws = [] → Q (.ref t) s) (h2 : ws ≠ [] → Q (.ref s.heap.objs.size) { s with heap := s.heap.push { cls := .type "tuple", data := .seq (vs ++ ws).toArray } })
    (hsz : vs.length + ws.length ≤ sizeLine) : wpAny (model prog w) A (binaryOp .Add (.ref t) (.ref b)) Q E s := by
  obtain ⟨⟨cls, dd, data, sl⟩, ho, hc, n, hd⟩ := id ht
  obtain ⟨⟨cls2, dd2, data2, sl2⟩, ho2, hc2, n2, hd2⟩ := id hb
  simp only at hc hd hc2 hd2
  subst hc hd hc2 hd2
  have e : vs.toArray ++ ws.toArray = (vs ++ ws).toArray := by simp
  by_cases hw : ws = []
  · exact concat_meets ⟨_, ho, rfl⟩ ⟨_, ho2, rfl⟩ noFill_tuple_add seq_tuple_add PySem.F.slot_tuple_add PySem.F.entry_tuple_add (PySem.F.args_tuple_add_2 _ _)
      (tuple_addW1 t b vs.toArray ws.toArray n n2 dd dd2 sl sl2 (by simpa using hv) (by simp [hw])) ⟨ho, ho2, h1 hw⟩
  · refine concat_meets ⟨_, ho, rfl⟩ ⟨_, ho2, rfl⟩ noFill_tuple_add seq_tuple_add PySem.F.slot_tuple_add PySem.F.entry_tuple_add (PySem.F.args_tuple_add_2 _ _)
      (tuple_addW2 t b vs.toArray ws.toArray n n2 dd dd2 sl sl2 (by simpa using hv) (by simpa using hw) (by rw [List.size_toArray, List.size_toArray]; exact hsz)) ⟨ho, ho2, ?_⟩
    rw [e]
    exact h2 hw

/-! ### t[a:b], not the whole -/
/-- a slice's bound as a place among n (d where it is left out) -/
def sIx (n d : Nat) : Option Int → Nat
  | none => d
  | some v => if v < 0 then (v + (n : Int)).toNat else min v.toNat n
theorem sIx_none (n d : Nat) : sIx n d none = d := rfl
theorem sIx_nat (n d k : Nat) : sIx n d (some (k : Int)) = min k n := by
  show (if (k : Int) < 0 then ((k : Int) + (n : Int)).toNat else min (k : Int).toNat n) = min k n
  rw [if_neg (by omega), Int.toNat_natCast]
theorem sIx_le (n d : Nat) (hd : d ≤ n) (o : Option Int) : sIx n d o ≤ n := by
  cases o with
  | none => exact hd
  | some v =>
    show (if v < 0 then (v + (n : Int)).toNat else min v.toNat n) ≤ n
    by_cases hv : v < 0
    · rw [if_pos hv]; omega
    · rw [if_neg hv]; exact Nat.min_le_right _ _
theorem clip_eq (v : Int) (n d : Nat) : (if v < 0 then max (v + (n : Int)) 0 else min v (n : Int)) = ((sIx n d (some v) : Nat) : Int) := by
  show (if v < 0 then max (v + (n : Int)) 0 else min v (n : Int)) = (((if v < 0 then (v + (n : Int)).toNat else min v.toNat n) : Nat) : Int)
  by_cases hv : v < 0
  · simp only [if_pos hv]; omega
  · simp only [if_neg hv]; omega
theorem adjust_gen (lo hi : Option Int) (n : Nat) : Builtin.Slice.sliceAdjust lo hi 1 (n : Int) = (((sIx n 0 lo : Nat) : Int), ((sIx n n hi : Nat) : Int)) := by
  have h1 : ¬ ((1 : Int) < 0) := by omega
  unfold Builtin.Slice.sliceAdjust
  simp only [h1, if_false]
  refine Prod.ext ?_ ?_
  · cases lo with
    | none => rfl
    | some v => exact clip_eq v n 0
  · cases hi with
    | none => rfl
    | some v => exact clip_eq v n n
theorem places_gen (i j : Nat) : Builtin.Slice.slicePlaces (i : Int) (j : Int) 1 = j - i := by
  unfold Builtin.Slice.slicePlaces
  have h1 : (1 : Int) > 0 := by omega
  simp only [h1, if_true, Int.ediv_one]
  split <;> omega
theorem slicePart_ {v : Value} {o : Option Int} {Q : Option Int → Shared → Prop} (p : IsPart v o) (h : Q o s) : wpAny (model prog w) A (Builtin.Slice.slicePartIndex v) Q E s := by
  cases p with
  | none => exact slicePart_none h
  | int i t => exact slicePart_int h
theorem sliceApplied_gen {sl : Addr} {vl vu : Value} {lo hi : Option Int} {n : Nat} {Q : Int × Int × Nat → Shared → Prop} (hs : s.heap.IsSliceOf sl vl vu .none) (pl : IsPart vl lo) (pu : IsPart vu hi)
    (h : Q (((sIx n 0 lo : Nat) : Int), 1, sIx n n hi - sIx n 0 lo) s) : wpAny (model prog w) A (Builtin.Slice.sliceApplied (.ref sl) (pure (n : Int))) Q E s := by
  obtain ⟨os, hos, hcs, hds⟩ := id hs
  unfold Builtin.Slice.sliceApplied Builtin.Slice.sliceFields
  refine wpAny_bind (wpAny_bind (wpAny_field hos hds (x := vl) rfl (wpAny_bind (wpAny_field hos hds (x := vu) rfl (wpAny_bind (wpAny_field hos hds (x := .none) rfl (wpAny_pure ?_)))))))
  refine wpAny_bind (slicePart_none ?_)
  show wpAny _ _ (if ((1 : Int) == 0) = true then _ else _) _ _ s
  rw [if_neg (by decide)]
  refine wpAny_bind (slicePart_ pl (wpAny_bind (slicePart_ pu (wpAny_bind (wpAny_pure ?_)))))
  show wpAny _ _ (match Builtin.Slice.sliceAdjust lo hi 1 (n : Int) with | (lo, hi) => pure (lo, (1 : Int), Builtin.Slice.slicePlaces lo hi 1)) _ _ s
  rw [adjust_gen lo hi n]
  show wpAny _ _ (pure (((sIx n 0 lo : Nat) : Int), (1 : Int), Builtin.Slice.slicePlaces ((sIx n 0 lo : Nat) : Int) ((sIx n n hi : Nat) : Int) 1)) _ _ s
  rw [places_gen]
  exact wpAny_pure h
theorem pick_gen (xs : Array Value) (i k : Nat) : ((List.range k).filterMap fun (m : Nat) => xs[((i : Int) + (m : Int) * 1).toNat]?).toArray = ((xs.toList.drop i).take k).toArray := by
  have e : (fun (m : Nat) => xs[((i : Int) + (m : Int) * 1).toNat]?) = fun m => xs[i + m]? := by
    funext m
    have : ((i : Int) + (m : Int) * 1).toNat = i + m := by omega
    rw [this]
  rw [e]
  have := pick_run xs i k
  rw [List.filterMap_map] at this
  have e2 : ((fun x => xs[x]?) ∘ fun x => i + x) = fun m => xs[i + m]? := rfl
  rw [e2] at this
  rw [this]

theorem getItem_tuple_cut {t sl : Addr} {items : Array Value} {vl vu : Value} {lo hi : Option Int} {Q : Value → Shared → Prop} (ht : IsTup s.heap t items) (hs : s.heap.IsSliceOf sl vl vu .none) (pl : IsPart vl lo) (pu : IsPart vu hi)
    (hw : ¬ (sIx items.size 0 lo = 0 ∧ sIx items.size items.size hi = items.size))
    (h : Q (.ref s.heap.objs.size) { s with heap := s.heap.push { cls := .type "tuple", data := .seq ((items.toList.drop (sIx items.size 0 lo)).take (sIx items.size items.size hi - sIx items.size 0 lo)).toArray } })
    (hsz : items.size ≤ sizeLine) : wpAny (model prog w) A (getItem (.ref t) (.ref sl)) Q E s := by
  have htake : sizeOk (.seq ((items.toList.drop (sIx items.size 0 lo)).take (sIx items.size items.size hi - sIx items.size 0 lo)).toArray) := by
    show ((items.toList.drop (sIx items.size 0 lo)).take (sIx items.size items.size hi - sIx items.size 0 lo)).toArray.size ≤ sizeLine
    rw [List.size_toArray, List.length_take, List.length_drop, Array.length_toList]
    omega
  have hj : sIx items.size items.size hi ≤ items.size := sIx_le _ _ (Nat.le_refl _) hi
  obtain ⟨os, hos, hcs, hds⟩ := id hs
  have hTs : s.TypeIs (.ref sl) "slice" := ⟨os, hos, hcs⟩
  unfold getItem
  try with_reducible refine wpAny_holding ?_
  first | refine wpAny_bind (wpAny_pure ?_) | skip
  refine wpAny_bind (wpAny_sequenceKey ht.typeIs (by decide) ?_)
  refine wpAny_bind (wpAny_callSpecial?_slot (name := Str.ofString "__getitem__") ht.typeIs PyProof.Rows.slot_tuple_getitem
    (wpAny_call_entry PyProof.Rows.slot_tuple_getitem ht.typeIs entry_tuple_getitem ?_ (args_tuple_getitem _ _)))
  show wpAny _ _ (Builtin.Tuple.tupleItemsOf (.ref t) >>= _) _ _ s
  refine wpAny_bind (tupleItemsOf_ ht ?_)
  refine wpAny_bind (wpAny_typeOf hTs ?_)
  rw [if_pos (by decide)]
  refine wpAny_bind (sliceApplied_gen hs pl pu ?_)
  have hno : ¬ ((((sIx items.size 0 lo : Nat) : Int) == 0 && (1 : Int) == 1 && (sIx items.size items.size hi - sIx items.size 0 lo) == items.size) = true) := by
    intro q
    rw [Bool.and_eq_true, Bool.and_eq_true] at q
    have q1 : ((sIx items.size 0 lo : Nat) : Int) = 0 := eq_of_beq q.1.1
    have q2 : sIx items.size items.size hi - sIx items.size 0 lo = items.size := eq_of_beq q.2
    exact hw ⟨by omega, by omega⟩
  show wpAny _ _ (if (((sIx items.size 0 lo : Nat) : Int) == 0 && (1 : Int) == 1 && (sIx items.size items.size hi - sIx items.size 0 lo) == items.size) = true then _ else _) _ _ s
  rw [if_neg hno, pick_gen]
  first
    | exact wpAny_bind (m := Builtin.Tuple.tupleExact _) (wpAny_newObj_type (wpAny_pure ⟨_, rfl, wpAny_pure h⟩) htake)
    | exact wpAny_bind (m := Builtin.Tuple.tupleExact _) (wpAny_newObj_type (wpAny_bind (wpAny_pure (wpAny_pure ⟨_, rfl, wpAny_pure h⟩))) htake)
    | exact wpAny_bind (wpAny_bind (m := Builtin.Tuple.tupleExact _) (wpAny_newObj_type (wpAny_pure (wpAny_pure ⟨_, rfl, wpAny_pure h⟩)) htake))
    | exact wpAny_bind (wpAny_bind (m := Builtin.Tuple.tupleExact _) (wpAny_newObj_type (wpAny_pure ⟨_, rfl, wpAny_pure h⟩) htake))
end
end HT

namespace L2
open PySem PySem.Spec PyProof.Rows

/-! ### the parts of a slice -/
abbrev TO := St → Hp → (Option Int → Hp → Prop) → Prop
/-- a slice's part (left out, or an int) -/
def PO (X : Cx) (e : Option Expr) (t : TO) : Prop :=
  ∀ (pins : List (Addr × Obj)) (s : Shared) (σ : St) (H : Hp) (Q : Option Int → Hp → Prop), Inv X pins σ H s → t σ H Q →
    wpAny (model X.prog X.w) X.A (evalPart e X.env) (fun u s' => ∃ o H', Inv X pins σ H' s' ∧ IsPart u o ∧ Q o H') X.xe s
def tNoPart : TO := fun _ H Q => Q none H
def tPart (t : TE) : TO := fun σ H Q => t σ H fun x H1 => ∃ i, x = .int i ∧ Q (some i) H1

theorem intsAre_of {ns : List Int} : ∀ {us : List Value}, Vals (ns.map V.int) us → IntsAre us ns := by
  induction ns with
  | nil => intro us r; rw [List.map_nil] at r; cases r; exact .nil
  | cons n ns ih =>
    intro us r
    rw [List.map_cons] at r
    cases r with
    | cons r1 r2 =>
      obtain ⟨t, e⟩ := r1
      subst e
      exact .cons n t (ih r2)

section
variable {X : Cx} {e : Expr} {te : TE} {lo hi : Option Expr} {tl th : TO} {pos p2 : Pos}

theorem po_none : PO X none tNoPart := by
  intro pins s σ H Q I h
  rw [evalPart_none]
  exact wpAny_pure ⟨none, H, I, .none, h⟩
theorem po_some (h : PE X e te) : PO X (some e) (tPart te) := by
  intro pins s σ H Q I hw
  rw [evalPart_some]
  refine thn (h pins s σ H _ I hw) fun u s1 ⟨x, H1, I1, r1, q1⟩ => ?_
  obtain ⟨i, rfl, q⟩ := q1
  obtain ⟨t, rfl⟩ := r1
  exact ⟨some i, H1, I1, .int i t, q⟩

/-- what a slice of a value is, by values: the slice object stands at sl -/
def SlR (X : Cx) (r : V → Option Int → Option Int → Hp → VK → Prop) : Prop :=
  ∀ (pins : List (Addr × Obj)) (s : Shared) (σ : St) (H : Hp) (x : V) (v vl vu : Value) (lo hi : Option Int) (sl : Addr) (Q : VK), Inv X pins σ H s → RelV x v → s.heap.IsSliceOf sl vl vu .none → IsPart vl lo → IsPart vu hi → r x lo hi H Q →
    ∃ T id, typeLookup (.type T) "__getitem__" = pure (some (.builtin id)) ∧ s.TypeIs v T ∧ wpAny (model X.prog X.w) X.A (getItem v (.ref sl)) (EP X pins σ Q) X.xe s
theorem SlR.or {r r' : V → Option Int → Option Int → Hp → VK → Prop} (h : SlR X r) (h' : SlR X r') : SlR X (fun x lo hi H Q => r x lo hi H Q ∨ r' x lo hi H Q) := by
  intro pins s σ H x v vl vu lo hi sl Q I rx hs pl pu q
  rcases q with q | q
  · exact h pins s σ H x v vl vu lo hi sl Q I rx hs pl pu q
  · exact h' pins s σ H x v vl vu lo hi sl Q I rx hs pl pu q
def tSl (r : V → Option Int → Option Int → Hp → VK → Prop) (te : TE) (tl th : TO) : TE := fun σ H Q => te σ H fun x H1 => tl σ H1 fun l H2 => th σ H2 fun u H3 => r x l u H3 Q
/-- a[lo:hi], any a -/
theorem pe_slice {r : V → Option Int → Option Int → Hp → VK → Prop} (hr : SlR X r) (he : PE X e te) (hl : PO X lo tl) (hu : PO X hi th) : PE X (.Subscript e (.Slice lo hi none p2) pos) (tSl r te tl th) := by
  intro pins s σ H Q I h
  refine Subscript_ (thn (he pins s σ H _ I h) fun v s1 ⟨x, H1, I1, r1, q1⟩ => ?_)
  refine wpAny_Slice (thn (hl pins s1 σ H1 _ I1 q1) fun vl s2 ⟨l, H2, I2, pl, q2⟩ => thn (hu pins s2 σ H2 _ I2 q2) fun vu s3 ⟨u, H3, I3, pu, q3⟩ => ?_)
  rw [evalPart_none]
  refine wpAny_pure ?_
  have I4 : Inv X pins σ H3 { s3 with heap := s3.heap.push { cls := .type "slice", data := .fields #[vl, vu, .none] } } := I3.kept (t' := s3.toks) fun b ob q => Heap.get?_push_of_some _ q
  obtain ⟨T, id, hT, ht, hg⟩ := hr pins { s3 with heap := s3.heap.push { cls := .type "slice", data := .fields #[vl, vu, .none] } } σ H3 x v vl vu l u s3.heap.objs.size Q I4 r1 (Heap.IsSliceOf.new ..) pl pu q3
  show wpAny (model X.prog X.w) X.A (subscriptTail e (.Slice lo hi none p2) v (.ref s3.heap.objs.size)) (EP X pins σ Q) X.xe { s3 with heap := s3.heap.push { cls := .type "slice", data := .fields #[vl, vu, .none] } }
  exact tail_any (ops := [.ref s3.heap.objs.size, v]) ht hT hg (by with_unfolding_all rfl)

/-- the items of xs[lo:hi] -/
def cutV (xs : List V) (lo hi : Option Int) : List V := (xs.drop (HT.sIx xs.length 0 lo)).take (HT.sIx xs.length xs.length hi - HT.sIx xs.length 0 lo)
theorem cutV_length (xs : List V) (lo hi : Option Int) : (cutV xs lo hi).length ≤ xs.length := by
  unfold cutV
  rw [List.length_take, List.length_drop]
  omega
/-- t[lo:hi], not the whole of it (the whole would be t itself) -/
def rSlT (K : PySem.W.Frag) : V → Option Int → Option Int → Hp → VK → Prop := fun x lo hi H Q => ∃ a xs, x = .ref a ∧ SqT K H a xs ∧
  ¬ (HT.sIx xs.length 0 lo = 0 ∧ HT.sIx xs.length xs.length hi = xs.length) ∧ ∀ p, H p = none → Q (.ref p) (upd H p (.tup (cutV xs lo hi)))
theorem sl_tup : SlR X (rSlT X.K) := by
  intro pins s σ H x v vl vu lo hi sl Q I rx hs pl pu h
  obtain ⟨a, xs, rfl, hx, hw, q⟩ := h
  cases rx
  obtain ⟨its, r, ht, hz⟩ := I.tuple hx
  have hlen : its.toArray.size = xs.length := by rw [List.size_toArray]; exact r.length.symm
  refine ⟨"tuple", _, PyProof.Rows.slot_tuple_getitem.lookup, ht.typeIs, ?_⟩
  refine HT.getItem_tuple_cut ht hs pl pu (by rw [hlen]; exact hw) ?_ (by rw [hlen]; exact hz)
  rw [hlen]
  refine ⟨.ref s.heap.objs.size, _, I.laid (t' := s.toks) (o := .tup (cutV xs lo hi)) (fun b ob q => Heap.get?_push_of_some _ q) (Nat.le_refl _) ?_, rfl, q _ (I.hok.fresh (Nat.le_refl _))⟩
  exact ⟨Nat.le_trans (cutV_length xs lo hi) hz, _, (r.drop (HT.sIx xs.length 0 lo)).take (HT.sIx xs.length xs.length hi - HT.sIx xs.length 0 lo), IsTup.new _ _⟩

/-! ### t < u, t + u -/
def rLtT (K : PySem.W.Frag) : R2 := fun x y H Q => ∃ a b ns ms, x = .ref a ∧ y = .ref b ∧ SqT K H a (ns.map V.int) ∧ SqT K H b (ms.map V.int) ∧ Q (.bl (HT.lexLt ns ms)) H
theorem op_ltT (hu : X.A.units < cLine) : OpR X (compareOp .Lt) (rLtT X.K) := by
  intro pins s σ H x y v u Q I rx ry h
  obtain ⟨a, b, ns, ms, rfl, rfl, ha, hb, q⟩ := h
  cases rx
  cases ry
  obtain ⟨its, r1, p1, _⟩ := I.tuple ha
  obtain ⟨its2, r2, p2, _⟩ := I.tuple hb
  have i1 : IntsAre its.toArray.toList ns := intsAre_of r1
  have i2 : IntsAre its2.toArray.toList ms := intsAre_of r2
  exact HT.lt_tupInts p1 p2 i1 i2 hu ⟨.bl (HT.lexLt ns ms), H, I, rfl, q⟩
/-- t + u, t not empty: u empty gives t itself -/
def rCatT (K : PySem.W.Frag) : R2 := fun x y H Q => ∃ a b xs ys, x = .ref a ∧ y = .ref b ∧ SqT K H a xs ∧ SqT K H b ys ∧ xs ≠ [] ∧ xs.length + ys.length ≤ sizeLine ∧
  (ys = [] → Q (.ref a) H) ∧ (ys ≠ [] → ∀ p, H p = none → Q (.ref p) (upd H p (.tup (xs ++ ys))))
theorem Vals.nil_iff {xs : List V} {us : List Value} (r : Vals xs us) : us = [] ↔ xs = [] := by
  cases r with
  | nil => simp
  | cons _ _ => simp
theorem op_catT : OpR X (binaryOp .Add) (rCatT X.K) := by
  intro pins s σ H x y v u Q I rx ry h
  obtain ⟨a, b, xs, ys, rfl, rfl, ha, hb, hx, hz, q1, q2⟩ := h
  cases rx
  cases ry
  obtain ⟨its, r1, p1, _⟩ := I.tuple ha
  obtain ⟨its2, r2, p2, _⟩ := I.tuple hb
  refine HT.cat_tup p1 p2 (fun z => hx (r1.nil_iff.mp z)) (fun z => ⟨.ref a, H, I, rfl, q1 (r2.nil_iff.mp z)⟩) (fun z => ?_) (by rw [← r1.length, ← r2.length]; exact hz)
  refine ⟨.ref s.heap.objs.size, _, I.laid (t' := s.toks) (o := .tup (xs ++ ys)) (fun b ob q => Heap.get?_push_of_some _ q) (Nat.le_refl _) ?_, rfl, q2 (fun w => z (r2.nil_iff.mpr w)) _ (I.hok.fresh (Nat.le_refl _))⟩
  exact ⟨by rw [List.length_append]; exact hz, _, r1.append r2, IsTup.new _ _⟩
/-- tuple(t) -/
theorem call_tupleT : CallR X (.type "tuple") (fun xs H Q => ∃ a ys, xs = [.ref a] ∧ SqT X.K H a ys ∧ Q (.ref a) H) := by
  intro pins s σ H xs us Q I r h
  obtain ⟨a, ys, rfl, ha, q⟩ := h
  obtain ⟨u, rfl, ru⟩ := vals1 r
  cases ru
  obtain ⟨its, _, p1, _⟩ := I.tuple ha
  exact call_tuple_same (items := its.toArray) p1 ⟨.ref a, H, I, rfl, q⟩
end
end L2

namespace L2
open PySem PySem.Spec PyProof.Rows

/-! ### places -/
/-- the place that an index of any sign means -/
def ixN (n : Nat) (i : Int) : Option Nat := if 0 ≤ i then (if i < n then some i.toNat else none) else if -(n : Int) ≤ i then some (i + n).toNat else none
def atI {α : Type} (xs : List α) (i : Int) : Option α := (ixN xs.length i).bind fun j => xs[j]?
theorem ixN_seq {n : Nat} {i : Int} {j : Nat} (h : ixN n i = some j) : seqIndex? i n = some j ∧ j < n ∧ -(n : Int) ≤ i ∧ i < n := by
  unfold ixN at h
  by_cases h0 : 0 ≤ i
  · rw [if_pos h0] at h
    by_cases h1 : i < n
    · rw [if_pos h1] at h
      have e : i.toNat = j := Option.some.inj h
      exact ⟨by rw [seqIndex_of h0 h1, e], by omega, by omega, h1⟩
    · rw [if_neg h1] at h; cases h
  · rw [if_neg h0] at h
    by_cases h1 : -(n : Int) ≤ i
    · rw [if_pos h1] at h
      have e : (i + n).toNat = j := Option.some.inj h
      exact ⟨by rw [seqIndex_neg (by omega) h1, e], by omega, h1, by omega⟩
    · rw [if_neg h1] at h; cases h
theorem atI_get {α : Type} {xs : List α} {i : Int} {v : α} (h : atI xs i = some v) : ∃ j, seqIndex? i xs.length = some j ∧ xs[j]? = some v ∧ j < xs.length ∧ -(xs.length : Int) ≤ i ∧ i < xs.length := by
  unfold atI at h
  cases e : ixN xs.length i with
  | none => rw [e] at h; cases h
  | some j =>
    rw [e] at h
    obtain ⟨h1, h2, h3, h4⟩ := ixN_seq e
    exact ⟨j, h1, h, h2, h3, h4⟩
theorem atI_nat {α : Type} {xs : List α} {j : Nat} {v : α} (h : xs[j]? = some v) : atI xs (j : Int) = some v := by
  have hj : j < xs.length := (List.getElem?_eq_some_iff.mp h).1
  have e : ixN xs.length (j : Int) = some j := by
    unfold ixN
    rw [if_pos (by omega), if_pos (by omega)]; simp
  unfold atI; rw [e]; exact h
theorem atI_last {α : Type} (xs : List α) (v : α) : atI (xs ++ [v]) (-1) = some v := by
  have hl : (xs ++ [v]).length = xs.length + 1 := by simp
  have e : ixN (xs ++ [v]).length (-1) = some xs.length := by
    unfold ixN
    rw [hl, if_neg (by decide), if_pos (by omega)]
    congr 1
    omega
  unfold atI
  rw [e]
  show (xs ++ [v])[xs.length]? = some v
  simp

/-! ### what may be subscripted -/
/-- what stands as an index of a plain subscript -/
def PlainIx (b : Expr) : Prop := ∀ o i, subscripted b false o i = operate [o, i] (getItem o i)
/-- a subscript by values -/
def IxR (X : Cx) (r : R2) : Prop :=
  ∀ (value slice : Expr) (pins : List (Addr × Obj)) (s : Shared) (σ : St) (H : Hp) (x y : V) (v u : Value) (Q : VK), Inv X pins σ H s → RelV x v → RelV y u → r x y H Q →
    subscripted slice false v u = operate [v, u] (getItem v u) → wpAny (model X.prog X.w) X.A (subscriptTail value slice v u) (EP X pins σ Q) X.xe s
/-- a call of a builtin's method by values: the receiver, the arguments -/
def MtR (X : Cx) (id : String) (r : V → List V → Hp → VK → Prop) : Prop :=
  ∀ (pins : List (Addr × Obj)) (s : Shared) (σ : St) (H : Hp) (x : V) (xs : List V) (v : Value) (us : List Value) (Q : VK), Inv X pins σ H s → RelV x v → Vals xs us → r x xs H Q →
    wpAny (model X.prog X.w) X.A (call (.builtin id) (v :: us)) (EP X pins σ Q) X.xe s
section
variable {X : Cx} {a b : Expr} {ta tb : TE} {pos : Pos}
theorem IxR.or {r r' : R2} (h : IxR X r) (h' : IxR X r') : IxR X (fun x y H Q => r x y H Q ∨ r' x y H Q) := by
  intro value slice pins s σ H x y v u Q I rx ry q hs
  rcases q with q | q
  · exact h value slice pins s σ H x y v u Q I rx ry q hs
  · exact h' value slice pins s σ H x y v u Q I rx ry q hs
theorem MtR.or {id : String} {r r' : V → List V → Hp → VK → Prop} (h : MtR X id r) (h' : MtR X id r') : MtR X id (fun x xs H Q => r x xs H Q ∨ r' x xs H Q) := by
  intro pins s σ H x xs v us Q I rx rs q
  rcases q with q | q
  · exact h pins s σ H x xs v us Q I rx rs q
  · exact h' pins s σ H x xs v us Q I rx rs q
/-- a[b] -/
theorem pe_ix {r : R2} (hr : IxR X r) (ha : PE X a ta) (hb : PE X b tb) (hs : PlainIx b) : PE X (.Subscript a b pos) (tOp r ta tb) := by
  intro pins s σ H Q I h
  exact Subscript_ (binT ha hb I h fun v u s2 x y H2 I2 rx ry q => hr a b pins s2 σ H2 x y v u Q I2 rx ry q (hs _ _))

def rIxL (K : PySem.W.Frag) : R2 := fun x y H Q => ∃ p xs i v, x = .ref p ∧ y = .int i ∧ SqL K H p xs ∧ atI xs i = some v ∧ Q v H
def rIxT (K : PySem.W.Frag) : R2 := fun x y H Q => ∃ p xs i v, x = .ref p ∧ y = .int i ∧ SqT K H p xs ∧ atI xs i = some v ∧ Q v H
def rIxS : R2 := fun x y H Q => ∃ z i c, x = .str z ∧ y = .int i ∧ z.length ≤ sizeLine ∧ atI z.cps.toList i = some c ∧ Q (.str ⟨#[c]⟩) H
theorem ix_list : IxR X (rIxL X.K) := by
  intro value slice pins s σ H x y v u Q I rx ry h hs
  obtain ⟨p, xs, i, z, rfl, rfl, hq, he, q⟩ := h
  cases rx
  obtain ⟨t, rfl⟩ := ry
  obtain ⟨its, r, pl, hz⟩ := I.list hq
  obtain ⟨j, h1, h2, h3, h4, h5⟩ := atI_get he
  obtain ⟨w, ew, rw'⟩ := r.get h2
  have hl := r.length
  have hn := line63
  have fin : EP X pins σ Q w s := ⟨z, H, I, rw', q⟩
  by_cases h0 : 0 ≤ i
  · have hj : i.toNat = j := by
      rw [seqIndex_of h0 h5] at h1
      exact Option.some.inj h1
    exact item_listR pl.isList h0 (by omega) (by rw [hj]; simpa using ew) fin hs
  · have hj : (i + (its.toArray.size : Int)).toNat = j := by
      rw [seqIndex_neg (by omega) h4] at h1
      rw [List.size_toArray, ← hl]
      exact Option.some.inj h1
    exact subscriptTail_builtinR (x := w) pl.isList.typeIs slot_list_getitem.lookup
      (wpAny_getItem_list_neg (Q := fun r s' => r = w ∧ EP X pins σ Q r s') pl.isList (by omega) (by rw [List.size_toArray] <;> omega) (by omega) (by rw [hj]; simpa using ew) ⟨rfl, fin⟩) hs
theorem ix_tup : IxR X (rIxT X.K) := by
  intro value slice pins s σ H x y v u Q I rx ry h hs
  obtain ⟨p, xs, i, z, rfl, rfl, hq, he, q⟩ := h
  cases rx
  obtain ⟨t, rfl⟩ := ry
  obtain ⟨its, r, pl, hz⟩ := I.tuple hq
  obtain ⟨j, h1, h2, h3, h4, h5⟩ := atI_get he
  obtain ⟨w, ew, rw'⟩ := r.get h2
  have hl := r.length
  have hn := line63
  have fin : EP X pins σ Q w s := ⟨z, H, I, rw', q⟩
  exact subscriptTail_builtinR (x := w) pl.typeIs slot_tuple_getitem.lookup
    (getItem_tuple (j := j) (Q := fun r s' => r = w ∧ EP X pins σ Q r s') pl (by omega) (by omega) (by rw [List.size_toArray, ← hl]; exact h1) (by simpa using ew) ⟨rfl, fin⟩) hs
theorem ix_str : IxR X rIxS := by
  intro value slice pins s σ H x y v u Q I rx ry h hs
  obtain ⟨z, i, c, rfl, rfl, hz, he, q⟩ := h
  obtain ⟨t, rfl⟩ := rx
  obtain ⟨t', rfl⟩ := ry
  obtain ⟨j, h1, h2, h3, h4, h5⟩ := atI_get he
  have hl : z.cps.toList.length = z.length := by simp [Str.length]
  rw [hl] at h1 h4 h5
  have hn := line63
  exact tail_any (typeIs_str s z t) slot_str_getitem.lookup (getItem_str (c := c) (by
    have e1 : decide (i < -(2 ^ 63 : Int)) = false := decide_eq_false (by omega)
    have e2 : decide (i ≥ 2 ^ 63) = false := decide_eq_false (by omega)
    rw [e1, e2, Bool.or_false]) (by rw [h1]; simpa using h2) ⟨.str ⟨#[c]⟩, H, I.tok _, ⟨_, rfl⟩, q⟩) hs
/-- list, tuple or str -/
def rIx (K : PySem.W.Frag) : R2 := fun x y H Q => rIxL K x y H Q ∨ rIxT K x y H Q ∨ rIxS x y H Q
theorem ix_seq : IxR X (rIx X.K) := ix_list.or (ix_tup.or ix_str)

/-! ### xs[i] = v, any sign -/
/-- the list's object behind a store -/
theorem mapSeq_set (its : List Value) (n j : Nat) (u : Value) : Obj.mapSeq (·.setIfInBounds j u) { cls := .type "list", data := .seq its.toArray n } = { cls := .type "list", data := .seq (its.set j u).toArray n } := by
  simp [Obj.mapSeq]
theorem Inv.lst {pins : List (Addr × Obj)} {σ : St} {H : Hp} {s : Shared} {p : Addr} {xs : List V} (I : Inv X pins σ H s) (h : H p = some (.lst xs)) :
    ∃ (its : List Value) (n : Nat), Vals xs its ∧ s.heap.get? p = some { cls := .type "list", data := .seq its.toArray n } ∧ xs.length ≤ sizeLine := by
  obtain ⟨z, its, n, r, e⟩ := I.hok p _ h
  exact ⟨its, n, r, e, z⟩
/-- the list at p is written by an update of its object -/
theorem Inv.lstUpd {pins : List (Addr × Obj)} {σ : St} {H : Hp} {s : Shared} {p : Addr} {xs ys : List V} {its its' : List Value} {n n' : Nat} {f : Obj → Obj} (I : Inv X pins σ H s) (h : H p = some (.lst xs))
    (ho : s.heap.get? p = some { cls := .type "list", data := .seq its.toArray n }) (hf : f { cls := .type "list", data := .seq its.toArray n } = { cls := .type "list", data := .seq its'.toArray n' }) (r : Vals ys its') (hz : ys.length ≤ sizeLine) (t : Nat) :
    Inv X pins σ (upd H p (.lst ys)) { s with heap := s.heap.update p f, toks := t } := by
  have e : (s.heap.update p f).get? p = some { cls := .type "list", data := .seq its'.toArray n' } := by
    rw [Heap.get?_update_self f ho (by rw [hf] <;> rfl), hf]
  refine I.write (x := p) (e := p) (by rw [h]; trivial) (.inl rfl) (fun b u hb q => (Heap.get?_update_other _ _ (Ne.symm hb)).trans q) ⟨_, e⟩ ?_
  exact ⟨hz, its', n', r, e⟩
def rSetL : V → V → V → Hp → (Hp → Prop) → Prop := fun o i v H Q => ∃ p xs k j, o = .ref p ∧ i = .int k ∧ H p = some (.lst xs) ∧ ixN xs.length k = some j ∧ Q (upd H p (.lst (xs.set j v)))
theorem set_list : PSet X rSetL := by
  intro pins s σ H o i v ov iv u Q I ro ri rv h
  obtain ⟨p, xs, k, j, rfl, rfl, hp, hj, q⟩ := h
  cases ro
  obtain ⟨t, rfl⟩ := ri
  obtain ⟨its, n, r, ho, hz⟩ := I.lst hp
  obtain ⟨h1, h2, h3, h4⟩ := ixN_seq hj
  have hl := r.length
  have hn := line63
  have I' : Inv X pins σ (upd H p (.lst (xs.set j v))) { s with heap := s.heap.update p (Obj.mapSeq (·.setIfInBounds j u)) } :=
    I.lstUpd hp ho (mapSeq_set its n j u) (r.set rv j) (by rw [List.length_set]; exact hz) s.toks
  by_cases h0 : 0 ≤ k
  · have hk : k.toNat = j := by
      rw [seqIndex_of h0 h4] at h1
      exact Option.some.inj h1
    exact PySem.W.ki_setAt ho h0 (by omega) (by rw [List.size_toArray, ← hl]; exact h4) (by rw [hk]; exact ⟨_, I', q⟩)
  · have hk : (k + (its.toArray.size : Int)).toNat = j := by
      rw [seqIndex_neg (by omega) h3] at h1
      rw [List.size_toArray, ← hl]
      exact Option.some.inj h1
    exact PySem.W.ki_setBack ho (by omega) (by rw [List.size_toArray, ← hl]; exact h3) (by omega) (by rw [hk]; exact ⟨_, I', q⟩)

/-! ### slices -/
theorem slice_bounds (lo hi : Option Int) (n : Nat) : (sliceBounds lo hi none n).1 = ((HT.sIx n 0 lo : Nat) : Int) ∧ (sliceBounds lo hi none n).2.1 = ((HT.sIx n n hi : Nat) : Int) ∧ (sliceBounds lo hi none n).2.2 = 1 := by
  refine ⟨?_, ?_, rfl⟩
  · cases lo with
    | none => simp [sliceBounds, HT.sIx]
    | some i =>
      simp only [sliceBounds, HT.sIx, Option.getD_none, show (1 : Int) > 0 by decide, if_true]
      by_cases h : i < 0
      · simp only [h, if_true] <;> omega
      · simp only [h, if_false] <;> omega
  · cases hi with
    | none => simp [sliceBounds, HT.sIx]
    | some i =>
      simp only [sliceBounds, HT.sIx, Option.getD_none, show (1 : Int) > 0 by decide, if_true]
      by_cases h : i < 0
      · simp only [h, if_true] <;> omega
      · simp only [h, if_false] <;> omega
theorem slicePick_cut (its : List Value) (lo hi : Option Int) : slicePick its.toArray lo hi none = ((its.drop (HT.sIx its.length 0 lo)).take (HT.sIx its.length its.length hi - HT.sIx its.length 0 lo)).toArray := by
  obtain ⟨h1, h2, h3⟩ := slice_bounds lo hi its.toArray.size
  unfold slicePick
  rw [h1, h2, h3]
  simp only [sliceRange_one, pick_run, List.size_toArray] <;> rfl
/-- xs[lo:hi] of a list: a new list -/
def rSlL (K : PySem.W.Frag) : V → Option Int → Option Int → Hp → VK → Prop := fun x lo hi H Q => ∃ a xs, x = .ref a ∧ SqL K H a xs ∧ ∀ p, H p = none → Q (.ref p) (upd H p (.lst (cutV xs lo hi)))
theorem sl_list : SlR X (rSlL X.K) := by
  intro pins s σ H x v vl vu lo hi sl Q I rx hs pl pu h
  obtain ⟨a, xs, rfl, hx, q⟩ := h
  cases rx
  obtain ⟨its, r, ht, hz⟩ := I.list hx
  have hlen := r.length
  refine ⟨"list", _, slot_list_getitem.lookup, ht.isList.typeIs, ?_⟩
  refine wpAny_getItem_list_slice ht.isList hs pl pu .none (by simp) ?_ (by rw [List.size_toArray] <;> omega)
  rw [slicePick_cut, ← hlen]
  refine ⟨.ref s.heap.objs.size, _, I.laid (t' := s.toks) (o := .lst (cutV xs lo hi)) (fun b ob q => Heap.get?_push_of_some _ q) (Nat.le_refl _) ?_, rfl, q _ (I.hok.fresh (Nat.le_refl _))⟩
  exact ⟨Nat.le_trans (cutV_length xs lo hi) hz, _, 0, (r.drop (HT.sIx xs.length 0 lo)).take (HT.sIx xs.length xs.length hi - HT.sIx xs.length 0 lo), Heap.get?_push_size _ rfl⟩

/-! ### in, not in: flat items -/
def flatV : V → Bool
  | .non => true
  | .bl _ => true
  | .int _ => true
  | .str _ => true
  | _ => false
/-- == of flat values -/
def eqV : V → V → Bool
  | .non, .non => true
  | .bl a, .bl b => a == b
  | .bl a, .int b => (if a then 1 else 0) == b
  | .int a, .bl b => a == (if b then 1 else 0)
  | .int a, .int b => a == b
  | .str a, .str b => a == b
  | _, _ => false
theorem eqAt_V {A : Around} {s : Shared} {y x : V} {u v : Value} (ry : RelV y u) (rx : RelV x v) (fy : flatV y = true) (fx : flatV x = true) : SeqAt.EqAt A s u v (eqV y x) := by
  cases y with
  | non =>
    cases ry
    cases x with
    | non => cases rx; exact SeqAt.EqAt.same _
    | bl b => cases rx; exact SeqAt.EqAt.none_bool b
    | int b => obtain ⟨t, rfl⟩ := rx; exact SeqAt.EqAt.none_int b t
    | str b => obtain ⟨t, rfl⟩ := rx; exact SeqAt.EqAt.none_str b t
    | _ => exact absurd (show false = true from fx) Bool.false_ne_true
  | bl a =>
    cases ry
    cases x with
    | non => cases rx; exact SeqAt.EqAt.bool_none a
    | bl b => cases rx; exact SeqAt.EqAt.bool_bool a b
    | int b => obtain ⟨t, rfl⟩ := rx; exact SeqAt.EqAt.bool_int a b t
    | str b => obtain ⟨t, rfl⟩ := rx; exact SeqAt.EqAt.bool_str a b t
    | _ => exact absurd (show false = true from fx) Bool.false_ne_true
  | int a =>
    obtain ⟨t', rfl⟩ := ry
    cases x with
    | non => cases rx; exact SeqAt.EqAt.int_none a t'
    | bl b => cases rx; exact SeqAt.EqAt.int_bool a t' b
    | int b => obtain ⟨t, rfl⟩ := rx; exact SeqAt.EqAt.int_int a t' b t
    | str b => obtain ⟨t, rfl⟩ := rx; exact SeqAt.EqAt.int_str a t' b t
    | _ => exact absurd (show false = true from fx) Bool.false_ne_true
  | str a =>
    obtain ⟨t', rfl⟩ := ry
    cases x with
    | non => cases rx; exact SeqAt.EqAt.str_none a t'
    | bl b => cases rx; exact SeqAt.EqAt.str_bool a t' b
    | int b => obtain ⟨t, rfl⟩ := rx; exact SeqAt.EqAt.str_int a t' b t
    | str b => obtain ⟨t, rfl⟩ := rx; exact SeqAt.EqAt.str_str a t' b t
    | _ => exact absurd (show false = true from fx) Bool.false_ne_true
  | _ => exact absurd (show false = true from fy) Bool.false_ne_true
/-- the items' answers, read off the values (a value's own answer does not lean on its token) -/
def eqU (x : V) (u : Value) : Bool := match u with
  | .none => eqV .non x
  | .bool b => eqV (.bl b) x
  | .int i _ => eqV (.int i) x
  | .str z _ => eqV (.str z) x
  | _ => false
theorem eqU_of {x y : V} {u : Value} (r : RelV y u) (f : flatV y = true) : eqU x u = eqV y x := by
  cases y with
  | non => cases r; rfl
  | bl b => cases r; rfl
  | int i => obtain ⟨t, rfl⟩ := r; rfl
  | str z => obtain ⟨t, rfl⟩ := r; rfl
  | _ => exact absurd (show false = true from f) Bool.false_ne_true
theorem any_eqU {x : V} : ∀ {xs : List V} {us : List Value}, Vals xs us → xs.all flatV = true → us.any (eqU x) = xs.any fun y => eqV y x
  | _, _, .nil, _ => rfl
  | y :: xs, u :: us, .cons r t, f => by
    rw [List.all_cons, Bool.and_eq_true] at f
    rw [List.any_cons, List.any_cons, eqU_of r f.1, any_eqU t f.2]
theorem mem_eqAt {A : Around} {s : Shared} {x : V} {v : Value} (rx : RelV x v) (fx : flatV x = true) : ∀ {xs : List V} {us : List Value}, Vals xs us → xs.all flatV = true → ∀ u ∈ us, SeqAt.EqAt A s u v (eqU x u)
  | _, _, .nil, _ => fun u hu => by cases hu
  | y :: xs, u :: us, .cons r t, f => fun u' hu => by
    rw [List.all_cons, Bool.and_eq_true] at f
    rcases List.mem_cons.mp hu with rfl | hu
    · rw [eqU_of r f.1]; exact eqAt_V r rx f.1 fx
    · exact mem_eqAt rx fx t f.2 u' hu
def inV (x : V) (xs : List V) : Bool := xs.any fun y => eqV y x
/-- x in a list or tuple of flat items -/
def rIn (K : PySem.W.Frag) (neg : Bool) : R2 := fun x y H Q => ∃ p xs, y = .ref p ∧ (SqL K H p xs ∨ SqT K H p xs) ∧ flatV x = true ∧ xs.all flatV = true ∧ Q (.bl (if neg then !inV x xs else inV x xs)) H
theorem op_in_seq : OpR X (compareOp .In) (rIn X.K false) := by
  intro pins s σ H x y v u Q I rx ry h
  obtain ⟨p, xs, rfl, hq, fx, fs, q⟩ := h
  cases ry
  rcases hq with hq | hq
  · obtain ⟨its, r, pl, hz⟩ := I.list hq
    refine SeqAt.in_listAt (eqU x) pl.isList (fun w hw => mem_eqAt rx fx r fs w (by simpa using hw)) ⟨.bl _, H, I, rfl, ?_⟩
    rw [show its.toArray.any (eqU x) = its.any (eqU x) by simp, any_eqU r fs]
    exact q
  · obtain ⟨its, r, pl, hz⟩ := I.tuple hq
    refine SeqAt.in_tupleAt (eqU x) pl (fun w hw => mem_eqAt rx fx r fs w (by simpa using hw)) ⟨.bl _, H, I, rfl, ?_⟩
    rw [show its.toArray.any (eqU x) = its.any (eqU x) by simp, any_eqU r fs]
    exact q
theorem op_notIn_seq : OpR X (compareOp .NotIn) (rIn X.K true) := by
  intro pins s σ H x y v u Q I rx ry h
  obtain ⟨p, xs, rfl, hq, fx, fs, q⟩ := h
  cases ry
  rcases hq with hq | hq
  · obtain ⟨its, r, pl, hz⟩ := I.list hq
    refine SeqAt.notIn_listAt (eqU x) pl.isList (fun w hw => mem_eqAt rx fx r fs w (by simpa using hw)) ⟨.bl _, H, I, rfl, ?_⟩
    rw [show its.toArray.any (eqU x) = its.any (eqU x) by simp, any_eqU r fs]
    exact q
  · obtain ⟨its, r, pl, hz⟩ := I.tuple hq
    refine SeqAt.notIn_tupleAt (eqU x) pl (fun w hw => mem_eqAt rx fx r fs w (by simpa using hw)) ⟨.bl _, H, I, rfl, ?_⟩
    rw [show its.toArray.any (eqU x) = its.any (eqU x) by simp, any_eqU r fs]
    exact q
theorem op_notIn_str : OpR X (compareOp .NotIn) (fun x y H Q => ∃ i j, x = .str i ∧ y = .str j ∧ Q (.bl (!(!(Builtin.Str.occurrences j i 0 j.length 1).isEmpty))) H) := by
  intro pins s σ H x y v u Q I rx ry h
  obtain ⟨i, j, rfl, rfl, q⟩ := h
  obtain ⟨t, rfl⟩ := rx
  obtain ⟨t', rfl⟩ := ry
  exact notIn_str ⟨.bl _, H, I, rfl, q⟩

/-! ### len, list(x), tuple(x) of any list or tuple that is read -/
theorem call_len_seq : CallR X (.builtin "len") (fun xs H Q => ∃ p ys, xs = [.ref p] ∧ (SqL X.K H p ys ∨ SqT X.K H p ys) ∧ Q (.int ys.length) H) := by
  intro pins s σ H xs us Q I r h
  obtain ⟨p, ys, rfl, hq, q⟩ := h
  obtain ⟨u, rfl, rx⟩ := vals1 r
  cases rx
  have hn := line63
  rcases hq with hq | hq
  · obtain ⟨its, r', pl, hz⟩ := I.list hq
    have hlen := r'.length
    exact Calls.call_len_list pl.isList (by simp only [List.size_toArray] <;> omega) ⟨.int ys.length, H, I.tok _, ⟨s.toks + 1, by rw [List.size_toArray, hlen]⟩, q⟩
  · obtain ⟨its, r', pl, hz⟩ := I.tuple hq
    have hlen := r'.length
    exact len_tuple pl (by simp only [List.size_toArray] <;> omega) ⟨.int ys.length, H, I.tok _, ⟨s.toks + 1, by rw [List.size_toArray, hlen]⟩, q⟩
theorem call_len_str : CallR X (.builtin "len") (fun xs H Q => ∃ z, xs = [.str z] ∧ z.length ≤ sizeLine ∧ Q (.int z.length) H) := by
  intro pins s σ H xs us Q I r h
  obtain ⟨z, rfl, hz, q⟩ := h
  obtain ⟨u, rfl, t, rfl⟩ := vals1 r
  have hn := line63
  exact len_str (by omega) ⟨.int z.length, H, I.tok _, ⟨_, rfl⟩, q⟩
theorem CallR.or {f : Value} {r r' : List V → Hp → VK → Prop} (h : CallR X f r) (h' : CallR X f r') : CallR X f (fun xs H Q => r xs H Q ∨ r' xs H Q) := by
  intro pins s σ H xs us Q I rs q
  rcases q with q | q
  · exact h pins s σ H xs us Q I rs q
  · exact h' pins s σ H xs us Q I rs q
theorem call_list_of : CallR X (.type "list") (fun xs H Q => ∃ p ys, xs = [.ref p] ∧ (SqL X.K H p ys ∨ SqT X.K H p ys) ∧ ∀ l, H l = none → Q (.ref l) (upd H l (.lst ys))) := by
  intro pins s σ H xs us Q I r h
  obtain ⟨p, ys, rfl, hq, q⟩ := h
  obtain ⟨u, rfl, rx⟩ := vals1 r
  cases rx
  have fin : ∀ (its : List Value), Vals ys its → ys.length ≤ sizeLine → ∀ (h' : Heap) (c' : Nat), (∀ b o', s.heap.get? b = some o' → h'.get? b = some o') →
      h'.get? s.heap.objs.size = some { cls := .type "list", dict := none, data := .seq its.toArray c', slots := #[] } → EP X pins σ Q (.ref s.heap.objs.size) { s with heap := h' } := fun its r' hz h' c' kp e =>
    ⟨.ref s.heap.objs.size, _, I.laid (t' := s.toks) kp (Nat.le_refl _) (show ObjOk X.prog X.w _ h' _ (.lst ys) from ⟨hz, its, c', r', e⟩), rfl, q _ (I.hok.fresh (Nat.le_refl _))⟩
  rcases hq with hq | hq
  · obtain ⟨its, r', pl, hz⟩ := I.list hq
    have hlen := r'.length
    obtain ⟨o, ho, hc, n, hd⟩ := pl.isList
    exact call_list_seq p (.inl rfl) ho hc hd (fun h' c' kp e => fin its r' hz h' c' kp e) (by simp only [List.size_toArray] <;> omega)
  · obtain ⟨its, r', pl, hz⟩ := I.tuple hq
    have hlen := r'.length
    obtain ⟨o, ho, hc, n, hd⟩ := pl
    exact call_list_seq p (.inr rfl) ho hc hd (fun h' c' kp e => fin its r' hz h' c' kp e) (by simp only [List.size_toArray] <;> omega)
theorem call_tuple_of : CallR X (.type "tuple") (fun xs H Q => ∃ p ys, xs = [.ref p] ∧ ((SqL X.K H p ys ∧ ∀ l, H l = none → Q (.ref l) (upd H l (.tup ys))) ∨ (SqT X.K H p ys ∧ Q (.ref p) H))) := by
  intro pins s σ H xs us Q I r h
  obtain ⟨p, ys, rfl, h⟩ := h
  obtain ⟨u, rfl, rx⟩ := vals1 r
  cases rx
  rcases h with ⟨hq, q⟩ | ⟨hq, q⟩
  · obtain ⟨its, r', pl, hz⟩ := I.list hq
    have hlen := r'.length
    refine call_tuple_list pl.isList (fun h' kp => ?_) (by simp only [List.size_toArray] <;> omega)
    have I1 : Inv X pins σ H { s with heap := h' } := I.kept (t' := s.toks) kp
    have I2 : Inv X pins σ (upd H h'.objs.size (.tup ys)) { s with heap := h'.push { cls := .type "tuple", data := .seq its.toArray } } :=
      I1.laid (t' := s.toks) (fun b o e => Heap.get?_push_of_some _ e) (Nat.le_refl _) (show ObjOk X.prog X.w _ _ _ (.tup ys) from ⟨hz, its, r', IsTup.new _ _⟩)
    exact ⟨.ref h'.objs.size, _, I2, rfl, q _ (I1.hok.fresh (Nat.le_refl _))⟩
  · obtain ⟨its, r', pl, hz⟩ := I.tuple hq
    exact call_tuple_same pl ⟨.ref p, H, I, rfl, q⟩

/-! ### the call of a builtin's method: o.m(..) -/
/-- the value is of that builtin type -/
def tyV (K : PySem.W.Frag) (T : String) (x : V) (H : Hp) : Prop := match x with
  | .str _ => T = "str"
  | .int _ => T = "int"
  | .ref p => (T = "list" ∧ ∃ xs, SqL K H p xs) ∨ (T = "tuple" ∧ ∃ o, K.lookup p = some o ∧ o.cls = .type "tuple" ∧ o.dict = none) ∨
      (T = "dict" ∧ ((∃ kvs, H p = some (.dK kvs)) ∨ ∃ kvs, H p = some (.dT kvs))) ∨ (T = "set" ∧ ∃ S n, H p = some (.set S n))
  | _ => False
theorem tyV_is {pins : List (Addr × Obj)} {σ : St} {H : Hp} {s : Shared} {T : String} {x : V} {v : Value} (I : Inv X pins σ H s) (r : RelV x v) (ty : tyV X.K T x H) :
    s.TypeIs v T ∧ ∀ a, v = .ref a → ∃ ob, s.heap.get? a = some ob ∧ ob.dict = none := by
  cases x with
  | str z =>
    obtain ⟨t, rfl⟩ := r
    cases (show T = "str" from ty)
    exact ⟨typeIs_str s z t, fun _ e => nomatch e⟩
  | int i =>
    obtain ⟨t, rfl⟩ := r
    cases (show T = "int" from ty)
    exact ⟨typeIs_int s i t, fun _ e => nomatch e⟩
  | ref p =>
    cases r
    rcases ty with ⟨rfl, xs, hq⟩ | ⟨rfl, o, hk, hc, hd⟩ | ⟨rfl, hk⟩ | ⟨rfl, S, n, hk⟩
    · obtain ⟨its, _, pl, _⟩ := I.list hq
      refine ⟨pl.isList.typeIs, fun a e => ?_⟩
      cases e
      obtain ⟨o, n, e, c, hd, _⟩ := pl
      exact ⟨o, e, hd⟩
    · refine ⟨⟨o, I.kIn p o hk, hc⟩, fun a e => ?_⟩
      cases e
      exact ⟨o, I.kIn _ o hk, hd⟩
    · have z : ∃ o, s.heap.get? p = some o ∧ o.ExactDict := by
        rcases hk with ⟨kvs, hk⟩ | ⟨kvs, hk⟩
        · obtain ⟨_, _, _, _, o, _, _, e, ex, _⟩ := I.hok p _ hk
          exact ⟨o, e, ex⟩
        · obtain ⟨_, _, _, _, o, _, _, e, ex, _⟩ := I.hok p _ hk
          exact ⟨o, e, ex⟩
      obtain ⟨o, e, ex⟩ := z
      refine ⟨⟨o, e, ex.1⟩, fun a e2 => ?_⟩
      cases e2
      exact ⟨o, e, ex.2.1⟩
    · obtain ⟨o, _, _, _, e, ex, _⟩ := I.hok p _ hk
      refine ⟨⟨o, e, ex.1⟩, fun a e2 => ?_⟩
      cases e2
      exact ⟨o, e, ex.2.1⟩
  | _ => exact False.elim ty
def tBM0 (K : PySem.W.Frag) (T : String) (r : V → List V → Hp → VK → Prop) (to : TE) : TE := fun σ H Q => to σ H fun x H1 => tyV K T x H1 ∧ r x [] H1 Q
def tBM (K : PySem.W.Frag) (T : String) (r : V → List V → Hp → VK → Prop) (to : TE) (t : TA) : TE := fun σ H Q => to σ H fun x H1 => tyV K T x H1 ∧ t σ H1 fun xs H2 => r x xs H2 Q
variable {o e : Expr} {es : List Expr} {to : TE} {t : TA} {name : Str} {apos cpos : Pos} {T id : String} {r : V → List V → Hp → VK → Prop}
theorem pe_bm0 (pa : PlainAttrs T) (slot : Slot T name id) (hty : typeOf (.builtin id) = pure (.type "method_descriptor")) (hm : MtR X id r) (ho : PE X o to)
    (hbase : attributeBase o name X.env (eval o X.env) = eval o X.env := by rfl) (hline : (apos.endLine == cpos.line) = true := by rfl) : PE X (.Call (.Attribute o name apos) [] [] cpos) (tBM0 X.K T r to) := by
  intro pins s σ H Q I h
  refine wpAny_Call_method0_late hbase hline (thn (ho pins s σ H _ I h) fun v s1 ⟨x, H1, I1, r1, ty, q1⟩ => ?_)
  obtain ⟨h1, h2⟩ := tyV_is I1 r1 ty
  exact ⟨T, id, pa, slot, hty, h1, h2, Calls.callWith_builtin rfl (PySem.evalArgs_none (hm pins s1 σ H1 x [] v [] Q I1 r1 .nil q1))⟩
theorem pe_bm (pa : PlainAttrs T) (slot : Slot T name id) (hty : typeOf (.builtin id) = pure (.type "method_descriptor")) (hm : MtR X id r) (ho : PE X o to) (ha : PA X (e :: es) t)
    (hbase : attributeBase o name X.env (eval o X.env) = eval o X.env := by rfl)
    (hfew : ((backTo cpos (starEach (e :: es) X.env)).all (fun x => !x.1) && (backToKw cpos (keywordEach [] X.env)).all (fun x => x.1.isSome)
      && decide ((e :: es).length + ([] : List Keyword).length + (if ([] : List Keyword).isEmpty then 0 else 1) < 30)) = true := by rfl)
    (hline : (apos.endLine == cpos.line) = true := by rfl) (hs : starEach (e :: es) X.env = (false, eval e X.env) :: starEach es X.env := by rfl) (hplain : (backTo cpos (starEach es X.env)).any (·.1) = false := by rfl) :
    PE X (.Call (.Attribute o name apos) (e :: es) [] cpos) (tBM X.K T r to t) := by
  intro pins s σ H Q I h
  refine wpAny_Call_method_late hbase hfew hline rfl (thn (ho pins s σ H _ I h) fun v s1 ⟨x, H1, I1, r1, ty, q1⟩ => ?_)
  obtain ⟨h1, h2⟩ := tyV_is I1 r1 ty
  refine ⟨T, id, pa, slot, hty, h1, h2, ?_⟩
  have hA := ha cpos pins s1 σ H1 _ I1 q1
  rw [hs] at hA ⊢
  refine Calls.callWith_builtin (by show (false || (backTo cpos (starEach es X.env)).any (·.1)) = false; rw [hplain] <;> rfl) (Calls.evalArgs_plain ?_)
  exact thn hA fun us s2 ⟨vs, H2, I2, r2, q2⟩ => hm pins s2 σ H2 x vs v us Q I2 r1 r2 q2
/- xs.append(e), list.index on a module's tuple .. are MtR facts of 06m -/
end
end L2

namespace L2
open PySem PySem.Spec PyProof.Rows

def MtM (X : Cx) (id : String) (r : V → List V → Hp → VK → Prop) : Prop :=
  ∀ (pins : List (Addr × Obj)) (s : Shared) (σ : St) (H : Hp) (x : V) (xs : List V) (v : Value) (us : List Value) (Q : VK), Inv X pins σ H s → RelV x v → Vals xs us → r x xs H Q →
    wpAny (model X.prog X.w) X.A (call (.builtin id) (v :: us)) (EP X pins σ Q) X.xe s

/-! ### lists of values -/
theorem Vals.one : ∀ {x : V} {us : List Value}, Vals [x] us → ∃ u, us = [u] ∧ RelV x u
  | _, _, .cons r .nil => ⟨_, rfl, r⟩
theorem Vals.two : ∀ {x y : V} {us : List Value}, Vals [x, y] us → ∃ u v, us = [u, v] ∧ RelV x u ∧ RelV y v
  | _, _, _, .cons r (.cons q .nil) => ⟨_, _, rfl, r, q⟩
theorem Vals.zero : ∀ {us : List Value}, Vals [] us → us = []
  | _, .nil => rfl
theorem Vals.dropLast {xs : List V} {us : List Value} (h : Vals xs us) : Vals xs.dropLast us.dropLast := by
  induction h with
  | nil => exact .nil
  | cons r t ih =>
    cases t with
    | nil => exact .nil
    | cons q t' => exact .cons r ih
theorem Vals.eraseIdx : ∀ {xs : List V} {us : List Value} (i : Nat), Vals xs us → Vals (xs.eraseIdx i) (us.eraseIdx i)
  | _, _, _, .nil => .nil
  | _, _, 0, .cons _ t => t
  | _, _, i + 1, .cons r t => .cons r (Vals.eraseIdx i t)
theorem Vals.reverse {xs : List V} {us : List Value} (h : Vals xs us) : Vals xs.reverse us.reverse := by
  induction h with
  | nil => exact .nil
  | cons r t ih => rw [List.reverse_cons, List.reverse_cons]; exact Vals.append ih (.cons r .nil)
theorem Vals.rep {xs : List V} {us : List Value} (h : Vals xs us) : ∀ k : Nat, Vals (List.replicate k xs).flatten (List.replicate k us).flatten
  | 0 => .nil
  | k + 1 => by
    rw [List.replicate_succ, List.replicate_succ, List.flatten_cons, List.flatten_cons]
    exact Vals.append h (Vals.rep h k)
theorem erase_last {α : Type} (l : List α) : l.eraseIdx (l.length - 1) = l.dropLast := by
  induction l with
  | nil => rfl
  | cons a r ih =>
    cases r with
    | nil => rfl
    | cons b r =>
      have e : (a :: b :: r).length - 1 = ((b :: r).length - 1) + 1 := by
        have h1 : (a :: b :: r).length = r.length + 2 := rfl
        have h2 : (b :: r).length = r.length + 1 := rfl
        omega
      rw [e, List.eraseIdx_cons_succ, ih]
      all_goals rfl
theorem len_erase {α : Type} : ∀ (l : List α) (i : Nat), (l.eraseIdx i).length ≤ l.length
  | [], _ => Nat.le_refl _
  | _ :: _, 0 => Nat.le_succ _
  | _ :: r, i + 1 => Nat.succ_le_succ (len_erase r i)
theorem foldl_rep (its : List Value) : ∀ (k : Nat) (acc : List Value),
    List.foldl (fun x1 x2 => x1 ++ x2) acc.toArray (List.replicate k its.toArray) = (acc ++ (List.replicate k its).flatten).toArray
  | 0, acc => by simp
  | k + 1, acc => by
    have e : acc.toArray ++ its.toArray = (acc ++ its).toArray := by simp
    have e2 : (acc ++ its) ++ (List.replicate k its).flatten = acc ++ (List.replicate (k + 1) its).flatten := by
      rw [List.replicate_succ, List.flatten_cons, List.append_assoc]
    rw [← e2, ← foldl_rep its k (acc ++ its), ← e, List.replicate_succ, List.foldl_cons]

section
variable {X : Cx} {pins : List (Addr × Obj)} {σ : St} {H : Hp} {s : Shared} {l b : Addr} {xs ys zs : List V}

/-! ### the two steps: a tracked list is rewritten, a new list is laid -/
theorem Inv.lset {its its' : List Value} {n : Nat} {f : Array Value → Array Value} {t' : Nat} (I : Inv X pins σ H s) (hH : H l = some (.lst xs))
    (e : s.heap.get? l = some { cls := .type "list", data := .seq its.toArray n }) (hf : f its.toArray = its'.toArray) (hv : Vals ys its') (hz : ys.length ≤ sizeLine) :
    Inv X pins σ (upd H l (.lst ys)) { s with heap := s.heap.update l (Obj.mapSeq f), toks := t' } := by
  have q := PySem.IsL.update e f
  rw [hf] at q
  refine I.write (x := l) (e := l) (by rw [hH]; exact trivial) (.inl rfl) (fun b' u hb hu => (Heap.get?_update_other s.heap (Obj.mapSeq f) (Ne.symm hb)).trans hu) ⟨_, q⟩ ?_
  exact ⟨hz, its', _, hv, q⟩
theorem Inv.lnew {its : List Value} {t' : Nat} (I : Inv X pins σ H s) (hv : Vals ys its) (hz : ys.length ≤ sizeLine) :
    Inv X pins σ (upd H s.heap.objs.size (.lst ys)) { s with heap := s.heap.push { cls := .type "list", data := .seq its.toArray }, toks := t' } :=
  I.laid (fun _ _ q => Heap.get?_push_of_some _ q) (Nat.le_refl _) ⟨hz, its, 0, hv, Heap.get?_push_size _ rfl⟩
theorem Inv.fresh (I : Inv X pins σ H s) : H s.heap.objs.size = none := I.hok.fresh (Nat.le_refl _)
theorem Inv.lstM (I : Inv X pins σ H s) (hH : H l = some (.lst xs)) : xs.length ≤ sizeLine ∧ ∃ (its : List Value) (n : Nat), Vals xs its ∧ xs.length = its.length ∧ s.heap.get? l = some { cls := .type "list", data := .seq its.toArray n } := by
  obtain ⟨z, its, n, r, e⟩ := I.hok l _ hH
  exact ⟨z, its, n, r, r.length, e⟩

theorem notLongL {n : Nat} (h : n ≤ sizeLine) : Builtin.List.listTooLong n = false := by
  unfold Builtin.List.listTooLong
  exact decide_eq_false (by omega)
end

section
variable {X : Cx}

/-! ### methods -/
def rAppend : V → List V → Hp → VK → Prop := fun x vs H Q => ∃ l xs y, x = .ref l ∧ vs = [y] ∧ H l = some (.lst xs) ∧ xs.length < sizeLine ∧ Q .non (upd H l (.lst (xs ++ [y])))
theorem mt_append : MtM X "list.append" rAppend := by
  intro pins s σ H x vs v us Q I rx rv h
  obtain ⟨l, xs, y, rfl, rfl, hH, hz, q⟩ := h
  cases rx
  obtain ⟨u, rfl, ru⟩ := rv.one
  obtain ⟨z, its, n, r, hl, e⟩ := I.lstM hH
  refine call_meets F.slot_list_append ⟨_, e, rfl⟩ F.entry_list_append (F.args_list_append_2 _ _) (PySem.list_append l its.toArray n u (by rw [List.size_toArray]; omega)) ⟨e, ?_⟩
  refine ⟨.non, _, I.lset (its' := its ++ [u]) hH e (by simp) (r.append (.cons ru .nil)) ?_, rfl, q⟩
  rw [List.length_append, List.length_singleton]
  omega

def rExtend : V → List V → Hp → VK → Prop := fun x vs H Q => ∃ l b xs zs, x = .ref l ∧ vs = [.ref b] ∧ H l = some (.lst xs) ∧ H b = some (.lst zs) ∧ xs.length + zs.length ≤ sizeLine ∧ Q .non (upd H l (.lst (xs ++ zs)))
theorem mt_extend : MtM X "list.extend" rExtend := by
  intro pins s σ H x vs v us Q I rx rv h
  obtain ⟨l, b, xs, zs, rfl, rfl, hH, hB, hz, q⟩ := h
  cases rx
  obtain ⟨u, rfl, ru⟩ := rv.one
  cases ru
  obtain ⟨z, its, n, r, hl, e⟩ := I.lstM hH
  obtain ⟨z2, its2, n2, r2, hl2, e2⟩ := I.lstM hB
  have hsz : its.toArray.size + its2.toArray.size ≤ sizeLine := by rw [List.size_toArray, List.size_toArray]; omega
  have hlong : ¬ (!its.toArray.isEmpty && Builtin.List.listTooLong (its.toArray.size + its2.toArray.size)) = true := by
    rw [notLongL hsz, Bool.and_false]
    exact Bool.false_ne_true
  refine call_meets F.slot_list_extend ⟨_, e, rfl⟩ F.entry_list_extend (F.args_list_extend_2 _ _)
    (AutoSeq1.list_extend_list_list_0 l its.toArray n b its2.toArray n2 hlong (by rw [List.size_toArray]; omega) (by omega)) ⟨e, e2, ?_⟩
  refine ⟨.non, _, I.lset (its' := its ++ its2) hH e (by simp) (r.append r2) ?_, rfl, q⟩
  rw [List.length_append]
  omega

def rPop : V → List V → Hp → VK → Prop := fun x vs H Q => ∃ l xs y, x = .ref l ∧ vs = [] ∧ H l = some (.lst xs) ∧ xs[xs.length - 1]? = some y ∧ Q y (upd H l (.lst xs.dropLast))
theorem mt_pop : MtM X "list.pop" rPop := by
  intro pins s σ H x vs v us Q I rx rv h
  obtain ⟨l, xs, y, rfl, rfl, hH, hy, q⟩ := h
  cases rx
  have hus := rv.zero
  subst hus
  obtain ⟨z, its, n, r, hl, e⟩ := I.lstM hH
  obtain ⟨u, hu, ru⟩ := r.get hy
  have hy' : its.toArray[its.toArray.size - 1]? = some u := by
    show its.toArray[its.length - 1]? = some u
    rw [← Array.getElem?_toList, ← hl]
    exact hu
  refine call_meets F.slot_list_pop ⟨_, e, rfl⟩ F.entry_list_pop (F.args_list_pop_1 _) (MeetsSeq.list_pop_last l its.toArray n u hy' (by rw [List.size_toArray]; omega)) ⟨e, ?_⟩
  refine ⟨y, _, I.lset (its' := its.dropLast) hH e ?_ r.dropLast ?_, ru, q⟩
  · show its.toArray.eraseIdxIfInBounds (its.toArray.size - 1) = its.dropLast.toArray
    rw [List.size_toArray, List.eraseIdxIfInBounds_toArray, erase_last]
  · rw [List.length_dropLast]
    omega

def rPopAt : V → List V → Hp → VK → Prop := fun x vs H Q => ∃ l xs i k y, x = .ref l ∧ vs = [.int i] ∧ H l = some (.lst xs) ∧ -(2 ^ 63) ≤ i ∧ i < 2 ^ 63 ∧ seqIndex? i xs.length = some k ∧ xs[k]? = some y ∧ Q y (upd H l (.lst (xs.eraseIdx k)))
theorem mt_popAt : MtM X "list.pop" rPopAt := by
  intro pins s σ H x vs v us Q I rx rv h
  obtain ⟨l, xs, i, k, y, rfl, rfl, hH, h1, h2, hk, hy, q⟩ := h
  cases rx
  obtain ⟨u, rfl, ru⟩ := rv.one
  obtain ⟨t, rfl⟩ := ru
  obtain ⟨z, its, n, r, hl, e⟩ := I.lstM hH
  obtain ⟨w, hw, rw'⟩ := r.get hy
  refine call_meets F.slot_list_pop ⟨_, e, rfl⟩ F.entry_list_pop (F.args_list_pop_2 _ _)
    (MeetsSeq.list_pop_at l its.toArray n i t k w (fitsIndex_both h1 h2) (by rw [List.size_toArray, ← hl]; exact hk) (by rw [← Array.getElem?_toList]; exact hw) (by rw [List.size_toArray]; omega)) ⟨e, ?_⟩
  refine ⟨y, _, I.lset (its' := its.eraseIdx k) hH e ?_ (r.eraseIdx k) ?_, rw', q⟩
  · show its.toArray.eraseIdxIfInBounds k = (its.eraseIdx k).toArray
    rw [List.eraseIdxIfInBounds_toArray]
  · have := len_erase xs k
    omega

def rReverse : V → List V → Hp → VK → Prop := fun x vs H Q => ∃ l xs, x = .ref l ∧ vs = [] ∧ H l = some (.lst xs) ∧ Q .non (upd H l (.lst xs.reverse))
theorem mt_reverse : MtM X "list.reverse" rReverse := by
  intro pins s σ H x vs v us Q I rx rv h
  obtain ⟨l, xs, rfl, rfl, hH, q⟩ := h
  cases rx
  have hus := rv.zero
  subst hus
  obtain ⟨z, its, n, r, hl, e⟩ := I.lstM hH
  refine call_meets F.slot_list_reverse ⟨_, e, rfl⟩ F.entry_list_reverse (F.args_list_reverse_1 _) (AutoSeq1.list_reverse_list_0 l its.toArray n (by rw [List.size_toArray]; omega)) ⟨e, ?_⟩
  refine ⟨.non, _, I.lset (its' := its.reverse) hH e (by simp) r.reverse ?_, rfl, q⟩
  rw [List.length_reverse]
  omega

def rClear : V → List V → Hp → VK → Prop := fun x vs H Q => ∃ l xs, x = .ref l ∧ vs = [] ∧ H l = some (.lst xs) ∧ Q .non (upd H l (.lst []))
theorem mt_clear : MtM X "list.clear" rClear := by
  intro pins s σ H x vs v us Q I rx rv h
  obtain ⟨l, xs, rfl, rfl, hH, q⟩ := h
  cases rx
  have hus := rv.zero
  subst hus
  obtain ⟨z, its, n, r, hl, e⟩ := I.lstM hH
  refine call_meets F.slot_list_clear ⟨_, e, rfl⟩ F.entry_list_clear (F.args_list_clear_1 _) (AutoSeq1.list_clear_list_0 l its.toArray n (by rw [List.size_toArray]; omega)) ⟨e, ?_⟩
  exact ⟨.non, _, I.lset (its' := []) (ys := []) hH e rfl .nil (Nat.zero_le _), rfl, q⟩

/-! ### list + list, list += list, list * int -/
def rCat : R2 := fun x y H Q => ∃ l b xs zs, x = .ref l ∧ y = .ref b ∧ H l = some (.lst xs) ∧ H b = some (.lst zs) ∧ xs.length + zs.length ≤ sizeLine ∧ ∀ p, H p = none → Q (.ref p) (upd H p (.lst (xs ++ zs)))
theorem op_cat : OpR X (binaryOp .Add) rCat := by
  intro pins s σ H x y v u Q I rx ry h
  obtain ⟨l, b, xs, zs, rfl, rfl, hH, hB, hz, q⟩ := h
  cases rx
  cases ry
  obtain ⟨z, its, n, r, hl, e⟩ := I.lstM hH
  obtain ⟨z2, its2, n2, r2, hl2, e2⟩ := I.lstM hB
  refine PySem.P.add_list e e2 ?_ (by rw [List.size_toArray, List.size_toArray]; omega)
  have ea : its.toArray ++ its2.toArray = (its ++ its2).toArray := by simp
  rw [ea]
  exact ⟨.ref _, _, I.lnew (t' := s.toks) (r.append r2) (by rw [List.length_append]; omega), rfl, q _ I.fresh⟩
/-- a list times an int (a negative one is nothing) -/
def rRep : R2 := fun x y H Q => ∃ l k xs, x = .ref l ∧ y = .int k ∧ H l = some (.lst xs) ∧ -(2 ^ 63) ≤ k ∧ k < 2 ^ 63 ∧ xs.length * k.toNat ≤ sizeLine ∧
  ∀ p, H p = none → Q (.ref p) (upd H p (.lst (List.replicate k.toNat xs).flatten))
theorem len_rep {α : Type} (xs : List α) (k : Nat) : (List.replicate k xs).flatten.length = k * xs.length := by
  induction k with
  | zero => simp
  | succ k ih => rw [List.replicate_succ, List.flatten_cons, List.length_append, ih, Nat.succ_mul, Nat.add_comm]
theorem op_rep : OpR X (binaryOp .Mult) rRep := by
  intro pins s σ H x y v u Q I rx ry h
  obtain ⟨l, k, xs, rfl, rfl, hH, h1, h2, hz, q⟩ := h
  cases rx
  obtain ⟨t, rfl⟩ := ry
  obtain ⟨z, its, n, r, hl, e⟩ := I.lstM hH
  have hlen : its.toArray.size * k.toNat ≤ sizeLine := by rw [List.size_toArray, ← hl]; exact hz
  have hcap : ¬ its.toArray.size * k.toNat > (2 ^ 63 - 1) / 8 := by
    have : (sizeLine : Nat) ≤ (2 ^ 63 - 1) / 8 := by decide
    omega
  have hfit : ¬ (!Builtin.List.listFitsIndex k) = true := by
    rw [fitsIndex_both h1 h2]
    exact Bool.false_ne_true
  have hlong : ¬ Builtin.List.listTooLong (its.toArray.size * k.toNat) = true := by
    rw [notLongL hlen]
    exact Bool.false_ne_true
  have hnew : List.foldl (fun x1 x2 => x1 ++ x2) #[] (List.replicate (if its.toArray.isEmpty = true then 0 else k.toNat) its.toArray) = (List.replicate k.toNat its).flatten.toArray := by
    have f0 : ∀ m : Nat, List.foldl (fun x1 x2 => x1 ++ x2) #[] (List.replicate m its.toArray) = (List.replicate m its).flatten.toArray := fun m => by
      have := foldl_rep its m []
      rw [List.nil_append] at this
      exact this
    rw [f0]
    cases its with
    | nil => simp
    | cons a r' => rw [if_neg (by simp)]
  refine wpAny_binaryOp_repeat_ref (T := "list") (U := "int") (by decide) ⟨_, e, rfl⟩ (fun s' => typeIs_int s' k t) noFill_list_mul F.fills_int_mul F.slot_int_rmul repeat_list F.slot_int_index.lookup
    (call_meets F.slot_int_rmul (typeIs_int s k t) F.entry_int_rmul (F.args_int_rmul_2 _ _) (int___rmul___int_list k t l its.toArray n)
      ⟨e, rfl, ⟨_, e, rfl⟩, call_meets F.slot_list_mul ⟨_, e, rfl⟩ F.entry_list_mul (F.args_list_mul_2 _ _) (AutoListH.list___mul___list_int_3 l its.toArray n k t hfit hcap hlong) ⟨e, ?_⟩⟩)
  rw [hnew]
  exact ⟨.ref _, _, I.lnew (t' := s.toks) (r.rep k.toNat) (by rw [len_rep, Nat.mul_comm]; exact hz), rfl, q _ I.fresh⟩

/-! ### del xs[i] -/
theorem del_list {pins : List (Addr × Obj)} {s : Shared} {σ : St} {H : Hp} {l : Addr} {xs : List V} {i : Int} {t : Tok} {k : Nat} {Q : Unit → Shared → Prop} (I : Inv X pins σ H s) (hH : H l = some (.lst xs))
    (h1 : -(2 ^ 63) ≤ i) (h2 : i < 2 ^ 63) (hk : seqIndex? i xs.length = some k) (h : ∀ s', Inv X pins σ (upd H l (.lst (xs.eraseIdx k))) s' → Q () s') :
    wpAny (model X.prog X.w) X.A (delItem (.ref l) (.int i t)) Q X.xe s := by
  obtain ⟨z, its, n, r, hl, e⟩ := I.lstM hH
  refine PySem.P.delItem_list (k := k) e (fitsIndex_both h1 h2) (by rw [List.size_toArray, ← hl]; exact hk) (h _ ?_) (by rw [List.size_toArray]; omega)
  refine I.lset (its' := its.eraseIdx k) (t' := s.toks) hH e ?_ (r.eraseIdx k) ?_
  · show its.toArray.eraseIdxIfInBounds k = (its.eraseIdx k).toArray
    rw [List.eraseIdxIfInBounds_toArray]
  · have := len_erase xs k
    omega
end

/-! ### xs[a:b] = ys -/
section
variable {prog : Program} {w : World} {A : Around} {E : Value → Shared → Prop} {s : Shared}
theorem splice_eq (its its2 : List Value) (a c : Nat) : its.toArray.extract 0 a ++ its2.toArray ++ its.toArray.extract c its.toArray.size = (its.take a ++ its2 ++ its.drop c).toArray := by
  apply Array.toList_inj.mp
  first
    | (simp
       exact List.take_of_length_le (by simp))
    | simp [List.take_of_length_le]
    | simp
theorem bounds_run {a c n : Nat} (hac : a ≤ c) (hc : c ≤ n) : sliceBounds (some (a : Int)) (some (c : Int)) none n = ((a : Int), (c : Int), 1) := by
  simp only [sliceBounds, Option.getD_none]
  have h1 : ¬ ((a : Int) < 0) := by omega
  have h2 : ¬ ((c : Int) < 0) := by omega
  simp only [h1, h2, if_false, show (1 : Int) > 0 by decide, if_true]
  congr 1
  · omega
  · congr 1; omega
set_option maxRecDepth 100000 in
/-- list.__setitem__ with a slice of step one and another list -/
theorem setItem_slice {l b sl : Addr} {items new : Array Value} {n n2 : Nat} {vl vu : Value} {a c : Nat} {Q : Unit → Shared → Prop}
    (e : s.heap.get? l = some { cls := .type "list", data := .seq items n }) (e2 : s.heap.get? b = some { cls := .type "list", data := .seq new n2 }) (hne : l ≠ b)
    (hs : s.heap.IsSliceOf sl vl vu .none) (pl : IsPart vl (some (a : Int))) (pu : IsPart vu (some (c : Int))) (hac : a ≤ c) (hc : c ≤ items.size)
    (hsz : items.size + new.size ≤ sizeLine) (h : Q () { s with heap := s.heap.update l (Obj.mapSeq fun xs => xs.extract 0 a ++ new ++ xs.extract c xs.size) }) :
    wpAny (model prog w) A (setItem (.ref l) (.ref sl) (.ref b)) Q E s := by
  have hl : s.heap.IsList l items := PySem.IsL.isList e
  have hb : s.heap.IsList b new := PySem.IsL.isList e2
  obtain ⟨os, hos, hcs, hds⟩ := id hs
  have hTs : s.TypeIs (.ref sl) "slice" := ⟨os, hos, hcs⟩
  have hstep : ¬ ((rawPart none == rawInt 0) = true) := Bool.false_ne_true
  have hsame : Builtin.List.listSameRef (.ref l) (.ref b) = false := by
    unfold Builtin.List.listSameRef
    exact beq_eq_false_iff_ne.mpr hne
  have hmax : (max (a : Int) (c : Int)).toNat = c := by omega
  have hz' : ((fun xs : Array Value => xs.extract 0 a ++ new ++ xs.extract c xs.size) items).size ≤ sizeLine + 1 := by
    simp only [Array.size_append, Array.size_extract]
    omega
  unfold setItem
  try with_reducible refine wpAny_holding ?_
  first | refine wpAny_bind (wpAny_pure ?_) | skip
  refine wpAny_bind (wpAny_sequenceKey hl.typeIs (by decide) ?_)
  refine wpAny_bind (wpAny_callSpecial?_slot (name := Str.ofString "__setitem__") hl.typeIs slot_list_setitem
    (wpAny_call_entry slot_list_setitem hl.typeIs entry_list_setitem ?_ (args_list_setitem _ _ _)))
  show wpAny _ _ (Builtin.List.listSubscript? (.ref sl) >>= _) _ _ s
  refine wpAny_bind ?_
  unfold Builtin.List.listSubscript?
  refine wpAny_bind (wpAny_specialOf hTs slice_no_index ?_)
  simp only [Option.isNone_none, if_true]
  refine wpAny_pure ?_
  show wpAny _ _ (typeOf (.ref sl) >>= _) _ _ s
  refine wpAny_bind (wpAny_typeOf hTs ?_)
  first
    | rw [if_neg (by decide)]
    | refine PySem.W.KFB.if_not (by decide) ?_
  rw [listSliceParts_eq]
  refine wpAny_bind (wpAny_bind (wpAny_field hos hds (x := .none) rfl (wpAny_bind (wpAny_listPart .none ?_))))
  rw [if_neg hstep]
  refine wpAny_bind (wpAny_field hos hds (x := vl) rfl (wpAny_bind (wpAny_listPart pl ?_)))
  refine wpAny_bind (wpAny_field hos hds (x := vu) rfl (wpAny_bind (wpAny_listPart pu (wpAny_pure ?_))))
  first
    | simp only [hsame, Bool.false_eq_true, if_false]
    | refine PySem.W.KFB.if_not hsame ?_
    | (dsimp only
       rw [if_neg (by rw [hsame]; exact Bool.false_ne_true)])
  refine wpAny_bind (m := Builtin.List.listAllItems (.ref b) "must assign iterable to extended slice") ?_
  unfold Builtin.List.listAllItems
  refine wpAny_bind (wpAny_typeOf hb.typeIs ?_)
  first
    | refine PySem.W.KFB.if_so (by decide) ?_
    | rw [if_pos (by decide)]
    | simp only [beq_self_eq_true, Bool.true_or, if_true]
  unfold Builtin.List.listItems
  refine wpAny_bind (wpAny_seqItems e2 rfl (wpAny_pure ?_))
  refine wpAny_bind (wpAny_bind (wpAny_seqItems e rfl (wpAny_pure ?_)))
  refine wpAny_bind (wpAny_of_eq ((sliceIndices_raw (some (a : Int)) (some (c : Int)) none items.size (by simp)).trans (congrArg (pure : Int × Int × Int → Sem (Int × Int × Int)) (bounds_run hac hc))) ?_)
  show wpAny _ _ (if ((1 : Int) == 1) = true then _ else _) _ _ s
  rw [if_pos (by decide)]
  refine wpAny_bind (wpAny_rule ?_)
  first
    | simp only [notLongL hsz, Bool.false_eq_true, if_false]
    | refine PySem.W.KFB.if_not (notLongL hsz) ?_
  first | refine wpAny_bind (wpAny_pure ?_) | skip
  show wpAny _ _ (updateSeq l (fun xs => xs.extract 0 ((a : Int)).toNat ++ new ++ xs.extract (max (a : Int) (c : Int)).toNat xs.size) >>= _) _ _ s
  rw [hmax, Int.toNat_natCast]
  refine wpAny_bind (wpAny_updateSeq (hz := Nat.le_trans (Nat.le_add_right _ _) hsz) (_hz' := hz') e rfl ?_)
  refine wpAny_bind (wpAny_letGo ?_)
  first
    | exact wpAny_bind (wpAny_pure (wpAny_pure ⟨.none, rfl, wpAny_pure h⟩))
    | exact wpAny_pure ⟨.none, rfl, wpAny_pure h⟩
end

section
variable {X : Cx}
/-- xs[a:c] = ys of another list, at the value level: sl is the slice object that was just made -/
theorem set_slice {pins : List (Addr × Obj)} {s : Shared} {σ : St} {H : Hp} {l b sl : Addr} {xs ys : List V} {a c : Int} {vl vu : Value} {Q : Unit → Shared → Prop} (I : Inv X pins σ H s)
    (hH : H l = some (.lst xs)) (hB : H b = some (.lst ys)) (hne : l ≠ b) (hs : s.heap.IsSliceOf sl vl vu .none) (ra : RelV (.int a) vl) (rc : RelV (.int c) vu) (h0 : 0 ≤ a) (hac : a ≤ c) (hc : c ≤ xs.length)
    (hz : xs.length + ys.length ≤ sizeLine) (h : ∀ s', Inv X pins σ (upd H l (.lst (xs.take a.toNat ++ ys ++ xs.drop c.toNat))) s' → Q () s') :
    wpAny (model X.prog X.w) X.A (setItem (.ref l) (.ref sl) (.ref b)) Q X.xe s := by
  obtain ⟨ta, rfl⟩ := ra
  obtain ⟨tc, rfl⟩ := rc
  obtain ⟨z, its, n, r, hl, e⟩ := I.lstM hH
  obtain ⟨z2, its2, n2, r2, hl2, e2⟩ := I.lstM hB
  obtain ⟨a', rfl⟩ := Int.eq_ofNat_of_zero_le h0
  obtain ⟨c', rfl⟩ := Int.eq_ofNat_of_zero_le (Int.le_trans h0 hac)
  simp only [Int.toNat_natCast] at h
  refine setItem_slice (a := a') (c := c') e e2 hne hs (.int _ _) (.int _ _) (by omega) (by rw [List.size_toArray]; omega) (by rw [List.size_toArray, List.size_toArray]; omega) (h _ ?_)
  refine I.lset (its' := its.take a' ++ its2 ++ its.drop c') (t' := s.toks) hH e ?_ (Vals.append (Vals.append (r.take _) r2) (r.drop _)) ?_
  · exact splice_eq its its2 a' c'
  · rw [List.length_append, List.length_append, List.length_take, List.length_drop]
    omega
end
end L2

namespace Att
open PySem PySem.W PySem.Calls PyProof.Rows

/-! ### the script -/
theorem ints_of_wellAll {P : Params} {h : Heap} : ∀ (ns : List Int) (vs : List Value), WellAll P h vs (ns.map WData.int) → IntsAre vs ns := by
  intro ns
  induction ns with
  | nil =>
    intro vs w
    rw [List.map_nil] at w
    cases w
    exact .nil
  | cons n ns ih =>
    intro vs w
    rw [List.map_cons] at w
    cases w with
    | cons a b =>
      cases a
      exact .cons _ _ (ih _ b)

theorem script_of {l : OpenLaw} {n : Nat} (hn : l.most = some n) {P : Params} {h : Heap} {args : List WData} {vals : List Value}
    (hpre : l.row.toRowW.claim.pre args = true) (hwl : WellAll P h vals args) :
    ∃ a vs ns, vals = [Value.ref a] ∧ args = [WData.list (ns.map WData.int)] ∧ h.get? a = some { cls := .type "list", data := .seq vs.toArray } ∧ IntsAre vs ns ∧ ns.length ≤ n := by
  have hsh : WShape.hasAll [] args [.list .int] = true := (pre_splitW hpre).1
  have hc : l.pre.holds [] { args := args } = true := (pre_splitW hpre).2
  obtain ⟨d, r, rfl, h1, h2⟩ := hasAllW_cons hsh
  obtain rfl := hasAllW_nil h2
  obtain ⟨xs, rfl, h3⟩ := hasW_list h1
  obtain ⟨ns, rfl⟩ := items_int h3
  have hlen : ns.length ≤ n := by
    unfold OpenLaw.pre at hc
    have h4 : (WTm.not (.lt (.lit (.int (n : Int))) (.len (.arg 0)))).holds [] { args := [.list (ns.map .int)] } = true := by
      have h4 := (holds_andW hc).1
      rw [hn] at h4
      exact h4
    have h5 := condW_of h4 (w_not (w_lt w_lit (w_len_list (w_arg rfl))))
    rw [List.length_map] at h5
    refine Nat.le_of_not_lt fun q => ?_
    have q' : (n : Int) < ((ns.length : Nat) : Int) := by omega
    first
      | (rw [decide_eq_true q'] at h5; exact absurd h5 (by decide))
      | (simp at h5; omega)
  cases hwl with
  | cons w1 w2 =>
    cases w2
    cases w1 with
    | list ho hall => exact ⟨_, _, ns, rfl, rfl, ho, ints_of_wellAll ns _ hall, hlen⟩

theorem post_true (l : OpenLaw) (args : List WData) : l.row.toRowW.claim.post args (.bool true) args = true :=
  postW_of (r := l.row.toRowW) (X := (true == true))
    (show WShape.has [] (.bool true) .bool = true by first | rfl | decide | simp [WShape.has, WShape.arms, WShape.armsAll])
    (show (WTm.eq .res (.lit (.bool true))).value [] { args := args, res := some (.bool true), after := args } = some (.bool (true == true)) from w_eq_bool (w_res rfl) w_lit) rfl

/-! ### the attachment: holds_open's last premise (the goal 'hc' behind k_head) from a wpAny of the law's body -/
theorem attach {l : OpenLaw} {n : Nat} {q : Program} {loose : List Str} {XP : (Str → Option Value) → Heap → Prop} {YP : World → Heap → Prop} {d : DefRec} {x : Str}
    (hn : l.most = some n) (hdf : d.params.defaults = [])
    (hbind : ∀ pm cd doc v : Value, bindArgs (docDef d.name d.params d.body d.scope pm cd doc) ⟨[v], []⟩ = pure [(x, v)])
    (hx : d.scope.names.lookup x = some .local ∨ d.scope.names.lookup x = some .cell)
    (hk : d.scope.kind = .function) (hco : d.scope.isCoroutine = false) (hgen : d.scope.isGenerator = false)
    (body : ∀ (w : World) (s₀ s₁ s : Shared) (mg mb : Str → Option Value) (fa : Addr) (o : Obj) (pm cd doc : Value) (a : Addr) (vs : List Value) (ns : List Int),
      Ground q loose [] XP w s₀ mg mb s₁.heap → YP w s₁.heap →
      s₁.heap.get? fa = some o → o.data = .func (docDef d.name d.params d.body d.scope pm cd doc) → s₁.heap.CodeRec cd d.name → mg d.name = some (.ref fa) →
      s₁.heap.get? a = some { cls := .type "list", data := .seq vs.toArray } → IntsAre vs ns → ns.length ≤ n →
      s.gens = #[] → s.os = s₁.os →
      Fr s₁.heap s₁.heap.objs.size s.heap (bindL (envOfC d.name d.scope s₁.heap.objs.size fa cd).kindOf [(x, .ref a)] fun _ => none) →
      Cl s₁.heap.objs.size (cellsFrom (s₁.heap.objs.size + 1) d.scope.names []) s.heap (bindC (envOfC d.name d.scope s₁.heap.objs.size fa cd).kindOf [(x, .ref a)] fun _ => none) →
      wpAny (model l.prog w) (callerA.deeper (envOfC d.name d.scope s₁.heap.objs.size fa cd)) (execs d.body (envOfC d.name d.scope s₁.heap.objs.size fa cd))
        (fun f s' => f = .ret (.bool true) ∧ OldK s₁.heap s'.heap ∧ s'.os = s₁.os ∧ AllBare s'.gens) (fun _ _ => False) s) :
    WalkO q loose XP YP l.row.toRowW d [] (fun f vs => PySem.call f vs) := by
  intro w s₀ s₁ mg mb G Y fa o pm cd doc dV kV ho hd hcd hD hmg hg args vals as hpre hlay hrd hwl hlo
  obtain rfl : dV = .none := Dflts.none hD hdf
  obtain rfl : kV = .none := Dflts.noKw hD
  obtain ⟨a, vs, ns, rfl, rfl, hobj, hints, hlen⟩ := script_of hn hpre hwl
  refine enter_call ?_
  refine call_cells_ret (o := o) (by rw [depth_caller]; decide) ho (fd_plain hd) G.T.nolimit hcd (hbind pm cd doc (.ref a)) (fun y hy => ?_) (fun h₁ tk F X => ?_) hco hgen hk
  · obtain rfl : y = (x, Value.ref a) := List.mem_singleton.mp hy
    rcases hx with e | e
    · exact .inl e
    · exact .inr ⟨e, cellsFrom_some _ _ _ (.inl e)⟩
  · refine wpAny_mono (body w s₀ s₁ { s₁ with heap := h₁, toks := tk } mg mb fa o pm cd doc a vs ns G Y ho (fd_plain hd) hcd hmg hobj hints hlen hg rfl F X) (fun f s' hq => ?_) (fun _ _ hq => hq)
    obtain ⟨rfl, h2, h3, h4⟩ := hq
    exact ⟨.inl ⟨.bool true, .bool true, [], rfl, fun _ => rfl, .bool true, post_true l _, fun _ => ⟨List.Pairwise.nil, fun _ hm => (nomatch hm)⟩⟩, h2, h3, h4⟩

/-- the same from a codeAny of the CALL (for a layer whose function contracts speak of calls) -/
theorem attach_call {l : OpenLaw} {n : Nat} {q : Program} {loose : List Str} {XP : (Str → Option Value) → Heap → Prop} {YP : World → Heap → Prop} {d : DefRec}
    (hn : l.most = some n) (hdf : d.params.defaults = [])
    (call : ∀ (w : World) (s₀ s₁ : Shared) (mg mb : Str → Option Value) (fa : Addr) (o : Obj) (pm cd doc : Value) (a : Addr) (vs : List Value) (ns : List Int),
      Ground q loose [] XP w s₀ mg mb s₁.heap → YP w s₁.heap →
      s₁.heap.get? fa = some o → o.data = .func (docDef d.name d.params d.body d.scope pm cd doc) → s₁.heap.CodeRec cd d.name → mg d.name = some (.ref fa) →
      s₁.heap.get? a = some { cls := .type "list", data := .seq vs.toArray } → IntsAre vs ns → ns.length ≤ n → s₁.gens = #[] →
      codeAny (model l.prog w) callerA (.call (.ref fa) ⟨[.ref a], []⟩) (fun r s' => r = .ok (.ret (.bool true)) ∧ OldK s₁.heap s'.heap ∧ s'.os = s₁.os ∧ AllBare s'.gens) s₁) :
    WalkO q loose XP YP l.row.toRowW d [] (fun f vs => PySem.call f vs) := by
  intro w s₀ s₁ mg mb G Y fa o pm cd doc dV kV ho hd hcd hD hmg hg args vals as hpre hlay hrd hwl hlo
  obtain rfl : dV = .none := Dflts.none hD hdf
  obtain rfl : kV = .none := Dflts.noKw hD
  obtain ⟨a, vs, ns, rfl, rfl, hobj, hints, hlen⟩ := script_of hn hpre hwl
  refine enter_call (codeAny_mono (call w s₀ s₁ mg mb fa o pm cd doc a vs ns G Y ho (fd_plain hd) hcd hmg hobj hints hlen hg) fun r s' hq => ?_)
  obtain ⟨rfl, h2, h3, h4⟩ := hq
  exact ⟨.inl ⟨.bool true, .bool true, [], rfl, fun _ => rfl, .bool true, post_true l _, fun _ => ⟨List.Pairwise.nil, fun _ hm => (nomatch hm)⟩⟩, h2, h3, h4⟩

/-- the same where the top left finished generators (o_head chose holds_openN): nothing may have changed at all and no generator may be left -/
theorem attachN {l : OpenLaw} {n : Nat} {q : Program} {loose : List Str} {XP : (Str → Option Value) → Heap → Prop} {YP : World → Heap → Prop} {d : DefRec} {x : Str}
    (hn : l.most = some n) (hdf : d.params.defaults = [])
    (hbind : ∀ pm cd doc v : Value, bindArgs (docDef d.name d.params d.body d.scope pm cd doc) ⟨[v], []⟩ = pure [(x, v)])
    (hx : d.scope.names.lookup x = some .local ∨ d.scope.names.lookup x = some .cell)
    (hk : d.scope.kind = .function) (hco : d.scope.isCoroutine = false) (hgen : d.scope.isGenerator = false)
    (body : ∀ (w : World) (s₀ s₁ s : Shared) (mg mb : Str → Option Value) (fa : Addr) (o : Obj) (pm cd doc : Value) (a : Addr) (vs : List Value) (ns : List Int),
      Ground q loose [] XP w s₀ mg mb s₁.heap → YP w s₁.heap →
      s₁.heap.get? fa = some o → o.data = .func (docDef d.name d.params d.body d.scope pm cd doc) → s₁.heap.CodeRec cd d.name → mg d.name = some (.ref fa) →
      s₁.heap.get? a = some { cls := .type "list", data := .seq vs.toArray } → IntsAre vs ns → ns.length ≤ n →
      s.gens = #[] → s.os = s₁.os →
      Fr s₁.heap s₁.heap.objs.size s.heap (bindL (envOfC d.name d.scope s₁.heap.objs.size fa cd).kindOf [(x, .ref a)] fun _ => none) →
      Cl s₁.heap.objs.size (cellsFrom (s₁.heap.objs.size + 1) d.scope.names []) s.heap (bindC (envOfC d.name d.scope s₁.heap.objs.size fa cd).kindOf [(x, .ref a)] fun _ => none) →
      wpAny (model l.prog w) (callerA.deeper (envOfC d.name d.scope s₁.heap.objs.size fa cd)) (execs d.body (envOfC d.name d.scope s₁.heap.objs.size fa cd))
        (fun f s' => f = .ret (.bool true) ∧ (∀ b o, s₁.heap.get? b = some o → s'.heap.get? b = some o) ∧ s'.os = s₁.os ∧ s'.gens = #[]) (fun _ _ => False) s) :
    WalkN q loose XP YP l.row.toRowW d [] (fun f vs => PySem.call f vs) := by
  intro w s₀ s₁ mg mb G Y fa o pm cd doc dV kV ho hd hcd hD hmg hg args vals as hpre hlay hrd hwl hlo
  obtain rfl : dV = .none := Dflts.none hD hdf
  obtain rfl : kV = .none := Dflts.noKw hD
  obtain ⟨a, vs, ns, rfl, rfl, hobj, hints, hlen⟩ := script_of hn hpre hwl
  refine enter_callW ?_
  refine call_cells_ret (o := o) (by rw [depth_caller]; decide) ho (fd_plain hd) G.T.nolimit hcd (hbind pm cd doc (.ref a)) (fun y hy => ?_) (fun h₁ tk F X => ?_) hco hgen hk
  · obtain rfl : y = (x, Value.ref a) := List.mem_singleton.mp hy
    rcases hx with e | e
    · exact .inl e
    · exact .inr ⟨e, cellsFrom_some _ _ _ (.inl e)⟩
  · refine wpAny_mono (body w s₀ s₁ { s₁ with heap := h₁, toks := tk } mg mb fa o pm cd doc a vs ns G Y ho (fd_plain hd) hcd hmg hobj hints hlen hg rfl F X) (fun f s' hq => ?_) (fun _ _ hq => hq)
    obtain ⟨rfl, h2, h3, h4⟩ := hq
    exact ⟨.inl ⟨.bool true, .bool true, [], rfl, fun _ => rfl, .bool true, post_true l _, fun _ => ⟨List.Pairwise.nil, fun _ hm => (nomatch hm)⟩⟩, h2, h3, h4⟩

/-! ### rules over ANY heap (no ledger) from facts about the written part K: the library's own take a ledger (News) for what they write -/
section
variable {prog : Program} {w : World} {A : Around} {E : Value → Shared → Prop} {s : Shared} {K : Frag}

/-- a def of the module, or a method (qual 'C.m'), entered: the frame is the next address; cells behind it -/
theorem call_fn {R : Result → Shared → Prop} {name qual : Str} {params : Arguments} {body : List Stmt} {scope : Scope} {dV kV doc pm cdv ct oc : Value} {an od : Option Addr} {osl : Array (Option Value)} {f : Addr} {args : Args} {binds : List (Str × Value)}
    (X : K.In s.heap) (hlim : s.heap.NoLimit) (ho : K.lookup f = some ⟨oc, od, .func (fnOf name qual params body scope dV kV doc pm an cdv ct), osl⟩) (hcd : codeIn K cdv qual = true) (hroom : A.depth < recursionLimit)
    (hbind : BindsTo s (fnOf name qual params body scope dV kV doc pm an cdv ct) args binds)
    (hkind : (binds.all fun y => scope.names.lookup y.1 == some .local || scope.names.lookup y.1 == some .cell) = true)
    (h : ∀ s₁, InCallC s s.heap.objs.size (bindL (envOfC qual scope s.heap.objs.size f cdv).kindOf binds fun _ => none) (cellsFrom (s.heap.objs.size + 1) scope.names [])
        (bindC (envOfC qual scope s.heap.objs.size f cdv).kindOf binds fun _ => none) s₁ →
      wpAny (model prog w) (A.deeper (envOfC qual scope s.heap.objs.size f cdv)) (execs body (envOfC qual scope s.heap.objs.size f cdv))
        (fun fl s' => R (.ok (.ret (match fl with | .ret v => v | _ => .none))) s')
        (fun e s' => wpAny (model prog w) (A.deeper (envOfC qual scope s.heap.objs.size f cdv)) (leaving (envOfC qual scope s.heap.objs.size f cdv) e) (fun _ s'' => R (.error e) s'') (fun e' s'' => R (.error e') s'') s') s₁)
    (hco : scope.isCoroutine = false) (hgen : scope.isGenerator = false) (hk : scope.kind = .function) : codeAny (model prog w) A (.call (.ref f) args) R s := by
  refine codeAny_call_function hroom (X _ _ ho) rfl hco hgen rfl (codeRec_of X hcd) (hbind _ _ _ _ ?_)
  refine wpAny_newFunctionEnv_cells hk (kindsX hkind _) fun env he s₁ x => ?_
  subst he
  exact ⟨hlim.keeps x.toInCall.keep, codeAny_func (h s₁ x)⟩

/-- C(..): dict at size, instance at size + 1, then __init__ -/
theorem make_obj {R : Result → Shared → Prop} {C fI : Addr} {rest : List Value} {kw : List (Str × Value)}
    (X : K.In s.heap) (hm : makesIn K C = true) (hi : findIn K (.ref C) "__init__" = some (some (.ref fI))) (hf : isFn K (.ref fI) = true)
    (h : codeAny (model prog w) (A.under (.builtin "type.__call__" ⟨.ref C :: rest, kw⟩)) (.call (.ref fI) ⟨.ref (s.heap.objs.size + 1) :: rest, kw⟩) (InitBack (s.heap.objs.size + 1) R)
      { s with heap := (s.heap.push emptyDict).push (instObj C s.heap.objs.size) }) : codeAny (model prog w) A (.call (.ref C) ⟨rest, kw⟩) R s := by
  obtain ⟨hh, g, d, t, os⟩ := s
  exact make_core (makes_of X hm) (looks_findIn X hi) (fun self => bind_fn X self (beq_iff_eq.mp hf)) (.inl rfl) h

/-- x.name where the instance's dict holds the name and the class does not -/
theorem get_field {x C : Addr} {ox : Obj} {es : List DictEntry} {n : Nat} {name : Str} {expr : Bool} {v : Value} {Q : Value → Shared → Prop}
    (X : K.In s.heap) (I : PySem.W.InstAt s.heap x ox C (some (dictOf es n))) (hg : plainGet K C name = true) (hh : hasDictIn K C = true) (ha : findIn K (.ref C) name = some none)
    (hl : getL name es = some (some v)) (hv : handedIn v = true) (h : Q v { s with toks := s.toks + 1 }) : wpAny (model prog w) A (getAttr (.ref x) name expr) Q E s :=
  get_value X I (plainGet_of hg).1 (findObj_own hh ha rfl hl) hv h

/-- x.m(..): the method found in the class -/
theorem get_method {x C f : Addr} {ox : Obj} {es : List DictEntry} {n : Nat} {name : Str} {pl : Sem Bool} {Q : Value × List Value → Shared → Prop}
    (X : K.In s.heap) (I : PySem.W.InstAt s.heap x ox C (some (dictOf es n))) (hg : plainGet K C name = true) (hf : findIn K (.ref C) name = some (some (.ref f))) (ht : isFn K (.ref f) = true)
    (hl : getL name es = some none) (h : Q (.ref f, [.ref x]) s) : wpAny (model prog w) A (getMethod (.ref x) name pl) Q E s :=
  method_fn X I (plainGet_of hg).1 (plainGet_of hg).2 hf (beq_iff_eq.mp ht) (by show (lookIn name (dictOf es n)).map _ = _; rw [lookIn_dict, hl]; rfl) h

/-! the whole heap as the ledger: makes every rule that writes through a ledger a rule over any heap -/
def noObjs (h : Heap) : Heap := { h with objs := #[] }
theorem noObjs_get (h : Heap) (b : Addr) : (noObjs h).get? b = none := by
  cases e : (noObjs h).get? b with
  | none => rfl
  | some o => exact absurd (Heap.lt_size e) (Nat.not_lt_zero _)
def ledger (h : Heap) (L d : Addr) : List (Addr × Obj) := (List.range h.objs.size).filterMap fun a => if a = L ∨ a = d then none else (h.get? a).map fun o => (a, o)
theorem mem_ledger {h : Heap} {L d a : Addr} {o : Obj} : (a, o) ∈ ledger h L d ↔ a ≠ L ∧ a ≠ d ∧ h.get? a = some o := by
  unfold ledger
  rw [List.mem_filterMap]
  constructor
  · rintro ⟨b, _, e⟩
    split at e
    · cases e
    · rename_i hb
      obtain ⟨o', ho, e'⟩ := Option.map_eq_some_iff.mp e
      cases e'
      exact ⟨fun q => hb (.inl q), fun q => hb (.inr q), ho⟩
  · rintro ⟨n1, n2, ho⟩
    refine ⟨a, List.mem_range.mpr (Heap.lt_size ho), ?_⟩
    rw [if_neg (show ¬ (a = L ∨ a = d) from fun q => q.elim n1 n2), ho] <;> rfl
theorem news_ledger {h : Heap} {L d : Addr} {od : Obj} (hne : d ≠ L) (ho : h.get? d = some od) : News (noObjs h) L h ([] ++ (d, od) :: ledger h L d) := by
  rintro ⟨a, o⟩ hp
  rcases List.mem_cons.mp hp with e | hp
  · cases e
    exact ⟨ho, hne, noObjs_get _ _⟩
  · obtain ⟨n1, n2, e⟩ := mem_ledger.mp hp
    exact ⟨e, n1, noObjs_get _ _⟩
theorem fr_all {h : Heap} {L : Addr} {m : Str → Option Value} (n : h.Ns L m) : Fr (noObjs h) L h m :=
  ⟨n, fun b o e => (by rw [noObjs_get] at e; cases e), Nat.zero_le _⟩
/-- Upd of the head entry (for append_K, setItem_K ..) -/
theorem upd_ledger {h : Heap} {L d : Addr} {o o' : Obj} : Upd d o o' ((d, o) :: ledger h L d) ((d, o') :: ledger h L d) :=
  .head fun ⟨_, _⟩ hp => (mem_ledger.mp hp).2.1

/-- x.name = v over any heap: L is any namespace of the heap (the frame's, say): its map stays, its object is not told; all else but the dict stays -/
theorem set_field {x C dx L : Addr} {ox : Obj} {m : Str → Option Value} {es es' : List DictEntry} {n n' : Nat} {name : Str} {v : Value} {Q : Unit → Shared → Prop}
    (X : K.In s.heap) (I : PySem.W.InstAt s.heap x ox C (some (dictOf es n))) (hd : ox.dict = some dx) (hL : s.heap.Ns L m) (hne : dx ≠ L)
    (hs : findIn K (.ref C) "__setattr__" = some (some (.builtin "object.__setattr__"))) (hp : plainOver K C = true) (ht : takerIn K C name = some none) (hh : hasDictIn K C = true) (hl : (getL name es).isSome = true)
    (e : (putL name (PyData.keyHash w.params name) (.str name (s.toks + 1)) v es, putN name es n) = (es', n')) (hz : es'.length ≤ 1000)
    (h : ∀ h' : Heap, h'.Ns L m → h'.get? dx = some (dictOf es' n') → (∀ b o, b ≠ dx → b ≠ L → s.heap.get? b = some o → h'.get? b = some o) → Q () { s with heap := h', toks := s.toks + 2 }) :
    wpAny (model prog w) A (setAttr (.ref x) name v) Q E s := by
  obtain ⟨e1, e2⟩ := Prod.mk.inj e
  have hdx : s.heap.get? dx = some (dictOf es n) := by
    have := I.dict
    rw [hd] at this
    exact this
  refine set_plain X I hs (osa_dict (s := { s with toks := s.toks + 1 }) (h₀ := noObjs s.heap) (L := L) (m := m) (od := dictOf es n) (od' := dictOf es' n') (es := es') (n := n') (pre := []) (post := ledger s.heap L dx)
    (fr_all hL) (news_ledger hne hdx) X I hd hp ht hh hl (fun _ q => nomatch q) (fun ⟨_, _⟩ q => (mem_ledger.mp q).2.1) (by rw [putName_dict, e1, e2]) rfl hz fun h' F' N' => ?_)
  exact h h' F'.ns (N'.get (List.Mem.head _)) fun b o n1 n2 ho => N'.get (List.Mem.tail _ (mem_ledger.mpr ⟨n2, n1, ho⟩))
end
end Att

namespace L2
open PySem PySem.Spec PyProof.Rows

theorem vals_ints : ∀ {vs : List Value} {ns : List Int}, IntsAre vs ns → Vals (ns.map V.int) vs
  | _, _, .nil => .nil
  | _, _, .cons n t h => .cons ⟨t, rfl⟩ (vals_ints h)

/-- nothing is tracked but the script, known to the object (or it is an object of the module) -/
def Only (H : Hp) : Prop := ∀ b, H b = none ∨ ∃ o xs, H b = some (.frz o (.lst xs))

/-- THE HEAD: the law's promise, at the heap behind the top. F, the promise of the law's def, may use that base is part of the heap (so K.In base, base.Ns mainGlobals mg stand in Mod) -/
theorem law_call {P : Program} {w : World} {K : PySem.W.Frag} {mg mb : Str → Option Value} {CX : CXT} {k : Nat} {fa a : Addr} {fd : FuncData} {x : Str} {sp : Sp} {s₁ : Shared} {vs : List Value} {ns : List Int}
    (KX : K.In s₁.heap) (hns : s₁.heap.Ns mainGlobals mg) (hb : s₁.heap.Ns builtinsNs mb) (hbb : ∀ x : Str, x ≠ "__name__" → mb x = bootBuiltins x) (hlim : s₁.heap.NoLimit) (hg : s₁.gens = #[])
    (ha : s₁.heap.get? a = some { cls := .type "list", data := .seq vs.toArray }) (hi : IntsAre vs ns) (hl : ns.length ≤ sizeLine) (hr : Room k callerA)
    (F : ∀ base : Heap, K.In base → base.Ns mainGlobals mg → FnOk P w K mg base CX k fa fd [x] sp) (hbind : ∀ (s : Shared) (u : Value), BindsTo s fd ⟨[u], []⟩ [(x, u)])
    (hsp : ∀ H : Hp, Only H → SqL K H a (ns.map V.int) → sp [.ref a] H (fun v _ => v = .bl true) fun _ _ _ => False)
    (hCX : ∀ H e s', CX [] H s₁ (fun _ _ _ => False) e s' → False) :
    codeAny (model P w) callerA (.call (.ref fa) ⟨[.ref a], []⟩) (fun r s' => r = .ok (.ret (.bool true)) ∧ OldK s₁.heap s'.heap ∧ s'.os = s₁.os ∧ AllBare s'.gens) s₁ := by
  have rv := vals_ints hi
  have lenV := hi.length
  -- from an abstract heap in which nothing but the script may be tracked
  have core : ∀ H : Hp, Only H → SqL K H a (ns.map V.int) → HOk P w H s₁.heap → (∀ b, H b ≠ none → b = a) → (H a ≠ none → K.lookup a = none) →
      codeAny (model P w) callerA (.call (.ref fa) ⟨[.ref a], []⟩) (fun r s' => r = .ok (.ret (.bool true)) ∧ OldK s₁.heap s'.heap ∧ s'.os = s₁.os ∧ AllBare s'.gens) s₁ := by
    intro H hO hS hok hA hK
    have base_of : ∀ {b : Addr} {o : Obj}, s₁.heap.get? b = some o → H b = none → (hidT s₁.heap H).get? b = some o := fun e n => hidT_get e n
    have noA : ∀ {b : Addr} {o : Obj} {es : Array DictEntry} {ep : Nat}, s₁.heap.get? b = some o → o.data = .dict es ep → H b = none := fun {b o es ep} e d => by
      cases q : H b with
      | none => rfl
      | some u =>
        have e' : b = a := hA b (by rw [q]; simp)
        subst e'
        rw [ha] at e; cases e
        have d' : Data.seq vs.toArray _ = Data.dict es ep := d
        cases d'
    have nsK : ∀ {b : Addr} {m : Str → Option Value}, s₁.heap.Ns b m → (hidT s₁.heap H).Ns b m := fun {b m} ⟨o, es, ep, e, d, r⟩ => ⟨o, es, ep, base_of e (noA e d), d, r⟩
    have hKb : K.In (hidT s₁.heap H) := fun b o e => base_of (KX b o e) (by
      cases q : H b with
      | none => rfl
      | some u =>
        have e' : b = a := hA b (by rw [q]; simp)
        subst e'
        rw [hK (by rw [q]; simp)] at e; cases e)
    have hM : Mod K mg (hidT s₁.heap H) := ⟨hKb, nsK hns, ⟨mb, nsK hb, hbb⟩, let ⟨mc, h1, h2⟩ := hlim; ⟨mc, nsK h1, h2⟩⟩
    have e0 : Env0 P w K mg (hidT s₁.heap H) callerA [] s₁ H := ⟨rfl, hM, fun b o e => of_hidT e, Nat.le_of_eq (hidT_size _ _), trivial, fun b hb => absurd (show b ∈ ([] : List Addr) from hb) (by simp), hok, .of_eq hg⟩
    refine codeAny_mono ((F _ hKb (nsK hns)).run callerA [] s₁ H ⟨[.ref a], []⟩ [.ref a] [.ref a] _ _ hr e0 (hbind s₁ (.ref a)) (.cons rfl .nil) (hsp H hO hS)) fun r s' h => ?_
    cases r with
    | error e => exact (hCX H e s' h).elim
    | ok fl =>
      cases fl with
      | next => exact False.elim h
      | brk => exact False.elim h
      | cont => exact False.elim h
      | ret u =>
        obtain ⟨v, H', os, bare, un, hok', r', q⟩ := h
        have q' : v = .bl true := q
        subst q'
        obtain rfl : u = Value.bool true := r'
        refine ⟨rfl, OldK.of_keep fun b o e => ?_, os, bare⟩
        cases q : H b with
        | none => exact un.keep b o e q (by intro z; exact absurd (show b ∈ ([] : List Addr) from z) (by simp)) (by simp)
        | some u =>
          rcases hO b with z | ⟨ob, xs, z⟩
          · rw [q] at z; cases z
          · have z2 := un.frzs b ob _ z
            obtain ⟨e1, _⟩ := hok b _ z
            obtain ⟨e2, _⟩ := hok' b _ z2
            rw [e] at e1; cases e1
            exact e2
  cases hk : K.lookup a with
  | some o =>
    -- the script is one of the module's own objects
    have e := KX a o hk
    rw [ha] at e
    cases e
    refine core (fun _ => none) (fun _ => .inl rfl) (.inr ⟨_, vs.toArray, _, hk, rfl, rfl, rfl, by rw [List.size_toArray, lenV]; exact hl, by simpa using rv⟩) (fun b u z => by have z' : (none : Option HO) = some u := z; cases z') (fun b z => absurd rfl z) fun z => absurd rfl z
  | none =>
    refine core (fun b => if b = a then some (.frz { cls := .type "list", data := .seq vs.toArray } (.lst (ns.map V.int))) else none) (fun b => ?_) (.inl (.inr ⟨{ cls := .type "list", data := .seq vs.toArray }, if_pos rfl⟩)) (fun b u z => ?_) (fun b z => ?_) fun _ => hk
    · by_cases hb : b = a
      · exact .inr ⟨_, _, if_pos hb⟩
      · exact .inl (if_neg hb)
    · by_cases hb : b = a
      · have z' := (if_pos hb).symm.trans z
        cases z'
        subst hb
        exact ⟨ha, by rw [List.length_map]; exact hl, vs, _, rv, ha⟩
      · have z' := (if_neg hb).symm.trans z
        cases z'
    · by_cases hb : b = a
      · exact hb
      · exact absurd (if_neg hb) z
end L2

namespace L2
open PySem PySem.Spec PyProof.Rows

abbrev KOf {K : PySem.W.Frag} {h : Heap} (_ : K.In h) : PySem.W.Frag := K

/-- the goal that k_head leaves (case hc), from the law's promise. F gives the function object fd (K's own) once, then the promise over every base -/
theorem walk_of {l : PySem.W.OpenLaw} {n k : Nat} {q : Program} {loose : List Str} {XP : (Str → Option Value) → Heap → Prop} {YP : World → Heap → Prop} {d : DefRec} {K : Params → PySem.W.Frag} {CX : World → CXT} {sp : World → Sp} {x : Str}
    (hn : l.most = some n) (hn2 : n ≤ sizeLine) (hdf : d.params.defaults = []) (hr : Room k callerA)
    (hY : ∀ (w : World) (h : Heap), YP w h → (K w.params).In h)
    (F : ∀ (w : World) (mg : Str → Option Value) (fa : Addr) (h : Heap), (K w.params).In h → h.Ns mainGlobals mg → mg d.name = some (.ref fa) →
      ∃ fd : FuncData, (∀ (s : Shared) (u : Value), BindsTo s fd ⟨[u], []⟩ [(x, u)]) ∧
        ∀ base : Heap, (K w.params).In base → base.Ns mainGlobals mg → FnOk l.prog w (K w.params) mg base (CX w) k fa fd [x] (sp w))
    (hsp : ∀ (w : World) (H : Hp) (a : Addr) (ns : List Int), ns.length ≤ n → Only H → SqL (K w.params) H a (ns.map V.int) → sp w [.ref a] H (fun v _ => v = .bl true) fun _ _ _ => False)
    (hCX : ∀ (w : World) (H : Hp) (s : Shared) (e : Value) (s' : Shared), CX w [] H s (fun _ _ _ => False) e s' → False) :
    PySem.W.WalkO q loose XP YP l.row.toRowW d [] (fun f vs => PySem.call f vs) := by
  refine Att.attach_call hn hdf fun w s₀ s₁ mg mb fa o pm cd doc a vs ns G Y ho hd hcd hmg hobj hints hlen hg => ?_
  have KX := hY w _ Y
  obtain ⟨fd, hb, hF⟩ := F w mg fa _ KX G.T.g hmg
  exact law_call KX G.T.g G.T.b G.T.builtins G.T.nolimit hg hobj hints (Nat.le_trans hlen hn2) hr hF hb (fun H hO hS => hsp w H a ns hlen hO hS) fun H e s' => hCX w H s₁ e s'
/-- the same where the promise hangs on the written part alone: (sp := My.sp_law), no hole under a binder -/
theorem walk_ofK {l : PySem.W.OpenLaw} {n k : Nat} {q : Program} {loose : List Str} {XP : (Str → Option Value) → Heap → Prop} {YP : World → Heap → Prop} {d : DefRec} {K : Params → PySem.W.Frag} {CX : CXT} {sp : PySem.W.Frag → Sp} {x : Str}
    (hn : l.most = some n) (hn2 : n ≤ sizeLine) (hdf : d.params.defaults = []) (hr : Room k callerA)
    (hY : ∀ (w : World) (h : Heap), YP w h → (K w.params).In h)
    (F : ∀ (w : World) (mg : Str → Option Value) (fa : Addr) (h : Heap), (K w.params).In h → h.Ns mainGlobals mg → mg d.name = some (.ref fa) →
      ∃ fd : FuncData, (∀ (s : Shared) (u : Value), BindsTo s fd ⟨[u], []⟩ [(x, u)]) ∧
        ∀ base : Heap, (K w.params).In base → base.Ns mainGlobals mg → FnOk l.prog w (K w.params) mg base CX k fa fd [x] (sp (K w.params)))
    (hsp : ∀ (K : PySem.W.Frag) (H : Hp) (a : Addr) (ns : List Int), ns.length ≤ n → Only H → SqL K H a (ns.map V.int) → sp K [.ref a] H (fun v _ => v = .bl true) fun _ _ _ => False)
    (hCX : ∀ (H : Hp) (s : Shared) (e : Value) (s' : Shared), CX [] H s (fun _ _ _ => False) e s' → False) :
    PySem.W.WalkO q loose XP YP l.row.toRowW d [] (fun f vs => PySem.call f vs) :=
  walk_of (K := K) (CX := fun _ => CX) (sp := fun w => sp (K w.params)) hn hn2 hdf hr hY F (fun w H a ns h1 h2 h3 => hsp (K w.params) H a ns h1 h2 h3) fun _ H s e s' => hCX H s e s'
end L2

/- THE LAST THEOREM (shape; LID, My.* are yours):
   My.Adr: a structure of the addresses that your layer names (classes, functions); My.Txt K t: a structure (Prop) of the equations over K;
   My.txt_mk : {K} {implicit addresses ..} (e1 : nsIn K mainGlobals "law" = some (some (.ref f))) (e2 : K.lookup f = some ⟨oc, od, .func (fnOf "law" "law" params body scope dV kV doc pm an cdv ct), sl⟩) (e3 : codeIn K cdv "law" = true) .. : ∃ t, My.Txt K t

set_option maxRecDepth 100000 in
set_option maxHeartbeats 0 in
theorem PySem.Challenge.cw_LID_holds : PySem.Challenge.rw_LID.Holds := by
  w_on; o_law; k_head; (case hw => w_witness2)
  k_fill
  refine L2.walk_of (l := PySem.Challenge.rw_LID) (n := 63) (k := 40) (x := "script") (CX := fun w => ..) (sp := fun _ => My.sp_law) rfl (by decide) rfl ⟨rfl, by decide, by decide⟩ (fun w h Y => PySem.W.kIn_of Y) ?F ?S ?C
  case F =>
    intro w mg fa h KX G hmg
    have T : ∃ t, My.Txt (L2.KOf KX) t := by
      dsimp only [L2.KOf]                          -- K must stand as «<heap const> w.params» for k_is
      refine' My.txt_mk ?e1 ?e2 ?e3 ..
      (case e1 => PySem.W.k_is)                    -- in the order: a name -> its address -> its object -> its parts
      (case e2 => PySem.W.k_is)
      ..
    obtain ⟨t, T⟩ := T
    have e0 := hmg.symm.trans (PySem.W.mg_of KX G T.law)
    cases e0                                       -- fa is the law's own address
    exact ⟨_, fun s u => .of_eq rfl, fun base kb nb => My.law_fn T kb nb⟩     -- if «.of_eq rfl» comes too early: refine' ⟨_, ?b, fun base kb nb => My.law_fn T kb nb⟩; exact fun s u => .of_eq rfl
  case S => exact fun w H a ns hl hO hS => ..
  case C => exact ..
(the tactic k_is has no namespace: write k_is) -/

/-! SHORT WORDS over the layer: a def of the text, its body, what a loop and a test want. -/
namespace L2
open PySem PySem.Spec PyProof.Rows

/-! ### the text by places -/
/-- the j-th statement of a class's body -/
def inClass (s : Stmt) (j : Nat) : Stmt := match s with
  | .ClassDef _ _ _ body _ _ _ _ _ _ _ => body.getD j (.Pass ⟨0, 0, 0, 0⟩)
  | _ => .Pass ⟨0, 0, 0, 0⟩
def defArgs (s : Stmt) : Arguments := match s with
  | .FunctionDef _ a _ _ _ _ _ _ _ _ => a
  | _ => { posonlyargs := [], args := [], vararg := none, kwonlyargs := [], kw_defaults := [], kwarg := none, defaults := [] }
def defBody (s : Stmt) : List Stmt := match s with
  | .FunctionDef _ _ b _ _ _ _ _ _ _ => b
  | _ => []
def defScope (s : Stmt) : Scope := match s with
  | .FunctionDef _ _ _ _ _ _ sc _ _ _ => sc
  | _ => { kind := .function, names := [], isGenerator := false, isCoroutine := false }

/-! ### no exception leaves a def -/
abbrev CX0 : CXT := fun _ _ _ _ _ _ => False
abbrev E0 : XK := fun _ _ _ => False
theorem pass0 {X : Cx} : Passes CX0 X E0 := fun _ _ _ _ _ _ _ h => h.elim

/-! ### a def (or method) of the text as it stands behind the top -/
structure Fun (K : PySem.W.Frag) (x qual : Str) (st : Stmt) (f : Addr) (fd : FuncData) : Prop where
  ex : ∃ (oc : Value) (od : Option Addr) (kV doc pm : Value) (an : Option Addr) (cdv ct : Value) (osl : Array (Option Value)),
    fd = PySem.W.fnOf x qual (defArgs st) (defBody st) (defScope st) .none kV doc pm an cdv ct ∧ K.lookup f = some ⟨oc, od, .func fd, osl⟩ ∧ PySem.W.codeIn K cdv qual = true
  kp : PySem.W.keepIn K (.ref f) = true
section
variable {P : Program} {w : World} {K : PySem.W.Frag} {mg : Str → Option Value} {base : Heap}
/-- THE RULE for a def: its body as a term of rules, and the reading of that term -/
theorem Fun.ok {x qual : Str} {st : Stmt} {f : Addr} {fd : FuncData} {N ps : List Str} {k : Nat} {sp : Sp} (F : Fun K x qual st f fd) (S : FnScope N ps (defScope st)) (len : ∀ vs H Q E, sp vs H Q E → vs.length = ps.length)
    (hbody : ∀ (cdv : Value) (A : Around) (outer : List Env) (s : Shared) (H : Hp) (vs : List V) (Q : VK) (E : XK), Room k (A.deeper (envOfC qual (defScope st) s.heap.objs.size f cdv)) → sp vs H Q E →
      ∃ t, PSs (cxOf CX0 P w K mg base N qual (defScope st) f cdv A outer s H E).nox (defBody st) t ∧ t { nx := fun _ H' => Q .non H', rt := Q } (start N vs) H) : FnOk P w K mg base CX0 (k + 1) f fd ps sp := by
  obtain ⟨oc, od, kV, doc, pm, an, cdv, ct, osl, rfl, lk, hcd⟩ := F.ex
  refine fn_of lk hcd S len fun A outer s H vs Q E hr hsp => ?_
  obtain ⟨t, h, q⟩ := hbody cdv A outer s H vs Q E hr hsp
  exact ⟨t, h.nox, q⟩
/-- how its arguments bind (no defaults): h is «fun _ _ _ _ _ _ us hl => match us, hl with | [_, _], _ => rfl», one _ a parameter -/
theorem Fun.binds {x qual : Str} {st : Stmt} {f : Addr} {fd : FuncData} {ps : List Str} (F : Fun K x qual st f fd)
    (h : ∀ (kV doc pm : Value) (an : Option Addr) (cdv ct : Value) (us : List Value), us.length = ps.length → bindArgs (PySem.W.fnOf x qual (defArgs st) (defBody st) (defScope st) .none kV doc pm an cdv ct) ⟨us, []⟩ = pure (ps.zip us)) : Binds K fd ps [] := by
  obtain ⟨oc, od, kV, doc, pm, an, cdv, ct, osl, rfl, lk, hcd⟩ := F.ex
  exact .all (h kV doc pm an cdv ct)
theorem fun_mk {x qual : Str} {st : Stmt} {f : Addr} {oc : Value} {od an : Option Addr} {osl : Array (Option Value)} {kV doc pm cdv ct : Value} (l : K.lookup f = some ⟨oc, od, .func (PySem.W.fnOf x qual (defArgs st) (defBody st) (defScope st) .none kV doc pm an cdv ct), osl⟩)
    (c : PySem.W.codeIn K cdv qual = true) (k : PySem.W.keepIn K (.ref f) = true) : Fun K x qual st f (PySem.W.fnOf x qual (defArgs st) (defBody st) (defScope st) .none kV doc pm an cdv ct) := ⟨⟨oc, od, kV, doc, pm, an, cdv, ct, osl, rfl, l, c⟩, k⟩
end
theorem hu_of {A : Around} {k : Nat} (hr : Room k A) : A.units + 1 < cLine := Nat.lt_of_le_of_lt (Nat.add_le_add_left (by decide : 1 ≤ 64) _) hr.units
theorem small1000 {n : Nat} (h : n ≤ 1000) : n < sizeLine := Nat.lt_of_le_of_lt h (by decide)

/-! ### expressions in short: the name that stands in the i-th slot -/
section
variable {X : Cx}
theorem pv (i : Nat) {x : Str} {pos : Pos} (hN : X.N[i]? = some x := by rfl) (hv : Vis X.env.scope x := by first | exact Or.inl rfl | exact Or.inr (Or.inl rfl) | exact Or.inr (Or.inr rfl)) (hd : (x == ("__debug__" : Str)) = false := by decide)
    (hcd : (x == ("__classdict__" : Str)) = false := by decide) : PE X (.Name x pos) (tVar i) := pe_var hN hv hd hcd
end

/-! ### tests -/
theorem iteF {A B : Prop} (h : B) : if false = true then A else B := by
  rw [if_neg Bool.false_ne_true]
  exact h
theorem iteT {A B : Prop} (h : A) : if true = true then A else B := by
  rw [if_pos rfl]
  exact h
theorem ite2 {c A B : Prop} [Decidable c] (h1 : c → A) (h2 : ¬ c → B) : if c then A else B := by
  by_cases h : c
  · rw [if_pos h]
    exact h1 h
  · rw [if_neg h]
    exact h2 h
theorem iteNS {c A B : Prop} [Decidable c] (hc : c) (h : B) : if (!decide c) = true then A else B := by
  rw [decide_eq_true hc]
  exact iteF h

/-! ### heaps -/
/-- all that was tracked is as it was -/
def Same (H H' : Hp) : Prop := ∀ b o, H b = some o → H' b = some o
theorem Same.refl (H : Hp) : Same H H := fun _ _ h => h
theorem Same.trans {H H1 H2 : Hp} (a : Same H H1) (b : Same H1 H2) : Same H H2 := fun c o h => b c o (a c o h)
theorem Same.free {H H' : Hp} (e : Same H H') {l : Addr} (h : H' l = Option.none) : H l = Option.none := by
  cases q : H l with
  | none => rfl
  | some o =>
    rw [e l o q] at h
    cases h
theorem Same.seq {K : PySem.W.Frag} {H H' : Hp} {a : Addr} {xs : List V} (e : Same H H') (h : SqL K H a xs) : SqL K H' a xs := by
  rcases h with (h | ⟨o, h⟩) | h
  · exact .inl (.inl (e _ _ h))
  · exact .inl (.inr ⟨o, e _ _ h⟩)
  · exact .inr h

end L2

namespace Gold

theorem sq_nonneg (x : Int) : 0 ≤ x * x := by
  rcases Int.le_total 0 x with h | h
  · exact Int.mul_nonneg h h
  · exact Int.mul_nonneg_of_nonpos_of_nonpos h h

theorem sq_pos {x : Int} (h : x ≠ 0) : 0 < x * x := by
  rcases Int.lt_or_gt_of_ne h with h | h
  · exact Int.mul_pos_of_neg_of_neg h h
  · exact Int.mul_pos h h

/-- a square below a square -/
theorem sq_lt {u v : Int} (hv : 0 ≤ v) (h : u * u < v * v) : -v < u ∧ u < v := by
  constructor
  · rcases (by omega : -v < u ∨ u ≤ -v) with h' | h'
    · exact h'
    · exfalso
      have h1 : v ≤ -u := by omega
      have := Int.mul_le_mul h1 h1 hv (by omega)
      rw [Int.neg_mul_neg] at this
      omega
  · rcases (by omega : u < v ∨ v ≤ u) with h' | h'
    · exact h'
    · exfalso
      have := Int.mul_le_mul h' h' hv (by omega)
      omega

theorem mul_lt_mul_sq {a b c d : Int} (hb : 0 ≤ a) (hd : 0 ≤ c) (h1 : a < b) (h2 : c < d) : a * c < b * d := by
  have s1 : a * c ≤ a * d := Int.mul_le_mul_of_nonneg_left (by omega) hb
  have s2 : a * d < b * d := Int.mul_lt_mul_of_pos_right h1 (by omega)
  omega

/-- both even, from the norm nought -/
theorem norm_even {a b : Int} (h : a * a + a * b - b * b = 0) : a % 2 = 0 ∧ b % 2 = 0 := by
  have ha := Int.emod_two_eq a
  have hb := Int.emod_two_eq b
  have ea : a = 2 * (a / 2) + a % 2 := by omega
  have eb : b = 2 * (b / 2) + b % 2 := by omega
  generalize a / 2 = x at *
  generalize b / 2 = y at *
  rcases ha with ha | ha <;> rcases hb with hb | hb <;> rw [ha] at ea <;> rw [hb] at eb <;> subst ea <;> subst eb
  · omega
  · exfalso
    have : (2*x+0)*(2*x+0)+(2*x+0)*(2*y+1)-(2*y+1)*(2*y+1) = 2 * (2*x*x + 2*x*y + x - 2*y*y - 2*y) - 1 := by grind
    omega
  · exfalso
    have : (2*x+1)*(2*x+1)+(2*x+1)*(2*y+0)-(2*y+0)*(2*y+0) = 2 * (2*x*x+2*x + 2*x*y + y - 2*y*y) + 1 := by grind
    omega
  · exfalso
    have : (2*x+1)*(2*x+1)+(2*x+1)*(2*y+1)-(2*y+1)*(2*y+1) = 2 * (2*x*x+2*x + 2*x*y + x + y - 2*y*y-2*y) + 1 := by grind
    omega

theorem norm_zero_aux : ∀ (n : Nat) (a b : Int), a.natAbs + b.natAbs ≤ n → a * a + a * b - b * b = 0 → a = 0 ∧ b = 0
  | 0, a, b, h, _ => by omega
  | n + 1, a, b, h, e => by
    have ⟨ha, hb⟩ := norm_even e
    have ea : a = 2 * (a / 2) := by omega
    have eb : b = 2 * (b / 2) := by omega
    by_cases z : a = 0 ∧ b = 0
    · exact z
    have hx : (a/2).natAbs + (b/2).natAbs ≤ n := by omega
    generalize a / 2 = x at *
    generalize b / 2 = y at *
    subst ea; subst eb
    have e' : x * x + x * y - y * y = 0 := by
      have : (2*x)*(2*x)+(2*x)*(2*y)-(2*y)*(2*y) = 4 * (x * x + x * y - y * y) := by grind
      omega
    have := norm_zero_aux n x y hx e'
    omega

theorem norm_zero {a b : Int} (h : a * a + a * b - b * b = 0) : a = 0 ∧ b = 0 := norm_zero_aux _ a b (Nat.le_refl _) h

/-- p p is five b b for noughts alone -/
theorem five {p b : Int} (h : p * p = 5 * (b * b)) : p = 0 ∧ b = 0 := by
  -- the norm of (p - b, 2 b) is p p - 5 b b
  have e : (p - b) * (p - b) + (p - b) * (2 * b) - (2 * b) * (2 * b) = p * p - 5 * (b * b) := by grind
  have := norm_zero (a := p - b) (b := 2 * b) (by rw [e]; omega)
  omega

/-- p + b times the root of 5 is above nought -/
def Q (p b : Int) : Prop := (0 < p ∧ 5 * (b * b) < p * p) ∨ (0 < b ∧ p * p < 5 * (b * b))

theorem tri1 {x y w z : Int} (hw : 0 ≤ w) (hz : 0 ≤ z) (h1 : x * x < 5 * (w * w)) (h2 : y * y < 5 * (z * z)) : (x + y) * (x + y) < 5 * ((w + z) * (w + z)) := by
  have m := mul_lt_mul_sq (sq_nonneg x) (sq_nonneg y) h1 h2
  have wz := Int.mul_nonneg hw hz
  have m' : (x * y) * (x * y) < (5 * (w * z)) * (5 * (w * z)) := by grind
  have := (sq_lt (by omega) m').2
  grind

theorem tri2 {x y w z : Int} (hw : 0 ≤ w) (hz : 0 ≤ z) (h1 : 5 * (x * x) < w * w) (h2 : 5 * (y * y) < z * z) : 5 * ((x + y) * (x + y)) < (w + z) * (w + z) := by
  have m := mul_lt_mul_sq (a := 5 * (x * x)) (c := 5 * (y * y)) (by have := sq_nonneg x; omega) (by have := sq_nonneg y; omega) h1 h2
  have wz := Int.mul_nonneg hw hz
  have m' : (5 * (x * y)) * (5 * (x * y)) < (w * z) * (w * z) := by grind
  have := (sq_lt (by omega) m').2
  grind

theorem Q.add {p b r d : Int} (h1 : Q p b) (h2 : Q r d) : Q (p + r) (b + d) := by
  have aux : ∀ {p b r d : Int}, 0 < p → 5 * (b * b) < p * p → 0 < d → r * r < 5 * (d * d) → Q (p + r) (b + d) := by
    intro p b r d hp hpb hd hrd
    rcases Int.lt_trichotomy ((p + r) * (p + r)) (5 * ((b + d) * (b + d))) with h | h | h
    · refine .inr ⟨?_, h⟩
      rcases (by omega : 0 < b + d ∨ b + d ≤ 0) with h' | h'
      · exact h'
      exfalso
      have t := tri1 (x := p + r) (y := -r) (w := -(b + d)) (z := d) (by omega) (by omega) (by grind) (by grind)
      grind
    · exfalso
      have := five h
      have e1 : r = -p := by omega
      have e2 : d = -b := by omega
      subst e1; subst e2
      grind
    · refine .inl ⟨?_, h⟩
      rcases (by omega : 0 < p + r ∨ p + r ≤ 0) with h' | h'
      · exact h'
      exfalso
      have t := tri2 (x := b + d) (y := -b) (w := -(p + r)) (z := p) (by omega) (by omega) (by grind) (by grind)
      grind
  rcases h1 with ⟨hp, hpb⟩ | ⟨hb, hpb⟩ <;> rcases h2 with ⟨hr, hrd⟩ | ⟨hd, hrd⟩
  · exact .inl ⟨by omega, tri2 (by omega) (by omega) hpb hrd⟩
  · exact aux hp hpb hd hrd
  · have := aux hr hrd hb hpb
    rw [Int.add_comm p r, Int.add_comm b d]
    exact this
  · exact .inr ⟨by omega, tri1 (by omega) (by omega) hpb hrd⟩

/-- the greater square rules the sum's sign -/
theorem rule {u v : Int} (h : v * v < u * u) (hu : 0 < u) : 0 < u + v := by
  have := sq_lt (by omega) h
  omega

theorem Q.mul {p b r d : Int} (h1 : Q p b) (h2 : Q r d) : Q (p * r + 5 * (b * d)) (p * d + b * r) := by
  have e : (p * r + 5 * (b * d)) * (p * r + 5 * (b * d)) - 5 * ((p * d + b * r) * (p * d + b * r)) = (p * p - 5 * (b * b)) * (r * r - 5 * (d * d)) := by grind
  rcases h1 with ⟨hp, hpb⟩ | ⟨hb, hpb⟩ <;> rcases h2 with ⟨hr, hrd⟩ | ⟨hd, hrd⟩
  · refine .inl ⟨rule ?_ (Int.mul_pos hp hr), ?_⟩
    · have m := mul_lt_mul_sq (a := 5 * (b * b)) (c := 5 * (d * d)) (by have := sq_nonneg b; omega) (by have := sq_nonneg d; omega) hpb hrd
      grind
    · have := Int.mul_pos (a := p * p - 5 * (b * b)) (b := r * r - 5 * (d * d)) (by omega) (by omega)
      omega
  · refine .inr ⟨rule ?_ (Int.mul_pos hp hd), ?_⟩
    · have m := mul_lt_mul_sq (a := 5 * (b * b)) (c := r * r) (by have := sq_nonneg b; omega) (sq_nonneg r) hpb hrd
      grind
    · have := Int.mul_neg_of_pos_of_neg (a := p * p - 5 * (b * b)) (b := r * r - 5 * (d * d)) (by omega) (by omega)
      omega
  · refine .inr ⟨?_, ?_⟩
    · rw [Int.add_comm]
      refine rule ?_ (Int.mul_pos hb hr)
      have m := mul_lt_mul_sq (a := p * p) (c := 5 * (d * d)) (sq_nonneg p) (by have := sq_nonneg d; omega) hpb hrd
      grind
    · have := Int.mul_neg_of_neg_of_pos (a := p * p - 5 * (b * b)) (b := r * r - 5 * (d * d)) (by omega) (by omega)
      omega
  · refine .inl ⟨?_, ?_⟩
    · rw [Int.add_comm]
      refine rule ?_ (by have := Int.mul_pos hb hd; omega)
      have m := mul_lt_mul_sq (a := p * p) (c := r * r) (sq_nonneg p) (sq_nonneg r) hpb hrd
      grind
    · have := Int.mul_pos_of_neg_of_neg (a := p * p - 5 * (b * b)) (b := r * r - 5 * (d * d)) (by omega) (by omega)
      omega

theorem Q.half {p b : Int} (h : Q (2 * p) (2 * b)) : Q p b := by
  have e1 : (2 * p) * (2 * p) = 4 * (p * p) := by grind
  have e2 : (2 * b) * (2 * b) = 4 * (b * b) := by grind
  unfold Q at h ⊢
  rw [e1, e2] at h
  omega

theorem Q.not_neg {p b : Int} (h : Q p b) : ¬ Q (-p) (-b) := by
  intro h'
  unfold Q at h h'
  rw [Int.neg_mul_neg, Int.neg_mul_neg] at h'
  omega

theorem Q.ne {p b : Int} (h : Q p b) : ¬ (p = 0 ∧ b = 0) := by
  rintro ⟨rfl, rfl⟩
  unfold Q at h
  omega

theorem Q.tri (p b : Int) : Q p b ∨ (p = 0 ∧ b = 0) ∨ Q (-p) (-b) := by
  unfold Q
  rw [Int.neg_mul_neg, Int.neg_mul_neg]
  rcases Int.lt_trichotomy (p * p) (5 * (b * b)) with h | h | h
  · have hb : b ≠ 0 := by
      rintro rfl
      have := sq_nonneg p
      omega
    rcases Int.lt_or_gt_of_ne hb with h' | h'
    · exact .inr (.inr (.inr ⟨by omega, h⟩))
    · exact .inl (.inr ⟨h', h⟩)
  · exact .inr (.inl (five h))
  · have hp : p ≠ 0 := by
      rintro rfl
      have := sq_nonneg b
      omega
    rcases Int.lt_or_gt_of_ne hp with h' | h'
    · exact .inr (.inr (.inl ⟨by omega, h⟩))
    · exact .inl (.inl ⟨h', h⟩)

/-- a + b G is above nought -/
def Pos (a b : Int) : Prop := Q (2 * a + b) b

theorem Pos.add {a b c d : Int} (h1 : Pos a b) (h2 : Pos c d) : Pos (a + c) (b + d) := by
  have := Q.add h1 h2
  unfold Pos
  rw [show 2 * (a + c) + (b + d) = 2 * a + b + (2 * c + d) by omega]
  exact this

theorem Pos.mul {a b c d : Int} (h1 : Pos a b) (h2 : Pos c d) : Pos (a * c + b * d) (a * d + b * c + b * d) := by
  have := Q.mul h1 h2
  unfold Pos
  refine Q.half ?_
  have e1 : 2 * (2 * (a * c + b * d) + (a * d + b * c + b * d)) = (2 * a + b) * (2 * c + d) + 5 * (b * d) := by grind
  have e2 : 2 * (a * d + b * c + b * d) = (2 * a + b) * d + b * (2 * c + d) := by grind
  rw [e1, e2]
  exact this

theorem Pos.tri (a b : Int) : Pos a b ∨ (a = 0 ∧ b = 0) ∨ Pos (-a) (-b) := by
  have := Q.tri (2 * a + b) b
  unfold Pos
  rw [show 2 * -a + -b = -(2 * a + b) by omega]
  rcases this with h | h | h
  · exact .inl h
  · exact .inr (.inl (by omega))
  · exact .inr (.inr h)

theorem Pos.not_neg {a b : Int} (h : Pos a b) : ¬ Pos (-a) (-b) := by
  unfold Pos
  rw [show 2 * -a + -b = -(2 * a + b) by omega]
  exact Q.not_neg h

theorem Pos.ne {a b : Int} (h : Pos a b) : ¬ (a = 0 ∧ b = 0) := fun ⟨x, y⟩ => Q.ne h ⟨by omega, y⟩

/-- the sign as the program reckons it -/
def nrm (a b : Int) : Int := a * a + a * b - b * b
def sgn (a b : Int) : Int := if nrm a b = 0 then 0 else if (if 0 < nrm a b then 2 * a + b else b) > 0 then 1 else -1

theorem four_nrm (a b : Int) : 4 * nrm a b = (2 * a + b) * (2 * a + b) - 5 * (b * b) := by unfold nrm; grind

theorem sgn_pos {a b : Int} (h : Pos a b) : sgn a b = 1 := by
  have f := four_nrm a b
  unfold sgn
  unfold Pos Q at h
  rcases h with ⟨h1, h2⟩ | ⟨h1, h2⟩
  · rw [if_neg (by omega), if_pos (show 0 < nrm a b by omega), if_pos (by omega)]
  · rw [if_neg (by omega), if_neg (show ¬ 0 < nrm a b by omega), if_pos (by omega)]
theorem sgn_neg {a b : Int} (h : Pos (-a) (-b)) : sgn a b = -1 := by
  have f := four_nrm a b
  unfold sgn
  unfold Pos Q at h
  rw [show 2 * -a + -b = -(2 * a + b) by omega, Int.neg_mul_neg, Int.neg_mul_neg] at h
  rcases h with ⟨h1, h2⟩ | ⟨h1, h2⟩
  · rw [if_neg (by omega), if_pos (show 0 < nrm a b by omega), if_neg (by omega)]
  · rw [if_neg (by omega), if_neg (show ¬ 0 < nrm a b by omega), if_neg (by omega)]
theorem sgn_zero : sgn 0 0 = 0 := by decide

theorem sgn_one_iff {a b : Int} : sgn a b = 1 ↔ Pos a b := by
  constructor
  · intro h
    rcases Pos.tri a b with p | ⟨rfl, rfl⟩ | p
    · exact p
    · rw [sgn_zero] at h; omega
    · rw [sgn_neg p] at h; omega
  · exact sgn_pos

theorem sgn_mul (a b c d : Int) : sgn (a * c + b * d) (a * d + b * c + b * d) = sgn a b * sgn c d := by
  rcases Pos.tri a b with h1 | ⟨rfl, rfl⟩ | h1 <;> rcases Pos.tri c d with h2 | ⟨rfl, rfl⟩ | h2
  · rw [sgn_pos h1, sgn_pos h2, sgn_pos (h1.mul h2)]; rfl
  · simp [sgn_zero]
  · rw [sgn_pos h1, sgn_neg h2]
    have := h1.mul h2
    rw [sgn_neg (by rw [show -(a * c + b * d) = a * -c + b * -d by grind, show -(a * d + b * c + b * d) = a * -d + b * -c + b * -d by grind]; exact this)]
    rfl
  · simp [sgn_zero]
  · simp [sgn_zero]
  · simp [sgn_zero]
  · rw [sgn_neg h1, sgn_pos h2]
    have := h1.mul h2
    rw [sgn_neg (by rw [show -(a * c + b * d) = -a * c + -b * d by grind, show -(a * d + b * c + b * d) = -a * d + -b * c + -b * d by grind]; exact this)]
    rfl
  · simp [sgn_zero]
  · rw [sgn_neg h1, sgn_neg h2]
    have := h1.mul h2
    rw [sgn_pos (by rw [show (a * c + b * d) = -a * -c + -b * -d by grind, show (a * d + b * c + b * d) = -a * -d + -b * -c + -b * -d by grind]; exact this)]
    rfl

theorem sgn_add {a b c d : Int} (h : sgn a b = sgn c d) : sgn (a + c) (b + d) = sgn a b := by
  rcases Pos.tri a b with h1 | ⟨rfl, rfl⟩ | h1
  · rw [sgn_pos h1] at h ⊢
    exact sgn_pos (h1.add (sgn_one_iff.mp h.symm))
  · rw [h]; simp
  · rcases Pos.tri c d with h2 | ⟨rfl, rfl⟩ | h2
    · rw [sgn_neg h1, sgn_pos h2] at h; omega
    · rw [sgn_neg h1, sgn_zero] at h; omega
    · rw [sgn_neg h1]
      refine sgn_neg ?_
      have := h1.add h2
      rw [show -(a + c) = -a + -c by omega, show -(b + d) = -b + -d by omega]
      exact this

theorem sgn_turn (a b : Int) : sgn (0 - a) (0 - b) = 0 - sgn a b := by
  rw [show 0 - a = -a by omega, show 0 - b = -b by omega]
  rcases Pos.tri a b with h1 | ⟨rfl, rfl⟩ | h1
  · rw [sgn_pos h1, sgn_neg (by rw [Int.neg_neg, Int.neg_neg]; exact h1)]; rfl
  · decide
  · rw [sgn_neg h1, sgn_pos h1]; rfl

/-- the law's own reckoning by squares -/
def absI (x : Int) : Int := if x < 0 then -x else x
def due (a b : Int) : Int := (if 0 < (2 * a + b) * absI (2 * a + b) + 5 * b * absI b then 1 else 0) - (if (2 * a + b) * absI (2 * a + b) + 5 * b * absI b < 0 then 1 else 0)

theorem sgn_due (a b : Int) : sgn a b = due a b := by
  have pos : ∀ p b : Int, Q p b → 0 < p * absI p + 5 * b * absI b := by
    intro p b h
    have s1 := sq_nonneg p
    have s2 := sq_nonneg b
    have t1 : p ≠ 0 → 0 < p * p := sq_pos
    have t2 : b ≠ 0 → 0 < b * b := sq_pos
    unfold absI
    unfold Q at h
    have e1 : p * -p = -(p * p) := Int.mul_neg p p
    have e2 : 5 * b * -b = -(5 * (b * b)) := by grind
    have e3 : 5 * b * b = 5 * (b * b) := by grind
    split <;> split <;> simp only [e1, e2, e3] <;> omega
  have neg : ∀ x : Int, absI (-x) = absI x := by intro x; unfold absI; split <;> split <;> omega
  unfold due
  rcases Pos.tri a b with h | ⟨rfl, rfl⟩ | h
  · have := pos _ _ h
    rw [sgn_pos h, if_pos this, if_neg (by omega)]; rfl
  · decide
  · have := pos _ _ h
    rw [show 2 * -a + -b = -(2 * a + b) by omega, neg, neg, show 5 * -b = -(5 * b) by omega, Int.neg_mul, Int.neg_mul] at this
    rw [sgn_neg h, if_neg (by omega), if_pos (by omega)]; rfl

end Gold

namespace Gold

/-- numbers as pairs -/
abbrev Nm := Int × Int
def add (x y : Nm) : Nm := (x.1 + y.1, x.2 + y.2)
def sub (x y : Nm) : Nm := (x.1 - y.1, x.2 - y.2)
def mul (x y : Nm) : Nm := (x.1 * y.1 + x.2 * y.2, x.1 * y.2 + x.2 * y.1 + x.2 * y.2)
def conj (x : Nm) : Nm := (x.1 + x.2, -x.2)

theorem mul_comm (x y : Nm) : mul x y = mul y x := by
  apply Prod.ext <;> simp only [mul] <;> grind
theorem mul_assoc (x y z : Nm) : mul (mul x y) z = mul x (mul y z) := by
  apply Prod.ext <;> simp only [mul] <;> grind
theorem mul_add (x y z : Nm) : mul x (add y z) = add (mul x y) (mul x z) := by
  apply Prod.ext <;> simp only [mul, add] <;> grind
theorem mul_one (x : Nm) : mul x (1, 0) = x := by
  apply Prod.ext <;> simp only [mul] <;> grind
theorem one_mul (x : Nm) : mul (1, 0) x = x := by
  apply Prod.ext <;> simp only [mul] <;> grind
theorem add_comm (x y : Nm) : add x y = add y x := by
  apply Prod.ext <;> simp only [add] <;> omega
theorem add_assoc (x y z : Nm) : add (add x y) z = add x (add y z) := by
  apply Prod.ext <;> simp only [add] <;> omega
theorem add_zero (x : Nm) : add x (0, 0) = x := by
  apply Prod.ext <;> simp only [add] <;> omega

def gp : Nat → Nm
  | 0 => (1, 0)
  | n + 1 => mul (0, 1) (gp n)
def gm : Nat → Nm
  | 0 => (1, 0)
  | n + 1 => mul (-1, 1) (gm n)
/-- G to the power k -/
def pw (k : Int) : Nm := if 0 ≤ k then gp k.toNat else gm (-k).toNat

theorem pw_zero : pw 0 = (1, 0) := rfl
theorem pw_one : pw 1 = (0, 1) := rfl
theorem inv (x : Nm) : mul (0, 1) (mul (-1, 1) x) = x := by
  apply Prod.ext <;> simp only [mul] <;> grind
theorem inv' (x : Nm) : mul (-1, 1) (mul (0, 1) x) = x := by
  apply Prod.ext <;> simp only [mul] <;> grind
theorem pw_succ (k : Int) : pw (k + 1) = mul (0, 1) (pw k) := by
  unfold pw
  by_cases h : 0 ≤ k
  · rw [if_pos h, if_pos (by omega), show (k + 1).toNat = k.toNat + 1 by omega]; rfl
  · rw [if_neg h]
    by_cases h1 : k = -1
    · subst h1; decide
    · rw [if_neg (by omega), show (-k).toNat = (-(k + 1)).toNat + 1 by omega]
      show _ = mul (0, 1) (mul (-1, 1) _)
      rw [inv]
theorem pw_pred (k : Int) : pw (k - 1) = mul (-1, 1) (pw k) := by
  have := pw_succ (k - 1)
  rw [show k - 1 + 1 = k by omega] at this
  rw [this, inv']
theorem pw_next (k : Int) : pw (k + 2) = add (pw (k + 1)) (pw k) := by
  rw [show k + 2 = k + 1 + 1 by omega, pw_succ, pw_succ]
  apply Prod.ext <;> simp only [mul, add] <;> grind
theorem pw_add_nat (a : Int) : ∀ n : Nat, pw (a + n) = mul (pw a) (pw n)
  | 0 => by rw [show (a + ((0 : Nat) : Int)) = a by omega, show (((0 : Nat) : Int)) = 0 by omega, pw_zero, mul_one]
  | n + 1 => by
    have ih := pw_add_nat a n
    rw [show a + ((n + 1 : Nat) : Int) = a + n + 1 by omega, pw_succ, ih, show ((n + 1 : Nat) : Int) = (n : Int) + 1 by omega, pw_succ, ← mul_assoc, mul_comm (0, 1), mul_assoc]
theorem pw_sub_nat (a : Int) : ∀ n : Nat, pw (a - n) = mul (pw a) (pw (-(n : Int)))
  | 0 => by rw [show (a - ((0 : Nat) : Int)) = a by omega, show -(((0 : Nat) : Int)) = 0 by omega, pw_zero, mul_one]
  | n + 1 => by
    have ih := pw_sub_nat a n
    rw [show a - ((n + 1 : Nat) : Int) = a - n - 1 by omega, pw_pred, ih, show -((n + 1 : Nat) : Int) = -(n : Int) - 1 by omega, pw_pred, ← mul_assoc, mul_comm (-1, 1), mul_assoc]
theorem pw_add (a b : Int) : pw (a + b) = mul (pw a) (pw b) := by
  rcases (by omega : b = (b.toNat : Int) ∨ b = -((-b).toNat : Int)) with h | h
  · rw [h]; exact pw_add_nat a _
  · have := pw_sub_nat a (-b).toNat
    rw [h, ← Int.sub_eq_add_neg]; exact this

def PosN (x : Nm) : Prop := Pos x.1 x.2
theorem PosN.mul {x y : Nm} (h1 : PosN x) (h2 : PosN y) : PosN (mul x y) := Pos.mul h1 h2
theorem PosN.add {x y : Nm} (h1 : PosN x) (h2 : PosN y) : PosN (add x y) := Pos.add h1 h2
theorem pos_one : PosN (1, 0) := sgn_one_iff.mp (by decide)
theorem pos_g : PosN (0, 1) := sgn_one_iff.mp (by decide)
theorem pos_h : PosN (-1, 1) := sgn_one_iff.mp (by decide)
theorem gp_pos : ∀ n, PosN (gp n)
  | 0 => pos_one
  | n + 1 => PosN.mul pos_g (gp_pos n)
theorem gm_pos : ∀ n, PosN (gm n)
  | 0 => pos_one
  | n + 1 => PosN.mul pos_h (gm_pos n)
theorem pw_pos (k : Int) : PosN (pw k) := by
  unfold pw
  split
  · exact gp_pos _
  · exact gm_pos _

theorem gp_bound : ∀ n : Nat, (gp n).1.natAbs ≤ 2 ^ n ∧ (gp n).2.natAbs ≤ 2 ^ n ∧ (gp (n+1)).1.natAbs ≤ 2 ^ n ∧ (gp (n+1)).2.natAbs ≤ 2 ^ n
  | 0 => by decide
  | n + 1 => by
    obtain ⟨h1, h2, h3, h4⟩ := gp_bound n
    have e : gp (n + 2) = Gold.add (gp (n + 1)) (gp n) := by
      show Gold.mul (0, 1) (Gold.mul (0, 1) (gp n)) = Gold.add (Gold.mul (0, 1) (gp n)) (gp n)
      apply Prod.ext <;> simp only [Gold.mul, Gold.add] <;> grind
    rw [e, Nat.pow_succ]
    simp only [Gold.add]
    omega
theorem gm_bound : ∀ n : Nat, (gm n).1.natAbs ≤ 2 ^ (n+1) ∧ (gm n).2.natAbs ≤ 2 ^ (n+1) ∧ (gm (n+1)).1.natAbs ≤ 2 ^ (n+1) ∧ (gm (n+1)).2.natAbs ≤ 2 ^ (n+1)
  | 0 => by decide
  | n + 1 => by
    obtain ⟨h1, h2, h3, h4⟩ := gm_bound n
    have e : gm (n + 2) = Gold.sub (gm n) (gm (n + 1)) := by
      show Gold.mul (-1, 1) (Gold.mul (-1, 1) (gm n)) = Gold.sub (gm n) (Gold.mul (-1, 1) (gm n))
      apply Prod.ext <;> simp only [Gold.mul, Gold.sub] <;> grind
    rw [e, show n + 1 + 1 = (n + 1) + 1 from rfl, Nat.pow_succ]
    simp only [Gold.sub]
    omega
theorem pw_bound (k : Int) {n : Nat} (h : k.natAbs < n) : (pw k).1.natAbs ≤ 2 ^ n ∧ (pw k).2.natAbs ≤ 2 ^ n := by
  unfold pw
  split
  · have := gp_bound k.toNat
    have m : 2 ^ k.toNat ≤ 2 ^ n := Nat.pow_le_pow_right (by decide) (by omega)
    omega
  · have := gm_bound (-k).toNat
    have m : 2 ^ ((-k).toNat + 1) ≤ 2 ^ n := Nat.pow_le_pow_right (by decide) (by omega)
    omega
end Gold

namespace Gold

theorem sub_add (x y : Nm) : add (sub x y) y = x := by
  apply Prod.ext <;> simp only [add, sub] <;> omega
theorem sub_self (x : Nm) : sub x x = (0, 0) := by
  apply Prod.ext <;> simp only [sub] <;> omega
theorem add_sub_l (x y z : Nm) : sub (add x y) (add x z) = sub y z := by
  apply Prod.ext <;> simp only [add, sub] <;> omega
theorem zero_add (x : Nm) : add (0, 0) x = x := by
  apply Prod.ext <;> simp only [add] <;> omega
theorem sub_zero (x : Nm) : sub x (0, 0) = x := by
  apply Prod.ext <;> simp only [sub] <;> omega

/-- x below y -/
def Lt (x y : Nm) : Prop := PosN (sub y x)
def Le (x y : Nm) : Prop := Lt x y ∨ x = y
theorem Lt.trans {x y z : Nm} (h1 : Lt x y) (h2 : Lt y z) : Lt x z := by
  have := PosN.add h2 h1
  unfold Lt
  have e : Gold.add (sub z y) (sub y x) = sub z x := by apply Prod.ext <;> simp only [Gold.add, sub] <;> omega
  rw [e] at this; exact this
theorem Le.refl (x : Nm) : Le x x := .inr rfl
theorem Lt.le {x y : Nm} (h : Lt x y) : Le x y := .inl h
theorem Le.trans {x y z : Nm} (h1 : Le x y) (h2 : Le y z) : Le x z := by
  rcases h1 with h1 | rfl
  · rcases h2 with h2 | rfl
    · exact .inl (h1.trans h2)
    · exact .inl h1
  · exact h2
theorem Lt.trans_le {x y z : Nm} (h1 : Lt x y) (h2 : Le y z) : Lt x z := by
  rcases h2 with h2 | rfl
  · exact h1.trans h2
  · exact h1
theorem Le.trans_lt {x y z : Nm} (h1 : Le x y) (h2 : Lt y z) : Lt x z := by
  rcases h1 with h1 | rfl
  · exact h1.trans h2
  · exact h2
theorem Lt.irrefl {x : Nm} (h : Lt x x) : False := by
  unfold Lt at h; rw [sub_self] at h
  exact Pos.ne h ⟨rfl, rfl⟩
theorem Lt.add_left {x y : Nm} (h : Lt x y) (z : Nm) : Lt (Gold.add z x) (Gold.add z y) := by
  unfold Lt; rw [add_sub_l]; exact h
theorem Le.add_left {x y : Nm} (h : Le x y) (z : Nm) : Le (Gold.add z x) (Gold.add z y) := by
  rcases h with h | rfl
  · exact .inl (h.add_left z)
  · exact .inr rfl
theorem lt_add_pos {x y : Nm} (h : PosN y) : Lt x (Gold.add x y) := by
  unfold Lt
  have e : sub (Gold.add x y) x = y := by apply Prod.ext <;> simp only [Gold.add, sub] <;> omega
  rw [e]; exact h
theorem lt_tri (x y : Nm) : Lt x y ∨ x = y ∨ Lt y x := by
  have t := Pos.tri (y.1 - x.1) (y.2 - x.2)
  rcases t with h | ⟨h1, h2⟩ | h
  · exact .inl h
  · exact .inr (.inl (Prod.ext (by omega) (by omega)))
  · refine .inr (.inr ?_)
    unfold Lt PosN sub
    rw [show -(y.1 - x.1) = x.1 - y.1 by omega, show -(y.2 - x.2) = x.2 - y.2 by omega] at h
    exact h

/-- powers grow -/
theorem pw_lt_succ (k : Int) : Lt (pw k) (pw (k + 1)) := by
  unfold Lt
  have : pw (k + 1) = Gold.add (pw k) (pw (k - 1)) := by
    have := pw_next (k - 1)
    rw [show k - 1 + 2 = k + 1 by omega, show k - 1 + 1 = k by omega] at this
    exact this
  have e : sub (pw (k + 1)) (pw k) = pw (k - 1) := by
    rw [this]; apply Prod.ext <;> simp only [Gold.add, sub] <;> omega
  rw [e]; exact pw_pos _
theorem pw_lt_nat (k : Int) : ∀ n : Nat, Lt (pw k) (pw (k + n + 1))
  | 0 => by rw [show k + ((0 : Nat) : Int) + 1 = k + 1 by omega]; exact pw_lt_succ k
  | n + 1 => by
    have := pw_lt_nat k n
    rw [show k + ((n + 1 : Nat) : Int) + 1 = k + n + 1 + 1 by omega]
    exact this.trans (pw_lt_succ _)
theorem pw_lt {j k : Int} (h : j < k) : Lt (pw j) (pw k) := by
  have := pw_lt_nat j (k - j - 1).toNat
  rw [show j + ((k - j - 1).toNat : Int) + 1 = k by omega] at this
  exact this
theorem pw_le {j k : Int} (h : j ≤ k) : Le (pw j) (pw k) := by
  rcases (by omega : j < k ∨ j = k) with h | rfl
  · exact .inl (pw_lt h)
  · exact .inr rfl

/-- the value of a list of places -/
def val : List Int → Nm
  | [] => (0, 0)
  | k :: r => Gold.add (pw k) (val r)
theorem val_append : ∀ xs ys : List Int, val (xs ++ ys) = Gold.add (val xs) (val ys)
  | [], ys => (zero_add _).symm
  | x :: xs, ys => by
    show Gold.add (pw x) (val (xs ++ ys)) = Gold.add (Gold.add (pw x) (val xs)) (val ys)
    rw [val_append xs ys, add_assoc]
theorem val_perm {xs ys : List Int} (h : xs.Perm ys) : val xs = val ys := by
  induction h with
  | nil => rfl
  | cons x _ ih => show Gold.add _ _ = Gold.add _ _; rw [ih]
  | swap x y l =>
    show Gold.add (pw y) (Gold.add (pw x) (val l)) = Gold.add (pw x) (Gold.add (pw y) (val l))
    rw [← add_assoc, ← add_assoc, add_comm (pw y)]
  | trans _ _ ih1 ih2 => rw [ih1, ih2]

/-- each less by two or more than the one ahead -/
def Gap : List Int → Prop
  | [] => True
  | [_] => True
  | a :: b :: r => b + 2 ≤ a ∧ Gap (b :: r)
theorem Gap.tail {a : Int} {r : List Int} (h : Gap (a :: r)) : Gap r := by
  cases r with
  | nil => trivial
  | cons b r => exact h.2

theorem val_lt : ∀ (t : Int) (r : List Int), Gap (t :: r) → Lt (val (t :: r)) (pw (t + 1))
  | t, [], _ => by
    show Lt (Gold.add (pw t) (0, 0)) _
    rw [add_zero]; exact pw_lt_succ t
  | t, b :: r, h => by
    have ih := val_lt b r h.2
    have l : Lt (val (b :: r)) (pw (t - 1)) := ih.trans_le (pw_le (by have := h.1; omega))
    have e : pw (t + 1) = Gold.add (pw t) (pw (t - 1)) := by
      have := pw_next (t - 1)
      rw [show t - 1 + 2 = t + 1 by omega, show t - 1 + 1 = t by omega] at this
      exact this
    rw [e]
    exact l.add_left (pw t)
theorem val_nn : ∀ r : List Int, Le (0, 0) (val r)
  | [] => .inr rfl
  | k :: r => by
    have ih := val_nn r
    have := ih.add_left (pw k)
    rw [add_zero] at this
    refine Le.trans (.inl ?_) this
    unfold Lt; rw [sub_zero]; exact pw_pos k
theorem pw_le_val (k : Int) (r : List Int) : Le (pw k) (val (k :: r)) := by
  have := (val_nn r).add_left (pw k)
  rw [add_zero] at this
  exact this
theorem val_pos (k : Int) (r : List Int) : Lt (0, 0) (val (k :: r)) := by
  refine Lt.trans_le ?_ (pw_le_val k r)
  unfold Lt; rw [sub_zero]; exact pw_pos k

/-- the order of rows, place by place -/
def lex : List Int → List Int → Int
  | [], [] => 0
  | _ :: _, [] => 1
  | [], _ :: _ => -1
  | a :: r, b :: s => if b < a then 1 else if a < b then -1 else lex r s

theorem sgn_of_lt {x y : Nm} (h : Lt x y) : sgn (y.1 - x.1) (y.2 - x.2) = 1 := sgn_pos h
theorem sgn_of_gt {x y : Nm} (h : Lt y x) : sgn (y.1 - x.1) (y.2 - x.2) = -1 := by
  refine sgn_neg ?_
  rw [show -(y.1 - x.1) = x.1 - y.1 by omega, show -(y.2 - x.2) = x.2 - y.2 by omega]
  exact h
theorem lex_sgn : ∀ (xs ys : List Int), Gap xs → Gap ys → sgn ((val xs).1 - (val ys).1) ((val xs).2 - (val ys).2) = lex xs ys
  | [], [], _, _ => by decide
  | a :: r, [], _, _ => sgn_of_lt (x := (0, 0)) (val_pos a r)
  | [], b :: s, _, _ => sgn_of_gt (y := (0, 0)) (val_pos b s)
  | a :: r, b :: s, hx, hy => by
    unfold lex
    split
    · rename_i h
      exact sgn_of_lt ((val_lt b s hy).trans_le ((pw_le (by omega)).trans (pw_le_val a r)))
    · split
      · rename_i h
        exact sgn_of_gt ((val_lt a r hx).trans_le ((pw_le (by omega)).trans (pw_le_val b s)))
      · have e : a = b := by omega
        subst e
        have ih := lex_sgn r s hx.tail hy.tail
        rw [← ih]
        show sgn ((pw a).1 + (val r).1 - ((pw a).1 + (val s).1)) ((pw a).2 + (val r).2 - ((pw a).2 + (val s).2)) = _
        congr 1 <;> omega
theorem lex_zero : ∀ xs ys : List Int, lex xs ys = 0 ↔ xs = ys
  | [], [] => by simp [lex]
  | a :: r, [] => by simp [lex]
  | [], b :: s => by simp [lex]
  | a :: r, b :: s => by
    have ih := lex_zero r s
    unfold lex
    split
    · constructor
      · intro h; omega
      · intro h; injection h; omega
    · split
      · constructor
        · intro h; omega
        · intro h; injection h; omega
      · rw [ih]
        constructor
        · intro h; rw [h, show a = b by omega]
        · intro h; injection h
theorem lex_turn : ∀ xs ys : List Int, lex ys xs = 0 - lex xs ys
  | [], [] => rfl
  | a :: r, [] => rfl
  | [], b :: s => rfl
  | a :: r, b :: s => by
    have ih := lex_turn r s
    unfold lex
    split <;> split <;> first | omega | rfl | (split <;> omega)
/-- just one row for each value -/
theorem val_inj {xs ys : List Int} (hx : Gap xs) (hy : Gap ys) (h : val xs = val ys) : xs = ys := by
  refine (lex_zero xs ys).mp ?_
  rw [← lex_sgn xs ys hx hy, h]
  simp [sgn_zero]
end Gold

namespace Gold

theorem pw_two (k : Int) : Gold.add (pw k) (pw (k + 1)) = pw (k + 2) := by rw [pw_next, add_comm]
theorem pw_down (k : Int) : Gold.add (pw k) (pw (k - 1)) = pw (k + 1) := by
  have := pw_next (k - 1)
  rw [show k - 1 + 2 = k + 1 by omega, show k - 1 + 1 = k by omega] at this
  exact this.symm
theorem pw_twice (k : Int) : Gold.add (pw k) (pw k) = Gold.add (pw (k + 1)) (pw (k - 2)) := by
  have h1 := pw_down k
  have h2 := pw_down (k - 1)
  rw [show k - 1 - 1 = k - 2 by omega, show k - 1 + 1 = k by omega] at h2
  rw [← h1, ← h2]
  apply Prod.ext <;> simp only [Gold.add] <;> omega

/-- places upwards, each greater by two or more than the one ahead -/
def GapU : List Int → Prop
  | [] => True
  | [_] => True
  | a :: b :: r => a + 2 ≤ b ∧ GapU (b :: r)
def lowU (p : Int) : List Int → Prop
  | [] => True
  | a :: _ => p ≤ a
/-- put p below places that are greater -/
def insUp (p : Int) : List Int → List Int
  | [] => [p]
  | q :: t => if q = p + 1 then insUp (p + 2) t else p :: q :: t
theorem insUp_val : ∀ (p : Int) (hi : List Int), val (insUp p hi) = Gold.add (pw p) (val hi)
  | p, [] => rfl
  | p, q :: t => by
    unfold insUp
    split
    · rename_i h
      subst h
      rw [insUp_val (p + 2) t, ← pw_two, add_assoc]; rfl
    · rfl
theorem insUp_gap : ∀ (p : Int) (hi : List Int), GapU hi → lowU (p + 1) hi → GapU (insUp p hi) ∧ lowU p (insUp p hi)
  | p, [], _, _ => ⟨trivial, Int.le_refl _⟩
  | p, q :: t, h, hl => by
    have hl' : p + 1 ≤ q := hl
    unfold insUp
    split
    · rename_i e
      subst e
      have ht : GapU t ∧ lowU (p + 3) t := by
        cases t with
        | nil => exact ⟨trivial, trivial⟩
        | cons b r => exact ⟨h.2, by have := h.1; show p + 3 ≤ b; omega⟩
      have ih := insUp_gap (p + 2) t ht.1 (by rw [show p + 2 + 1 = p + 3 by omega]; exact ht.2)
      refine ⟨ih.1, ?_⟩
      have := ih.2
      cases hh : insUp (p + 2) t with
      | nil => trivial
      | cons b r => rw [hh] at this; have : p + 2 ≤ b := this; show p ≤ b; omega
    · exact ⟨⟨by omega, h⟩, Int.le_refl _⟩

def topD (p : Int) : List Int → Prop
  | [] => True
  | a :: _ => a ≤ p
/-- add the power p to places that are p or less -/
def addDn (p : Int) : List Int → List Int
  | [] => [p]
  | q :: t => if q = p then (p + 1) :: addDn (p - 2) t else if q = p - 1 then (p + 1) :: t else p :: q :: t
theorem addDn_val : ∀ (p : Int) (lo : List Int), val (addDn p lo) = Gold.add (pw p) (val lo)
  | p, [] => rfl
  | p, q :: t => by
    unfold addDn
    split
    · rename_i h
      subst h
      show Gold.add (pw (q + 1)) (val (addDn (q - 2) t)) = Gold.add (pw q) (Gold.add (pw q) (val t))
      rw [addDn_val (q - 2) t, ← add_assoc, ← add_assoc, pw_twice]
    · split
      · rename_i h
        subst h
        show Gold.add (pw (p + 1)) (val t) = Gold.add (pw p) (Gold.add (pw (p - 1)) (val t))
        rw [← add_assoc, pw_down]
      · rfl
theorem Gap.cons {a : Int} {r : List Int} (h : Gap r) (ht : topD (a - 2) r) : Gap (a :: r) := by
  cases r with
  | nil => trivial
  | cons b r => exact ⟨by have : b ≤ a - 2 := ht; omega, h⟩
theorem Gap.top {a : Int} {r : List Int} (h : Gap (a :: r)) : topD (a - 2) r := by
  cases r with
  | nil => trivial
  | cons b r => have := h.1; show b ≤ a - 2; omega
theorem topD.mono {p q : Int} {r : List Int} (h : topD p r) (hpq : p ≤ q) : topD q r := by
  cases r with
  | nil => trivial
  | cons b r => have : b ≤ p := h; show b ≤ q; omega
theorem addDn_gap : ∀ (p : Int) (lo : List Int), Gap lo → topD p lo → Gap (addDn p lo) ∧ topD (p + 1) (addDn p lo)
  | p, [], _, _ => ⟨trivial, by show p ≤ p + 1; omega⟩
  | p, q :: t, h, ht => by
    have ht' : q ≤ p := ht
    unfold addDn
    split
    · rename_i e
      subst e
      have ih := addDn_gap (q - 2) t h.tail h.top
      exact ⟨ih.1.cons (ih.2.mono (by omega)), Int.le_refl _⟩
    · split
      · rename_i e
        subst e
        exact ⟨h.tail.cons (h.top.mono (by omega)), Int.le_refl _⟩
      · exact ⟨h.cons (by show q ≤ p - 2; omega), by show p ≤ p + 1; omega⟩
theorem addDn_cons (p : Int) (lo : List Int) : ∃ t r, addDn p lo = t :: r := by
  cases lo with
  | nil => exact ⟨_, _, rfl⟩
  | cons q t =>
    unfold addDn
    split
    · exact ⟨_, _, rfl⟩
    · split <;> exact ⟨_, _, rfl⟩

/-- upwards on the left, downwards on the right: one row -/
theorem join_gap : ∀ (hi lo : List Int) (p : Int), GapU hi → lowU p hi → Gap lo → topD (p - 2) lo → Gap (hi.reverse ++ lo)
  | [], lo, p, _, _, h, _ => h
  | a :: r, lo, p, h1, h2, h3, h4 => by
    rw [List.reverse_cons, List.append_assoc]
    have ha : p ≤ a := h2
    refine join_gap r (a :: lo) (a + 2) ?_ ?_ (h3.cons (h4.mono (by omega))) (by show a ≤ a + 2 - 2; omega)
    · cases r with
      | nil => trivial
      | cons b r => exact h1.2
    · cases r with
      | nil => trivial
      | cons b r => exact h1.1
theorem val_reverse (xs : List Int) : val xs.reverse = val xs := val_perm (List.reverse_perm xs)

/-- a row parted at k: above k (upwards), and k or below -/
theorem part_at (k : Int) : ∀ (hi r : List Int), GapU hi → (∀ a ∈ hi, k < a) → (∀ a r', hi = a :: r' → topD (a - 2) r) → Gap r →
    ∃ hi' lo, GapU hi' ∧ (∀ a ∈ hi', k < a) ∧ Gap lo ∧ topD k lo ∧ (∀ a r', hi' = a :: r' → topD (a - 2) lo) ∧ hi'.reverse ++ lo = hi.reverse ++ r
  | hi, [], h1, h2, h3, h4 => ⟨hi, [], h1, h2, trivial, trivial, fun _ _ _ => trivial, rfl⟩
  | hi, q :: r, h1, h2, h3, h4 => by
    by_cases hq : k < q
    · have g : GapU (q :: hi) := by
        cases hi with
        | nil => trivial
        | cons b s => exact ⟨by have : q ≤ b - 2 := h3 b s rfl; omega, h1⟩
      obtain ⟨hi', lo, a1, a2, a3, a4, a5, a6⟩ := part_at k (q :: hi) r g (fun a ha => by
        rcases List.mem_cons.mp ha with rfl | ha
        · exact hq
        · exact h2 a ha) (fun a r' e => by injection e with e1 e2; subst e1; exact h4.top) h4.tail
      exact ⟨hi', lo, a1, a2, a3, a4, a5, by rw [a6]; simp⟩
    · exact ⟨hi, q :: r, h1, h2, h4, by show q ≤ k; omega, h3, rfl⟩

/-- one more power -/
theorem add_pw (r : List Int) (k : Int) (h : Gap r) : ∃ r', Gap r' ∧ val r' = Gold.add (pw k) (val r) := by
  obtain ⟨hi, lo, g1, g2, g3, g4, g5, g6⟩ := part_at k [] r trivial (by simp) (by simp) h
  have ev : val r = Gold.add (val hi) (val lo) := by
    rw [show r = hi.reverse ++ lo from g6.symm, val_append, val_reverse]
  have low : ∀ a ∈ hi, k < a := g2
  by_cases hc : ∃ s, hi = (k + 1) :: s
  · obtain ⟨s, rfl⟩ := hc
    have gs : GapU s ∧ lowU (k + 3) s := by
      cases s with
      | nil => exact ⟨trivial, trivial⟩
      | cons b t => exact ⟨g1.2, by have := g1.1; show k + 3 ≤ b; omega⟩
    have iu := insUp_gap (k + 2) s gs.1 (by rw [show k + 2 + 1 = k + 3 by omega]; exact gs.2)
    refine ⟨(insUp (k + 2) s).reverse ++ lo, join_gap _ _ (k + 2) iu.1 iu.2 g3 ((g5 _ _ rfl).mono (by omega)), ?_⟩
    rw [val_append, val_reverse, insUp_val, ev, ← pw_two]
    show _ = Gold.add (pw k) (Gold.add (Gold.add (pw (k + 1)) (val s)) (val lo))
    apply Prod.ext <;> simp only [Gold.add] <;> omega
  · have hl : lowU (k + 2) hi := by
      cases hi with
      | nil => trivial
      | cons b t =>
        have := low b (List.mem_cons_self ..)
        show k + 2 ≤ b
        have : b ≠ k + 1 := fun e => hc ⟨t, by rw [e]⟩
        omega
    obtain ⟨t, d, e⟩ := addDn_cons k lo
    have dg := addDn_gap k lo g3 g4
    have dv := addDn_val k lo
    rw [e] at dg dv
    have ht : t ≤ k + 1 := dg.2
    have iu := insUp_gap t hi g1 (by
      cases hi with
      | nil => trivial
      | cons b s => have : k + 2 ≤ b := hl; show t + 1 ≤ b; omega)
    refine ⟨(insUp t hi).reverse ++ d, join_gap _ _ t iu.1 iu.2 dg.1.tail dg.1.top, ?_⟩
    have dv' : Gold.add (pw t) (val d) = Gold.add (pw k) (val lo) := dv
    rw [val_append, val_reverse, insUp_val, ev]
    have e1 := congrArg Prod.fst dv'
    have e2 := congrArg Prod.snd dv'
    simp only [Gold.add] at e1 e2
    apply Prod.ext <;> simp only [Gold.add] <;> omega

/-- any list of places comes to a row -/
theorem clean (xs : List Int) : ∃ r, Gap r ∧ val r = val xs := by
  induction xs with
  | nil => exact ⟨[], trivial, rfl⟩
  | cons k xs ih =>
    obtain ⟨r, h, e⟩ := ih
    obtain ⟨r', h', e'⟩ := add_pw r k h
    exact ⟨r', h', by rw [e', e]; rfl⟩

theorem nat_row : ∀ a b : Nat, ∃ xs : List Int, val xs = ((a : Int), (b : Int))
  | 0, 0 => ⟨[], rfl⟩
  | 0, b + 1 => by
    obtain ⟨xs, e⟩ := nat_row 0 b
    refine ⟨1 :: xs, ?_⟩
    show Gold.add (pw 1) (val xs) = _
    rw [e, pw_one]
    apply Prod.ext <;> simp only [Gold.add] <;> omega
  | a + 1, b => by
    obtain ⟨xs, e⟩ := nat_row a b
    refine ⟨0 :: xs, ?_⟩
    show Gold.add (pw 0) (val xs) = _
    rw [e, pw_zero]
    apply Prod.ext <;> simp only [Gold.add] <;> omega

theorem val_shift (k : Int) : ∀ xs : List Int, val (xs.map (· + k)) = mul (val xs) (pw k)
  | [] => by
    apply Prod.ext <;> simp only [val, mul, List.map_nil] <;> grind
  | x :: xs => by
    show Gold.add (pw (x + k)) (val (xs.map (· + k))) = mul (Gold.add (pw x) (val xs)) (pw k)
    rw [val_shift k xs, pw_add, mul_comm (Gold.add _ _), mul_add, mul_comm (pw k), mul_comm (pw k)]

/-- not both parts below nought: both at nought or above, some powers up -/
theorem up_nonneg_aux : ∀ (n : Nat) (a b : Int), a.natAbs ≤ n → a < 0 → 0 < b → Pos a b → ∃ k : Nat, 0 ≤ (mul (a, b) (pw k)).1 ∧ 0 ≤ (mul (a, b) (pw k)).2
  | 0, a, b, h, ha, _, _ => by omega
  | n + 1, a, b, h, ha, hb, hp => by
    by_cases h1 : 0 ≤ a + b
    · refine ⟨1, ?_⟩
      have e : mul (a, b) (pw ((1 : Nat) : Int)) = (b, a + b) := by
        show mul (a, b) (pw 1) = _
        rw [pw_one]; apply Prod.ext <;> simp only [mul] <;> grind
      rw [e]; exact ⟨by show 0 ≤ b; omega, h1⟩
    · have e2 : mul (a, b) (pw 2) = (a + b, a + 2 * b) := by
        rw [show pw 2 = (1, 1) from rfl]; apply Prod.ext <;> simp only [mul] <;> grind
      have p2 : Pos (a + b) (a + 2 * b) := by
        have := PosN.mul (x := (a, b)) (y := pw 2) hp (pw_pos 2)
        rw [e2] at this; exact this
      have h2 : 0 < a + 2 * b := by
        rcases (by omega : 0 < a + 2 * b ∨ a + 2 * b ≤ 0) with h | h
        · exact h
        · exfalso
          -- both parts nought or below: not above nought
          unfold Pos Q at p2
          rcases p2 with ⟨z, _⟩ | ⟨z, _⟩
          · omega
          · omega
      obtain ⟨k, k1, k2⟩ := up_nonneg_aux n (a + b) (a + 2 * b) (by omega) (by omega) h2 p2
      refine ⟨k + 2, ?_⟩
      have e : mul (a, b) (pw ((k + 2 : Nat) : Int)) = mul (a + b, a + 2 * b) (pw (k : Int)) := by
        rw [show ((k + 2 : Nat) : Int) = 2 + (k : Int) by omega, pw_add, ← mul_assoc, e2]
      rw [e]; exact ⟨k1, k2⟩
theorem up_nonneg {x : Nm} (h : PosN x) : ∃ k : Nat, 0 ≤ (mul x (pw k)).1 ∧ 0 ≤ (mul x (pw k)).2 := by
  obtain ⟨a, b⟩ := x
  have h' : Pos a b := h
  by_cases ha : 0 ≤ a
  · by_cases hb : 0 ≤ b
    · refine ⟨0, ?_⟩
      have : mul (a, b) (pw ((0 : Nat) : Int)) = (a, b) := mul_one _
      rw [this]; exact ⟨ha, hb⟩
    · -- b below nought: one power up
      have e1 : mul (a, b) (pw 1) = (b, a + b) := by
        rw [pw_one]; apply Prod.ext <;> simp only [mul] <;> grind
      have p1 : Pos b (a + b) := by
        have := PosN.mul (x := (a, b)) (y := pw 1) h (pw_pos 1)
        rw [e1] at this; exact this
      have h2 : 0 < a + b := by
        unfold Pos Q at p1
        rcases p1 with ⟨z, _⟩ | ⟨z, _⟩ <;> omega
      obtain ⟨k, k1, k2⟩ := up_nonneg_aux _ b (a + b) (Nat.le_refl _) (by omega) h2 p1
      refine ⟨k + 1, ?_⟩
      have e : mul (a, b) (pw ((k + 1 : Nat) : Int)) = mul (b, a + b) (pw (k : Int)) := by
        rw [show ((k + 1 : Nat) : Int) = 1 + (k : Int) by omega, pw_add, ← mul_assoc, e1]
      rw [e]; exact ⟨k1, k2⟩
  · have hb : 0 < b := by
      unfold Pos Q at h'
      rcases h' with ⟨z, _⟩ | ⟨z, _⟩ <;> omega
    exact up_nonneg_aux _ a b (Nat.le_refl _) (by omega) hb h'

/-- each number that is not below nought has a row -/
theorem exists_row {x : Nm} (h : Le (0, 0) x) : ∃ r, Gap r ∧ val r = x := by
  rcases h with h | rfl
  · have hp : PosN x := by unfold Lt at h; rw [sub_zero] at h; exact h
    obtain ⟨k, k1, k2⟩ := up_nonneg hp
    obtain ⟨xs, e⟩ := nat_row (mul x (pw k)).1.toNat (mul x (pw k)).2.toNat
    have e' : val xs = mul x (pw k) := by
      rw [e]; apply Prod.ext <;> simp only [] <;> omega
    have es : val (xs.map (· + (-(k : Int)))) = x := by
      rw [val_shift, e', mul_assoc, ← pw_add, show (k : Int) + -(k : Int) = 0 by omega, pw_zero, mul_one]
    obtain ⟨r, g, er⟩ := clean (xs.map (· + (-(k : Int))))
    exact ⟨r, g, by rw [er, es]⟩
  · exact ⟨[], trivial, rfl⟩
end Gold

namespace Gold
def neg (x : Nm) : Nm := (-x.1, -x.2)
theorem conj_add' (x y : Nm) : conj (add x y) = add (conj x) (conj y) := by
  apply Prod.ext <;> simp only [conj, add] <;> omega
theorem conj_mul' (x y : Nm) : conj (mul x y) = mul (conj x) (conj y) := by
  apply Prod.ext <;> simp only [conj, mul] <;> grind
theorem neg_mul (x y : Nm) : mul (neg x) y = neg (mul x y) := by
  apply Prod.ext <;> simp only [neg, mul] <;> grind
theorem mul_neg (x y : Nm) : mul x (neg y) = neg (mul x y) := by
  apply Prod.ext <;> simp only [neg, mul] <;> grind
theorem neg_neg (x : Nm) : neg (neg x) = x := by
  apply Prod.ext <;> simp only [neg] <;> omega
/-- the other one of a power -/
def sw (k : Int) (x : Nm) : Nm := if k % 2 = 0 then x else neg x
theorem sw_succ (k : Int) (x y : Nm) : neg (mul x (sw k y)) = sw (k + 1) (mul x y) := by
  unfold sw
  by_cases h : k % 2 = 0
  · rw [if_pos h, if_neg (by omega)]
  · rw [if_neg h, if_pos (by omega), mul_neg, neg_neg]
theorem sw_pred (k : Int) (x y : Nm) : neg (mul x (sw k y)) = sw (k - 1) (mul x y) := by
  unfold sw
  by_cases h : k % 2 = 0
  · rw [if_pos h, if_neg (by omega)]
  · rw [if_neg h, if_pos (by omega), mul_neg, neg_neg]
theorem conj_pw_nat : ∀ n : Nat, conj (pw n) = sw n (pw (-(n : Int)))
  | 0 => rfl
  | n + 1 => by
    have ih := conj_pw_nat n
    rw [show ((n + 1 : Nat) : Int) = (n : Int) + 1 by omega, pw_succ, conj_mul', ih, show conj (0, 1) = neg (-1, 1) by rfl, neg_mul, sw_succ, ← pw_pred]
    congr 2; omega
theorem conj_pw_neg : ∀ n : Nat, conj (pw (-(n : Int))) = sw (-(n : Int)) (pw n)
  | 0 => rfl
  | n + 1 => by
    have ih := conj_pw_neg n
    rw [show -((n + 1 : Nat) : Int) = -(n : Int) - 1 by omega, pw_pred, conj_mul', ih, show conj (-1, 1) = neg (0, 1) by rfl, neg_mul, sw_pred, ← pw_succ]
    rfl
theorem conj_pw (k : Int) : conj (pw k) = sw k (pw (-k)) := by
  rcases (by omega : k = (k.toNat : Int) ∨ k = -((-k).toNat : Int)) with h | h
  · rw [h]; exact conj_pw_nat _
  · rw [h, Int.neg_neg]; exact conj_pw_neg _

theorem Lt.neg {x y : Nm} (h : Lt x y) : Lt (Gold.neg y) (Gold.neg x) := by
  unfold Lt at *
  have e : sub (Gold.neg x) (Gold.neg y) = sub y x := by apply Prod.ext <;> simp only [Gold.neg, sub] <;> omega
  rw [e]; exact h
theorem Le.neg {x y : Nm} (h : Le x y) : Le (Gold.neg y) (Gold.neg x) := by
  rcases h with h | rfl
  · exact .inl h.neg
  · exact .inr rfl
theorem Le.add {a b c d : Nm} (h1 : Le a b) (h2 : Le c d) : Le (Gold.add a c) (Gold.add b d) := by
  refine (h2.add_left a).trans ?_
  rw [add_comm a d, add_comm b d]
  exact h1.add_left d
theorem nn_pw (k : Int) : Le (0, 0) (pw k) := .inl (by unfold Lt; rw [sub_zero]; exact pw_pos k)
theorem neg_le_self {x : Nm} (h : Le (0, 0) x) : Le (Gold.neg x) x := by
  have := h.neg
  exact Le.trans this h
/-- the other one's size is at most the turned places' value -/
theorem conj_val_le : ∀ r : List Int, Le (conj (val r)) (val (r.map (- ·))) ∧ Le (Gold.neg (val (r.map (- ·)))) (conj (val r))
  | [] => ⟨.inr rfl, .inr rfl⟩
  | k :: r => by
    have ih := conj_val_le r
    have e : conj (val (k :: r)) = Gold.add (sw k (pw (-k))) (conj (val r)) := by
      show conj (Gold.add (pw k) (val r)) = _
      rw [conj_add', conj_pw]
    have e2 : val ((k :: r).map (- ·)) = Gold.add (pw (-k)) (val (r.map (- ·))) := rfl
    have e3 : Gold.neg (Gold.add (pw (-k)) (val (r.map (- ·)))) = Gold.add (Gold.neg (pw (-k))) (Gold.neg (val (r.map (- ·)))) := by
      apply Prod.ext <;> simp only [Gold.neg, Gold.add] <;> omega
    have s : Le (sw k (pw (-k))) (pw (-k)) ∧ Le (Gold.neg (pw (-k))) (sw k (pw (-k))) := by
      unfold sw
      split
      · exact ⟨.inr rfl, neg_le_self (nn_pw _)⟩
      · exact ⟨neg_le_self (nn_pw _), .inr rfl⟩
    rw [e, e2, e3]
    exact ⟨s.1.add ih.1, s.2.add ih.2⟩
/-- turned about, a row is a row -/
theorem gap_turn : ∀ (r : List Int) (m : Int), Gap (r ++ [m]) → GapU (m :: r.reverse)
  | [], m, _ => trivial
  | [a], m, h => ⟨by have := h.1; omega, trivial⟩
  | a :: b :: r, m, h => by
    have ih := gap_turn (b :: r) m h.2
    have h1 := h.1
    rw [List.reverse_cons] at ih ⊢
    rw [List.reverse_cons]
    -- a list upwards with one more at its end
    have key : ∀ (xs : List Int) (y : Int), GapU (xs ++ [b]) → b + 2 ≤ y → GapU (xs ++ [b] ++ [y]) := by
      intro xs y
      induction xs with
      | nil => intro _ h; exact ⟨h, trivial⟩
      | cons x xs ihx =>
        intro hg hy
        cases xs with
        | nil => exact ⟨hg.1, hy, trivial⟩
        | cons z zs => exact ⟨hg.1, ihx hg.2 hy⟩
    have := key (m :: r.reverse) a (by simpa using ih) h1
    simpa using this
theorem gapU_neg : ∀ r : List Int, GapU r → Gap (r.map (- ·))
  | [], _ => trivial
  | [_], _ => trivial
  | a :: b :: r, h => ⟨by have := h.1; show -b + 2 ≤ -a; omega, gapU_neg (b :: r) h.2⟩
theorem least {r : List Int} {m : Int} (h : Gap (r ++ [m])) : Lt (pw (-m - 2)) (conj (val (r ++ [m]))) ∨ Lt (pw (-m - 2)) (Gold.neg (conj (val (r ++ [m])))) := by
  have g := gapU_neg _ (gap_turn r m h)
  -- the turned places above the least one are below pw (-m - 1)
  have B : Lt (val (r.map (- ·))) (pw (-m - 1)) := by
    have ev : val (r.map (- ·)) = val (r.reverse.map (- ·)) := val_perm (by rw [List.map_reverse]; exact (List.reverse_perm _).symm)
    rw [ev]
    have g' : Gap (-m :: r.reverse.map (- ·)) := g
    cases hr : r.reverse.map (- ·) with
    | nil =>
      show Lt (0, 0) _
      unfold Lt; rw [sub_zero]; exact pw_pos _
    | cons t s =>
      rw [hr] at g'
      exact (val_lt t s g'.2).trans_le (pw_le (by have := g'.1; omega))
  have C := conj_val_le r
  have e : conj (val (r ++ [m])) = Gold.add (conj (val r)) (sw m (pw (-m))) := by
    rw [val_append, conj_add']
    congr 1
    show conj (Gold.add (pw m) (0, 0)) = _
    rw [add_zero, conj_pw]
  have gap : Gold.add (pw (-m - 2)) (pw (-m - 1)) = pw (-m) := by
    have := pw_two (-m - 2)
    rw [show -m - 2 + 1 = -m - 1 by omega, show -m - 2 + 2 = -m by omega] at this
    exact this
  have low : Lt (pw (-m - 2)) (Gold.add (Gold.neg (val (r.map (- ·)))) (pw (-m))) := by
    rw [← gap]
    unfold Lt at B ⊢
    have e' : sub (Gold.add (Gold.neg (val (r.map (- ·)))) (Gold.add (pw (-m - 2)) (pw (-m - 1)))) (pw (-m - 2)) = sub (pw (-m - 1)) (val (r.map (- ·))) := by
      apply Prod.ext <;> simp only [Gold.neg, Gold.add, sub] <;> omega
    rw [e']; exact B
  rw [e]
  unfold sw
  split
  · exact .inl (low.trans_le (C.2.add (Le.refl _)))
  · refine .inr (low.trans_le ?_)
    have e2 : Gold.neg (Gold.add (conj (val r)) (Gold.neg (pw (-m)))) = Gold.add (Gold.neg (conj (val r))) (pw (-m)) := by
      apply Prod.ext <;> simp only [Gold.neg, Gold.add] <;> omega
    rw [e2]
    exact C.1.neg.add (Le.refl _)
theorem lt_of_parts {x y : Nm} (h1 : x.1 < y.1) (h2 : x.2 < y.2) : Lt x y := by
  unfold Lt PosN
  have ha : 0 < (sub y x).1 := by show 0 < y.1 - x.1; omega
  have hb : 0 < (sub y x).2 := by show 0 < y.2 - x.2; omega
  -- both parts above nought
  have : sgn (sub y x).1 (sub y x).2 = 1 := by
    unfold sgn
    have hn : nrm (sub y x).1 (sub y x).2 ≠ 0 := by
      intro z
      have := norm_zero z
      omega
    rw [if_neg hn, if_pos (by split <;> omega)]
  exact sgn_one_iff.mp this
theorem pw_lt_inv {j k : Int} (h : Lt (pw j) (pw k)) : j < k := by
  rcases (by omega : j < k ∨ k ≤ j) with z | z
  · exact z
  · exact ((h.trans_le (pw_le z)).irrefl).elim
theorem pw_62 : pw 62 = (2504730781961, 4052739537881) := by decide +kernel
theorem pw_64 : pw 64 = (6557470319842, 10610209857723) := by decide +kernel
/-- the places of a number whose parts are at most 10 ** 12 -/
theorem places_of {r : List Int} (h : Gap r) (h1 : -1000000000000 ≤ (val r).1 ∧ (val r).1 ≤ 1000000000000) (h2 : -1000000000000 ≤ (val r).2 ∧ (val r).2 ≤ 1000000000000) :
    ∀ k ∈ r, -64 < k ∧ k < 62 := by
  intro k hk
  constructor
  · -- the least one
    have ne : r ≠ [] := by intro z; rw [z] at hk; cases hk
    obtain ⟨s, m, e⟩ : ∃ s m, r = s ++ [m] := ⟨r.dropLast, r.getLast ne, (List.dropLast_concat_getLast ne).symm⟩
    have hm : -64 < m := by
      have L := least (r := s) (m := m) (by rw [← e]; exact h)
      rw [← e] at L
      have u1 : Lt (conj (val r)) (pw 62) := lt_of_parts (by rw [pw_62]; show (val r).1 + (val r).2 < 2504730781961; omega) (by rw [pw_62]; show -(val r).2 < 4052739537881; omega)
      have u2 : Lt (Gold.neg (conj (val r))) (pw 62) := lt_of_parts (by rw [pw_62]; show -((val r).1 + (val r).2) < 2504730781961; omega) (by rw [pw_62]; show - -(val r).2 < 4052739537881; omega)
      have := pw_lt_inv (show Lt (pw (-m - 2)) (pw 62) from L.elim (fun z => z.trans u1) (fun z => z.trans u2))
      omega
    -- every other place is greater
    have mono : ∀ (s : List Int) (m : Int), Gap (s ++ [m]) → ∀ k ∈ s ++ [m], m ≤ k := by
      intro s
      induction s with
      | nil => intro m _ k hk; simp at hk; omega
      | cons a s ih =>
        intro m hg k hk
        rcases List.mem_cons.mp hk with rfl | hk
        · cases s with
          | nil => have := hg.1; omega
          | cons b s => have i := ih m hg.2 b (List.mem_cons_self ..); have := hg.1; omega
        · exact ih m hg.tail k hk
    have := mono s m (by rw [← e]; exact h) k (by rw [← e]; exact hk)
    omega
  · -- the greatest one
    cases r with
    | nil => cases hk
    | cons t s =>
      have ht : t < 62 := by
        have u : Lt (val (t :: s)) (pw 62) := lt_of_parts (by rw [pw_62]; show (val (t :: s)).1 < 2504730781961; omega) (by rw [pw_62]; show (val (t :: s)).2 < 4052739537881; omega)
        exact pw_lt_inv ((pw_le_val t s).trans_lt u)
      have mono : ∀ (s : List Int) (t : Int), Gap (t :: s) → ∀ k ∈ t :: s, k ≤ t := by
        intro s
        induction s with
        | nil => intro t _ k hk; simp at hk; omega
        | cons a s ih =>
          intro t hg k hk
          rcases List.mem_cons.mp hk with rfl | hk
          · omega
          · have := ih a hg.2 k hk; have := hg.1; omega
      have := mono s t h k hk
      omega
end Gold

namespace Gold
/-! how great the places of a number's row can be -/
theorem zero_lt_one : Lt (0, 0) (1, 0) := by
  unfold Lt; rw [sub_zero]; exact pos_one
theorem le_of_parts {x y : Nm} (h1 : x.1 ≤ y.1) (h2 : x.2 ≤ y.2) : Le x y := by
  rcases (by omega : x.1 = y.1 ∨ x.1 < y.1) with e1 | e1
  · rcases (by omega : x.2 = y.2 ∨ x.2 < y.2) with e2 | e2
    · exact .inr (Prod.ext e1 e2)
    · left
      unfold Lt PosN
      apply sgn_one_iff.mp
      have ha : (sub y x).1 = 0 := by show y.1 - x.1 = 0; omega
      have hb : 0 < (sub y x).2 := by show 0 < y.2 - x.2; omega
      rw [ha]
      unfold sgn
      have hn : nrm 0 (sub y x).2 ≠ 0 := by
        intro z
        have := norm_zero z
        omega
      rw [if_neg hn, if_pos (by split <;> omega)]
  · rcases (by omega : x.2 = y.2 ∨ x.2 < y.2) with e2 | e2
    · left
      unfold Lt PosN
      apply sgn_one_iff.mp
      have ha : 0 < (sub y x).1 := by show 0 < y.1 - x.1; omega
      have hb : (sub y x).2 = 0 := by show y.2 - x.2 = 0; omega
      rw [hb]
      unfold sgn
      have hn : nrm (sub y x).1 0 ≠ 0 := by
        intro z
        have := norm_zero z
        omega
      have hp : 0 < nrm (sub y x).1 0 := by
        unfold nrm at hn ⊢
        have := sq_pos (show (sub y x).1 ≠ 0 by omega)
        simpa using this
      rw [if_neg hn, if_pos (by rw [if_pos hp]; omega)]
    · exact .inl (lt_of_parts e1 e2)
/-- 2 to the power of k is at most G to the power of 2 k -/
theorem pow_le_pw : ∀ k : Nat, Le (((2 ^ k : Nat) : Int), 0) (pw (2 * (k : Int)))
  | 0 => .inr rfl
  | k + 1 => by
    have ih := pow_le_pw k
    have e1 : pw (2 * ((k + 1 : Nat) : Int)) = add (pw (2 * (k : Int) + 1)) (pw (2 * (k : Int))) := by
      rw [show (2 * ((k + 1 : Nat) : Int)) = 2 * (k : Int) + 2 by omega, pw_next]
    rw [e1]
    have e2 : ((((2 ^ (k + 1) : Nat)) : Int), (0 : Int)) = add (((2 ^ k : Nat) : Int), 0) (((2 ^ k : Nat) : Int), 0) := by
      apply Prod.ext
      · show ((2 ^ (k + 1) : Nat) : Int) = ((2 ^ k : Nat) : Int) + ((2 ^ k : Nat) : Int)
        rw [Nat.pow_succ]; omega
      · rfl
    rw [e2]
    exact (ih.trans (pw_le (by omega))).add ih
/-- a number is at most the sizes of its parts -/
theorem le_size (x : Nm) : Le x (((x.1.natAbs + 2 * x.2.natAbs : Nat) : Int), 0) := by
  -- first by the parts, then two for G
  have h1 : Le x ((x.1.natAbs : Int), (x.2.natAbs : Int)) := le_of_parts (by show x.1 ≤ _; omega) (by show x.2 ≤ _; omega)
  refine h1.trans ?_
  have g : ∀ n : Nat, Le ((0 : Int), (n : Int)) ((2 * n : Int), 0) := by
    intro n
    induction n with
    | zero => exact .inr rfl
    | succ n ih =>
      have s : Le ((0 : Int), (1 : Int)) (2, 0) := .inl (by unfold Lt PosN; exact sgn_one_iff.mp (by decide))
      have := ih.add s
      have e1 : add ((0 : Int), (n : Int)) (0, 1) = (0, ((n + 1 : Nat) : Int)) := by apply Prod.ext <;> simp [add]
      have e2 : add ((2 * n : Int), (0 : Int)) (2, 0) = ((2 * ((n + 1 : Nat) : Int)), 0) := by
        apply Prod.ext
        · show (2 * n : Int) + 2 = 2 * ((n + 1 : Nat) : Int); omega
        · rfl
      rw [e1, e2] at this
      exact this
  have := (Le.refl ((x.1.natAbs : Int), (0 : Int))).add (g x.2.natAbs)
  have e1 : add ((x.1.natAbs : Int), (0 : Int)) (0, (x.2.natAbs : Int)) = ((x.1.natAbs : Int), (x.2.natAbs : Int)) := by apply Prod.ext <;> simp [add]
  have e2 : add ((x.1.natAbs : Int), (0 : Int)) ((2 * x.2.natAbs : Int), 0) = (((x.1.natAbs + 2 * x.2.natAbs : Nat) : Int), 0) := by
    apply Prod.ext
    · show (x.1.natAbs : Int) + (2 * x.2.natAbs : Int) = ((x.1.natAbs + 2 * x.2.natAbs : Nat) : Int); omega
    · rfl
  rw [e1, e2] at this
  exact this
theorem lt_pw {x : Nm} {k : Nat} (h : x.1.natAbs + 2 * x.2.natAbs < 2 ^ k) : Lt x (pw (2 * (k : Int))) := by
  refine (le_size x).trans_lt (Lt.trans_le ?_ (pow_le_pw k))
  unfold Lt PosN
  apply sgn_one_iff.mp
  have e : sub ((((2 ^ k : Nat)) : Int), (0 : Int)) (((x.1.natAbs + 2 * x.2.natAbs : Nat) : Int), 0) = ((((2 ^ k - (x.1.natAbs + 2 * x.2.natAbs) : Nat)) : Int), 0) := by
    apply Prod.ext
    · show ((2 ^ k : Nat) : Int) - ((x.1.natAbs + 2 * x.2.natAbs : Nat) : Int) = _
      omega
    · rfl
  rw [e]
  have hp : 0 < 2 ^ k - (x.1.natAbs + 2 * x.2.natAbs) := by omega
  generalize 2 ^ k - (x.1.natAbs + 2 * x.2.natAbs) = d at hp
  show sgn (d : Int) 0 = 1
  have hq : 0 < nrm (d : Int) 0 := by
    unfold nrm
    have := sq_pos (show (d : Int) ≠ 0 by omega)
    simpa using this
  unfold sgn
  rw [if_neg (by omega), if_pos (by rw [if_pos hq]; omega)]
/-- the first place -/
theorem top_lt {t : Int} {r : List Int} {k : Int} (h : Lt (val (t :: r)) (pw k)) : t < k := pw_lt_inv ((pw_le_val t r).trans_lt h)
theorem gap_desc : ∀ (s : List Int) (t : Int), Gap (t :: s) → ∀ k ∈ s, k ≤ t - 2
  | [], _, _, k, hk => by cases hk
  | a :: s, t, hg, k, hk => by
    have h1 := hg.1
    rcases List.mem_cons.mp hk with rfl | hk
    · omega
    · have := gap_desc s a hg.2 k hk; omega
theorem gap_low : ∀ (s : List Int) (m : Int), Gap (s ++ [m]) → ∀ k ∈ s ++ [m], m ≤ k := by
  intro s
  induction s with
  | nil => intro m _ k hk; simp at hk; omega
  | cons a s ih =>
    intro m hg k hk
    rcases List.mem_cons.mp hk with rfl | hk
    · cases s with
      | nil => have := hg.1; omega
      | cons b s => have i := ih m hg.2 b (List.mem_cons_self ..); have := hg.1; omega
    · exact ih m hg.tail k hk
/-- the places of a number by the figures of its parts -/
theorem places_bits {ys : List Int} (h : Gap ys) {n : Nat} (h1 : (val ys).1.natAbs < 2 ^ n) (h2 : (val ys).2.natAbs < 2 ^ n) : ∀ k ∈ ys, -(2 * (n : Int) + 6) < k ∧ k < 2 * (n : Int) + 4 := by
  intro k hk
  have p2 : (2 : Nat) ^ (n + 2) = 4 * 2 ^ n := by rw [Nat.pow_add]; omega
  constructor
  · have ne : ys ≠ [] := by intro z; rw [z] at hk; cases hk
    obtain ⟨s, m, e⟩ : ∃ s m, ys = s ++ [m] := ⟨ys.dropLast, ys.getLast ne, (List.dropLast_concat_getLast ne).symm⟩
    have L := least (r := s) (m := m) (by rw [← e]; exact h)
    rw [← e] at L
    have u1 : Lt (conj (val ys)) (pw (2 * ((n + 2 : Nat) : Int))) := lt_pw (by show ((val ys).1 + (val ys).2).natAbs + 2 * (-(val ys).2).natAbs < _; omega)
    have u2 : Lt (Gold.neg (conj (val ys))) (pw (2 * ((n + 2 : Nat) : Int))) := lt_pw (by show (-((val ys).1 + (val ys).2)).natAbs + 2 * (- -(val ys).2).natAbs < _; omega)
    have := pw_lt_inv (show Lt (pw (-m - 2)) (pw (2 * ((n + 2 : Nat) : Int))) from L.elim (fun z => z.trans u1) (fun z => z.trans u2))
    have := gap_low s m (by rw [← e]; exact h) k (by rw [← e]; exact hk)
    omega
  · cases ys with
    | nil => cases hk
    | cons t s =>
      have ht := top_lt (k := 2 * ((n + 2 : Nat) : Int)) (lt_pw (x := val (t :: s)) (k := n + 2) (by omega))
      rcases List.mem_cons.mp hk with rfl | hk
      · omega
      · have := gap_desc s t h k hk; omega
theorem gap_len {lo hi : Int} : ∀ (ys : List Int), Gap ys → (∀ y ∈ ys, lo ≤ y ∧ y ≤ hi) → (ys.length : Int) ≤ max 0 (hi - lo + 1)
  | [], _, _ => by simp; omega
  | [a], _, h => by have := h a (List.mem_cons_self ..); simp; omega
  | a :: b :: r, hg, h => by
    have ih := gap_len (hi := b) (b :: r) hg.2 fun y hy => by
      refine ⟨(h y (List.mem_cons_of_mem _ hy)).1, ?_⟩
      rcases List.mem_cons.mp hy with rfl | hy
      · omega
      · have := gap_desc r b hg.2 y hy; omega
    have h1 := hg.1
    have h2 := h a (List.mem_cons_self ..)
    have h3 := h b (List.mem_cons_of_mem _ (List.mem_cons_self ..))
    rw [List.length_cons]
    omega
/-- how great a value's parts can be -/
theorem val_size {m : Nat} : ∀ (xs : List Int), (∀ x ∈ xs, x.natAbs < m) → (val xs).1.natAbs ≤ xs.length * 2 ^ m ∧ (val xs).2.natAbs ≤ xs.length * 2 ^ m
  | [], _ => ⟨by simp [val], by simp [val]⟩
  | a :: r, h => by
    have ih := val_size r fun x hx => h x (List.mem_cons_of_mem _ hx)
    have b := pw_bound a (h a (List.mem_cons_self ..))
    have e1 : (val (a :: r)).1 = (pw a).1 + (val r).1 := rfl
    have e2 : (val (a :: r)).2 = (pw a).2 + (val r).2 := rfl
    rw [e1, e2, List.length_cons, Nat.add_mul, Nat.one_mul]
    omega
/-! one turn of the way down: the places still to come are zs, the place at hand is p -/
theorem val_nil_iff (zs : List Int) : val zs = (0, 0) ↔ zs = [] := by
  constructor
  · intro h
    cases zs with
    | nil => rfl
    | cons z r =>
      have := val_pos z r
      rw [h] at this
      exact this.irrefl.elim
  · intro h; rw [h]; rfl
theorem turn_take {z : Int} {r : List Int} : sub (val (z :: r)) (pw z) = val r := by
  show sub (add (pw z) (val r)) (pw z) = val r
  apply Prod.ext <;> simp only [add, sub] <;> omega
theorem turn_sgn {z p : Int} {r : List Int} (hg : Gap (z :: r)) (hz : z ≤ p) : (sgn (sub (val (z :: r)) (pw p)).1 (sub (val (z :: r)) (pw p)).2 < 0 ↔ z < p) := by
  constructor
  · intro h
    rcases (by omega : z < p ∨ z = p) with e | e
    · exact e
    · subst e
      rw [turn_take] at h
      exfalso
      rcases val_nn r with l | l
      · have := sgn_of_lt l
        rw [show ((val r).1 - ((0 : Int), (0 : Int)).1) = (val r).1 by simp, show ((val r).2 - ((0 : Int), (0 : Int)).2) = (val r).2 by simp] at this
        omega
      · rw [← l] at h
        simp [sgn_zero] at h
  · intro h
    have l : Lt (val (z :: r)) (pw p) := (val_lt z r hg).trans_le (pw_le (by omega))
    have := sgn_of_gt l
    show sgn ((val (z :: r)).1 - (pw p).1) ((val (z :: r)).2 - (pw p).2) < 0
    rw [this]; decide
end Gold

/-! how great the parts of a row's value are -/
namespace Gold
/-- what rows of the places from lo up to lo + n - 1 come to at most -/
def bb (f : Int → Nat) (lo : Int) : Nat → Nat × Nat
  | 0 => (0, f lo)
  | n + 1 => ((bb f lo n).2, max (bb f lo n).2 (f (lo + n + 1) + (bb f lo n).1))
theorem bb_mono (f : Int → Nat) (lo : Int) : ∀ n, (bb f lo n).1 ≤ (bb f lo n).2
  | 0 => Nat.zero_le _
  | n + 1 => Nat.le_max_left ..
theorem bb_le (f : Int → Nat) (lo : Int) (n : Nat) : ∀ m, (bb f lo n).1 ≤ (bb f lo (n + m)).1
  | 0 => Nat.le_refl _
  | m + 1 => Nat.le_trans (bb_le f lo n m) (bb_mono f lo (n + m))
/-- g: a part of the value -/
theorem bb_val {f : Int → Nat} {g : Nm → Int} (h0 : g (0, 0) = 0) (hf : ∀ k, (g (pw k)).natAbs ≤ f k) (ha : ∀ x y, g (add x y) = g x + g y) (lo : Int) : ∀ (xs : List Int) (n : Nat), Gap xs → (∀ x ∈ xs, lo ≤ x ∧ x < lo + n) → (g (val xs)).natAbs ≤ (bb f lo n).1
  | [], n, _, _ => by
    show (g (0, 0)).natAbs ≤ _
    rw [h0]; exact Nat.zero_le _
  | [a], n, _, h => by
    have h1 := h a (List.mem_cons_self ..)
    obtain ⟨m, rfl⟩ : ∃ m : Nat, a = lo + m := ⟨(a - lo).toNat, by omega⟩
    have e : g (val [lo + (m : Int)]) = g (pw (lo + m)) := by
      show g (add (pw _) (0, 0)) = _
      rw [ha, h0]; omega
    rw [e]
    have hm : f (lo + m) ≤ (bb f lo (m + 1)).1 := by
      cases m with
      | zero => simp [bb]
      | succ j =>
        show _ ≤ max _ _
        rw [show lo + ((j + 1 : Nat) : Int) = lo + j + 1 by omega]
        exact Nat.le_trans (Nat.le_add_right _ _) (Nat.le_max_right ..)
    obtain ⟨j, rfl⟩ : ∃ j, n = (m + 1) + j := ⟨n - (m + 1), by omega⟩
    exact Nat.le_trans (hf _) (Nat.le_trans hm (bb_le f lo (m + 1) j))
  | a :: b :: r, n, hg, h => by
    have h1 := h a (List.mem_cons_self ..)
    have hb := h b (List.mem_cons_of_mem _ (List.mem_cons_self ..))
    have hab : b + 2 ≤ a := hg.1
    obtain ⟨m, rfl⟩ : ∃ m : Nat, a = lo + m + 2 := ⟨(a - lo - 2).toNat, by omega⟩
    have top : ∀ x ∈ b :: r, x ≤ b := by
      have aux : ∀ (r : List Int) (b : Int), Gap (b :: r) → ∀ x ∈ b :: r, x ≤ b := by
        intro r
        induction r with
        | nil => intro b _ x hx; have e : x = b := by simpa using hx
                 omega
        | cons c r ih =>
          intro b hb x hx
          rcases List.mem_cons.mp hx with rfl | hx
          · omega
          · have := ih c hb.2 x hx
            have := hb.1
            omega
      exact aux r b hg.2
    have ih := bb_val h0 hf ha lo (b :: r) (m + 1) hg.2 fun x hx => ⟨(h x (List.mem_cons_of_mem _ hx)).1, by have := top x hx; omega⟩
    have e : g (val ((lo + m + 2) :: b :: r)) = g (pw (lo + m + 2)) + g (val (b :: r)) := by
      show g (add (pw _) (val (b :: r))) = _
      rw [ha]
    rw [e]
    have hk := hf (lo + m + 2)
    have hs : (bb f lo (m + 3)).1 = max (bb f lo (m + 1)).2 (f (lo + ((m + 1 : Nat) : Int) + 1) + (bb f lo (m + 1)).1) := rfl
    rw [show lo + ((m + 1 : Nat) : Int) + 1 = lo + m + 2 by omega] at hs
    obtain ⟨j, rfl⟩ : ∃ j, n = (m + 3) + j := ⟨n - (m + 3), by omega⟩
    have hle := bb_le f lo (m + 3) j
    have hmx : f (lo + m + 2) + (bb f lo (m + 1)).1 ≤ max (bb f lo (m + 1)).2 (f (lo + m + 2) + (bb f lo (m + 1)).1) := Nat.le_max_right ..
    omega
theorem mid55_1 : (bb (fun k => (pw k).1.natAbs) (-55) 111).1 ≤ 1000000000000 := by decide +kernel
theorem mid55_2 : (bb (fun k => (pw k).2.natAbs) (-55) 111).1 ≤ 1000000000000 := by decide +kernel
theorem mid55 {xs : List Int} (hg : Gap xs) (h : ∀ x ∈ xs, -55 ≤ x ∧ x ≤ 55) : ((-1000000000000 ≤ (val xs).1 ∧ (val xs).1 ≤ 1000000000000) ∧ (-1000000000000 ≤ (val xs).2 ∧ (val xs).2 ≤ 1000000000000)) := by
  have h1 := bb_val (f := fun k => (pw k).1.natAbs) (g := fun x => x.1) rfl (fun _ => Nat.le_refl _) (fun _ _ => rfl) (-55) xs 111 hg fun x hx => by have := h x hx; omega
  have h2 := bb_val (f := fun k => (pw k).2.natAbs) (g := fun x => x.2) rfl (fun _ => Nat.le_refl _) (fun _ _ => rfl) (-55) xs 111 hg fun x hx => by have := h x hx; omega
  have k1 := mid55_1
  have k2 := mid55_2

  omega
end Gold

set_option Elab.async false
set_option linter.all false
set_option maxRecDepth 100000
namespace L2
open PySem PySem.Spec PyProof.Rows
section
variable {X : Cx}
/-- a product of any two ints that are not too long -/
theorem op_mulA : OpR X (binaryOp .Mult) (rI IntMulOk fun i j => .int (i * j)) := opI fun _ _ _ _ _ _ _ hc q => mul_int q hc
/-- // by a positive divisor of up to some thousands of bits -/
theorem op_fdivB : OpR X (binaryOp .FloorDiv) (rI (fun _ j => 0 < j ∧ j.natAbs.log2 < 9000) fun i j => .int (i / j)) := opI fun i j _ _ _ _ _ hc q => by
  have h1 : (0 : Int) < j := hc.1
  exact floordiv_int (by omega) (by rw [Int.fdiv_eq_ediv_of_nonneg i (by omega)]; exact q) (.inl (PyProof.noPylong_of_log2 hc.2))

/-! tuples and lists of ints, compared -/
theorem vals_int_get {as : List Int} {its : List Value} (r : Vals (as.map V.int) its) {j : Nat} (h : j < its.length) : ∃ t, its[j] = Value.int (as.getD j 0) t := by
  have hl := r.length
  rw [List.length_map] at hl
  have hj : j < as.length := by omega
  have hx : (as.map V.int)[j]? = some (.int as[j]) := by rw [List.getElem?_map, List.getElem?_eq_getElem hj]; rfl
  obtain ⟨u, hu, t, e⟩ := r.get hx
  refine ⟨t, ?_⟩
  have h2 : its[j]? = some its[j] := List.getElem?_eq_getElem h
  rw [h2] at hu
  have e2 : its[j] = u := Option.some.inj hu
  rw [e2, e]
  congr 1
  rw [List.getD_eq_getElem?_getD, List.getElem?_eq_getElem hj]; rfl
theorem all_eq_dec : ∀ (as bs : List Int), ((List.range (min as.length bs.length)).all (fun j => as.getD j 0 == bs.getD j 0) && as.length == bs.length) = decide (as = bs) := by
  intro as bs
  rw [Bool.eq_iff_iff, Bool.and_eq_true, decide_eq_true_iff, List.all_eq_true, beq_iff_eq]
  constructor
  · rintro ⟨h1, h2⟩
    refine List.ext_getElem h2 fun i hi hi' => ?_
    have := h1 i (List.mem_range.mpr (by omega))
    rw [beq_iff_eq, List.getD_eq_getElem?_getD, List.getD_eq_getElem?_getD, List.getElem?_eq_getElem hi, List.getElem?_eq_getElem hi'] at this
    exact this
  · rintro rfl
    exact ⟨fun i _ => by simp, rfl⟩
theorem all_eq_dec' {as bs : List Int} (h : as.length = bs.length) : (List.range as.length).all (fun j => as.getD j 0 == bs.getD j 0) = decide (as = bs) := by
  have := all_eq_dec as bs
  rw [← h, Nat.min_self, beq_self_eq_true, Bool.and_true] at this
  exact this
def rEqT (K : PySem.W.Frag) (neg : Bool) : R2 := fun x y H Q => ∃ (p q : Addr) (as bs : List Int), x = .ref p ∧ y = .ref q ∧ SqT K H p (as.map V.int) ∧ SqT K H q (bs.map V.int) ∧ Q (.bl (if neg then !decide (as = bs) else decide (as = bs))) H
def rEqL (K : PySem.W.Frag) (neg : Bool) : R2 := fun x y H Q => ∃ (p q : Addr) (as bs : List Int), x = .ref p ∧ y = .ref q ∧ SqL K H p (as.map V.int) ∧ SqL K H q (bs.map V.int) ∧ Q (.bl (if neg then !decide (as = bs) else decide (as = bs))) H
theorem eq_items {A : Around} {s : Shared} {as bs : List Int} {its its' : List Value} (r : Vals (as.map V.int) its) (r' : Vals (bs.map V.int) its') :
    ∀ j (h1 : j < its.toArray.size) (h2 : j < its'.toArray.size), SeqAt.EqAt A s its.toArray[j] its'.toArray[j] (as.getD j 0 == bs.getD j 0) := by
  intro j h1 h2
  obtain ⟨t, e⟩ := vals_int_get r (j := j) (by simpa using h1)
  obtain ⟨t', e'⟩ := vals_int_get r' (j := j) (by simpa using h2)
  have e1 : its.toArray[j] = Value.int (as.getD j 0) t := by simpa using e
  have e2 : its'.toArray[j] = Value.int (bs.getD j 0) t' := by simpa using e'
  rw [e1, e2]
  exact SeqAt.EqAt.int_int _ _ _ _
theorem op_eqT (hu : X.A.units < cLine) : OpR X (compareOp .Eq) (rEqT X.K false) := by
  intro pins s σ H x y v u Q I rx ry h
  obtain ⟨p, q, as, bs, rfl, rfl, h1, h2, hq⟩ := h
  cases rx
  cases ry
  obtain ⟨its, r, pl, hz⟩ := I.tuple h1
  obtain ⟨its', r', pl', hz'⟩ := I.tuple h2
  have l1 := r.length
  have l2 := r'.length
  rw [List.length_map] at l1 l2
  refine SeqAt.eq_tupleAt (e := fun j => as.getD j 0 == bs.getD j 0) pl pl' hu (eq_items r r') ⟨.bl _, H, I, rfl, ?_⟩
  have e := all_eq_dec as bs
  rw [List.size_toArray, List.size_toArray, ← l1, ← l2, e]
  exact hq
theorem op_neT (hu : X.A.units < cLine) : OpR X (compareOp .NotEq) (rEqT X.K true) := by
  intro pins s σ H x y v u Q I rx ry h
  obtain ⟨p, q, as, bs, rfl, rfl, h1, h2, hq⟩ := h
  cases rx
  cases ry
  obtain ⟨its, r, pl, hz⟩ := I.tuple h1
  obtain ⟨its', r', pl', hz'⟩ := I.tuple h2
  have l1 := r.length
  have l2 := r'.length
  rw [List.length_map] at l1 l2
  refine SeqAt.RcNeAt.tuples (e := fun j => as.getD j 0 == bs.getD j 0) pl pl' hu (eq_items r r') _ _ _ _ ⟨.bl _, H, I, rfl, ?_⟩
  have e := all_eq_dec as bs
  rw [List.size_toArray, List.size_toArray, ← l1, ← l2, e]
  exact hq
theorem op_eqL (hu : X.A.units < cLine) : OpR X (compareOp .Eq) (rEqL X.K false) := by
  intro pins s σ H x y v u Q I rx ry h
  obtain ⟨p, q, as, bs, rfl, rfl, h1, h2, hq⟩ := h
  cases rx
  cases ry
  obtain ⟨its, r, pl, hz⟩ := I.list h1
  obtain ⟨its', r', pl', hz'⟩ := I.list h2
  have l1 := r.length
  have l2 := r'.length
  rw [List.length_map] at l1 l2
  by_cases hl : as.length = bs.length
  · refine SeqAt.eq_listAt (e := fun j => as.getD j 0 == bs.getD j 0) pl.isList pl'.isList (by simp; omega) hu (eq_items r r') ⟨.bl _, H, I, rfl, ?_⟩
    have e := all_eq_dec' hl
    rw [List.size_toArray, ← l1, e]
    exact hq
  · refine SeqAt.eq_list_lengthsAt pl.isList pl'.isList (by simp; omega) hu ⟨.bl false, H, I, rfl, ?_⟩
    have e : decide (as = bs) = false := decide_eq_false (fun z => hl (by rw [z]))
    rw [e] at hq
    exact hq
theorem op_neL (hu : X.A.units < cLine) : OpR X (compareOp .NotEq) (rEqL X.K true) := by
  intro pins s σ H x y v u Q I rx ry h
  obtain ⟨p, q, as, bs, rfl, rfl, h1, h2, hq⟩ := h
  cases rx
  cases ry
  obtain ⟨its, r, pl, hz⟩ := I.list h1
  obtain ⟨its', r', pl', hz'⟩ := I.list h2
  have l1 := r.length
  have l2 := r'.length
  rw [List.length_map] at l1 l2
  by_cases hl : as.length = bs.length
  · refine SeqAt.RcNeAt.lists (e := fun j => as.getD j 0 == bs.getD j 0) pl.isList pl'.isList (by simp; omega) hu (eq_items r r') _ _ _ _ ⟨.bl _, H, I, rfl, ?_⟩
    have e := all_eq_dec' hl
    rw [List.size_toArray, ← l1, e]
    exact hq
  · refine SeqAt.RcNeAt.lists_lengths pl.isList pl'.isList (by simp; omega) hu _ _ _ _ ⟨.bl true, H, I, rfl, ?_⟩
    have e : decide (as = bs) = false := decide_eq_false (fun z => hl (by rw [z]))
    rw [e] at hq
    exact hq

/-! isinstance(x, C), C a kind of Python's own -/
theorem call_isinst : CallR X (.builtin "isinstance") (fun xs H Q => ∃ x c t b, xs = [x, .ty c] ∧ TyOf X.K H x t ∧ PySem.W.kitOne X.K t (.type c) = some b ∧ Q (.bl b) H) := by
  intro pins s σ H xs us Q I r h
  obtain ⟨x, c, t, b, rfl, ty, e, q⟩ := h
  cases r with
  | cons r1 rr =>
    cases rr with
    | cons r2 r3 =>
      cases r3
      cases (show _ = Value.type c from r2)
      exact isinst_ok I r1 ty e fun tk => ⟨.bl b, H, I.tok _, rfl, q⟩
theorem kit_ii {K : PySem.W.Frag} : PySem.W.kitOne K (.type "int") (.type "int") = some true := rfl
theorem kit_ib {K : PySem.W.Frag} : PySem.W.kitOne K (.type "int") (.type "bool") = some false := by rfl
theorem kit_tt {K : PySem.W.Frag} : PySem.W.kitOne K (.type "tuple") (.type "tuple") = some true := rfl
theorem kit_ll {K : PySem.W.Frag} : PySem.W.kitOne K (.type "list") (.type "list") = some true := rfl
theorem boot_int : bootBuiltins "int" = some (.type "int") := by decide +kernel
theorem boot_bool : bootBuiltins "bool" = some (.type "bool") := by decide +kernel
theorem boot_tuple : bootBuiltins "tuple" = some (.type "tuple") := by decide +kernel
theorem boot_list : bootBuiltins "list" = some (.type "list") := by decide +kernel

/-! places -/
theorem at0 {α : Type} {x : α} {xs : List α} : atI (x :: xs) 0 = some x := atI_nat (j := 0) rfl
theorem at1 {α : Type} {x y : α} {xs : List α} : atI (x :: y :: xs) 1 = some y := atI_nat (j := 1) rfl
theorem at2 {α : Type} {x y z : α} {xs : List α} : atI (x :: y :: z :: xs) 2 = some z := atI_nat (j := 2) rfl
end

/-! a tuple, a list that is written: somewhere new, all else as it was -/
section
variable {X : Cx} {es : List Expr} {t : TA} {pos : Pos}
theorem same_new {H : Hp} {p : Addr} (h : H p = none) (o : HO) : Same H (upd H p o) := fun b u q => by rw [upd_ne (ne_of_none q h)]; exact q
def tTupN (t : TA) : TE := fun σ H Q => t σ H fun xs H1 => xs.length ≤ sizeLine ∧ ∀ p H2, Same H1 H2 → H1 p = none → H2 p = some (.tup xs) → Q (.ref p) H2
def tLstN (t : TA) : TE := fun σ H Q => t σ H fun xs H1 => xs.length ≤ sizeLine ∧ ∀ p H2, Same H1 H2 → H1 p = none → H2 p = some (.lst xs) → Q (.ref p) H2
theorem pe_tupN {x1} (h : PA X es t) : PE X (.Tuple es x1 pos) (tTupN t) := by
  intro pins s σ H Q I hq
  refine wpAny_Tuple_spliced (thn (h pos pins s σ H _ I hq) fun us s1 ⟨xs, H1, I1, r, z, q⟩ => ⟨by rw [← r.length]; exact z, ?_⟩)
  have hf : H1 s1.heap.objs.size = none := I1.hok.fresh (Nat.le_refl _)
  refine ⟨.ref s1.heap.objs.size, upd H1 s1.heap.objs.size (.tup xs), I1.laid (t' := s1.toks) (fun b u e => Heap.get?_push_of_some _ e) (Nat.le_refl _) ?_, rfl, q _ _ (same_new hf _) hf upd_same⟩
  exact ⟨z, us, r, ⟨_, Heap.get?_push_size _ rfl, rfl, _, rfl⟩⟩
theorem pe_lstN (h : PA X es t) : PE X (.List es pos) (tLstN t) := by
  intro pins s σ H Q I hq
  refine wpAny_List_spliced (thn (h pos pins s σ H _ I hq) fun us s1 ⟨xs, H1, I1, r, z, q⟩ => ⟨by rw [← r.length]; exact z, ?_⟩)
  have hf : H1 s1.heap.objs.size = none := I1.hok.fresh (Nat.le_refl _)
  refine ⟨.ref s1.heap.objs.size, upd H1 s1.heap.objs.size (.lst xs), I1.laid (t' := s1.toks) (fun b u e => Heap.get?_push_of_some _ e) (Nat.le_refl _) ?_, rfl, q _ _ (same_new hf _) hf upd_same⟩
  exact ⟨z, us, 0, r, Heap.get?_push_size _ rfl⟩
end
theorem if_T {c : Bool} {A B : Prop} (hc : c = true) (h : A) : if c = true then A else B := by rw [if_pos hc]; exact h
theorem if_F {c : Bool} {A B : Prop} (hc : c = false) (h : B) : if c = true then A else B := by rw [if_neg (by rw [hc]; decide)]; exact h
theorem dec_V {i j : Int} (h : decide (V.int i = V.int j) = true) : i = j := by
  have := of_decide_eq_true h
  injection this
theorem dec_nV {i j : Int} (h : ¬ decide (V.int i = V.int j) = true) : i ≠ j := fun e => h (decide_eq_true (by rw [e]))
theorem dec_V' {i j : Int} (h : i = j) : decide (V.int i = V.int j) = true := decide_eq_true (by rw [h])

theorem not_T {c : Bool} (h : c = true) : (!c) = false := by rw [h]; rfl
theorem not_F {c : Bool} (h : c = false) : (!c) = true := by rw [h]; rfl
theorem neT {as bs : List Int} (h : as = bs) : (if true = true then !decide (as = bs) else decide (as = bs)) = false := by rw [if_pos rfl, decide_eq_true h]; rfl
theorem eqT {as bs : List Int} (h : as = bs) : (if false = true then !decide (as = bs) else decide (as = bs)) = true := by rw [if_neg Bool.false_ne_true, decide_eq_true h]
theorem eqI {i j : Int} (h : i = j) : decide (V.int i = V.int j) = true := decide_eq_true (by rw [h])
theorem neI {i j : Int} (h : i = j) : (!decide (V.int i = V.int j)) = false := by rw [decide_eq_true (by rw [h])]; rfl
theorem bl_T {c : Bool} {Q : VK} {H : Hp} (h : c = true) (q : Q (.bl true) H) : Q (.bl c) H := by rw [h]; exact q

/-! a def of the text, with its name, its place and its promise -/
section
variable {P : Program} {w : World} {K : PySem.W.Frag} {mg : Str → Option Value} {base : Heap}
structure Has (K : PySem.W.Frag) (mg : Str → Option Value) (x : Str) (st : Stmt) (ps : List Str) : Prop where
  ex : ∃ f fd, Fun K x x st f fd ∧ mg x = some (.ref f) ∧ Binds K fd ps []
structure OkF (P : Program) (w : World) (K : PySem.W.Frag) (mg : Str → Option Value) (base : Heap) (k : Nat) (x : Str) (ps : List Str) (sp : Sp) : Prop where
  ex : ∃ f fd, FnOk P w K mg base CX0 k f fd ps sp ∧ mg x = some (.ref f) ∧ PySem.W.keepIn K (.ref f) = true ∧ Binds K fd ps []
theorem Has.ok {x : Str} {st : Stmt} {N ps : List Str} {k : Nat} {sp : Sp} (F : Has K mg x st ps) (S : FnScope N ps (defScope st)) (len : ∀ vs H Q E, sp vs H Q E → vs.length = ps.length)
    (hbody : ∀ (f : Addr) (cdv : Value) (A : Around) (outer : List Env) (s : Shared) (H : Hp) (vs : List V) (Q : VK) (E : XK), Room k (A.deeper (envOfC x (defScope st) s.heap.objs.size f cdv)) → sp vs H Q E →
      ∃ t, PSs (cxOf CX0 P w K mg base N x (defScope st) f cdv A outer s H E).nox (defBody st) t ∧ t { nx := fun _ H' => Q .non H', rt := Q } (start N vs) H) : OkF P w K mg base (k + 1) x ps sp := by
  obtain ⟨f, fd, hF, hm, hb⟩ := F.ex
  exact ⟨f, fd, hF.ok S len (hbody f), hm, hF.kp, hb⟩
theorem pe_callO {X : Cx} {j k : Nat} {x : Str} {ps : List Str} {sp : Sp} {p pos : Pos} {e : Expr} {es : List Expr} {t : TA} (F : OkF X.prog X.w X.K X.mg X.base j x ps sp) (hr : Room k X.A) (ha : PA X (e :: es) t) (hj : j ≤ k := by decide) (hg : Gl X x := by rfl)
    (hdb : (x == ("__debug__" : Str)) = false := by decide) (he : starEach (e :: es) X.env = (false, eval e X.env) :: starEach es X.env := by rfl) (hpl : (backTo pos (starEach es X.env)).any (·.1) = false := by rfl) :
    PE X (.Call (.Name x p) (e :: es) [] pos) (tCall sp [] E0 t) := by
  obtain ⟨f, fd, hF, hm, hk, hb⟩ := F.ex
  exact pe_call hF (hr.mono hj) hg hm hk hb .nil pass0 ha hdb he hpl
end
theorem Same.tup {K : PySem.W.Frag} {H H' : Hp} {a : Addr} {xs : List V} (e : Same H H') (h : SqT K H a xs) : SqT K H' a xs := by
  rcases h with (h | ⟨o, h⟩) | h
  · exact .inl (.inl (e _ _ h))
  · exact .inl (.inr ⟨o, e _ _ h⟩)
  · exact .inr h
theorem small1 : 1 ≤ sizeLine := by decide
theorem small2 : 2 ≤ sizeLine := by decide
theorem small3 : 3 ≤ sizeLine := by decide
theorem small4 : 4 ≤ sizeLine := by decide
theorem small0 : 0 ≤ sizeLine := by decide
end L2

set_option Elab.async false
set_option linter.all false
set_option maxRecDepth 100000
namespace Gold
/-- below 2 to the n in size -/
def Bd (n : Nat) (i : Int) : Prop := i.natAbs < 2 ^ n
theorem Bd.mono {m n : Nat} {i : Int} (h : Bd m i) (hm : m ≤ n) : Bd n i := Nat.lt_of_lt_of_le h (Nat.pow_le_pow_right (by decide) hm)
theorem Bd.add {n : Nat} {i j : Int} (hi : Bd n i) (hj : Bd n j) : Bd (n + 1) (i + j) := by
  unfold Bd at *
  rw [Nat.pow_succ]
  generalize 2 ^ n = k at *
  omega
theorem Bd.sub {n : Nat} {i j : Int} (hi : Bd n i) (hj : Bd n j) : Bd (n + 1) (i - j) := by
  unfold Bd at *
  rw [Nat.pow_succ]
  generalize 2 ^ n = k at *
  omega
theorem Bd.neg {n : Nat} {i : Int} (hi : Bd n i) : Bd n (-i) := by
  unfold Bd at *
  rw [Int.natAbs_neg]
  exact hi
theorem Bd.mul {m n : Nat} {i j : Int} (hi : Bd m i) (hj : Bd n j) : Bd (m + n) (i * j) := by
  unfold Bd at *
  rw [Int.natAbs_mul, Nat.pow_add]
  exact Nat.mul_lt_mul_of_lt_of_le hi (Nat.le_of_lt hj) (Nat.lt_of_le_of_lt (Nat.zero_le _) hj)
theorem mulB {m n : Nat} {i j : Int} (hi : Bd m i) (hj : Bd n j) (h : m + n ≤ 134217728) : PySem.IntMulOk i j :=
  PySem.IntMulOk.of_le (PySem.intBits_le_iff.mpr hi) (PySem.intBits_le_iff.mpr hj) h
theorem mulL {i j : Int} (h0 : -18446744073709551616 < i) (h1 : i < 18446744073709551616) : PySem.IntMulOk i j := .of_left (PySem.intBits_le_64 (by omega) (by omega))
theorem mulR {i j : Int} (h0 : -18446744073709551616 < j) (h1 : j < 18446744073709551616) : PySem.IntMulOk i j := .of_right (PySem.intBits_le_64 (by omega) (by omega))
def BdN (n : Nat) (x : Nm) : Prop := Bd n x.1 ∧ Bd n x.2
theorem BdN.mono {m n : Nat} {x : Nm} (h : BdN m x) (hm : m ≤ n) : BdN n x := ⟨h.1.mono hm, h.2.mono hm⟩
theorem BdN.add {n : Nat} {x y : Nm} (hx : BdN n x) (hy : BdN n y) : BdN (n + 1) (Gold.add x y) := ⟨hx.1.add hy.1, hx.2.add hy.2⟩
theorem BdN.sub {n : Nat} {x y : Nm} (hx : BdN n x) (hy : BdN n y) : BdN (n + 1) (Gold.sub x y) := ⟨hx.1.sub hy.1, hx.2.sub hy.2⟩
theorem BdN.mul {n : Nat} {x y : Nm} (hx : BdN n x) (hy : BdN n y) : BdN (n + n + 2) (Gold.mul x y) :=
  ⟨((hx.1.mul hy.1).add (hx.2.mul hy.2)).mono (by omega), (((hx.1.mul hy.2).add (hx.2.mul hy.1)).add ((hx.2.mul hy.2).mono (by omega))).mono (by omega)⟩
theorem BdN.conj {n : Nat} {x : Nm} (hx : BdN n x) : BdN (n + 1) (Gold.conj x) := ⟨hx.1.add hx.2, hx.2.neg.mono (by omega)⟩
def nrmN (x : Nm) : Int := nrm x.1 x.2
theorem BdN.nrm {n : Nat} {x : Nm} (hx : BdN n x) : Bd (n + n + 2) (nrmN x) :=
  ((((hx.1.mul hx.1).add (hx.1.mul hx.2))).sub ((hx.2.mul hx.2).mono (by omega))).mono (by omega)
def sgnN (x : Nm) : Int := sgn x.1 x.2
theorem one_bd : Bd 1 1 ∧ Bd 1 0 ∧ Bd 1 (-1) := ⟨by unfold Bd; decide, by unfold Bd; decide, by unfold Bd; decide⟩
theorem mulMod {x m y : Int} (hm : 0 < m) (hle : m ≤ 18446744073709551616) : PySem.IntMulOk (x % m) y :=
  mulL (by have := Int.emod_nonneg x (show m ≠ 0 by omega); omega) (by have := Int.emod_lt_of_pos x hm; omega)
theorem conj_add (x y : Nm) : conj (add x y) = add (conj x) (conj y) := by
  apply Prod.ext <;> simp only [conj, add] <;> omega
theorem conj_conj (x : Nm) : conj (conj x) = x := by
  apply Prod.ext <;> simp only [conj] <;> omega
theorem conj_mul (x y : Nm) : conj (mul x y) = mul (conj x) (conj y) := by
  apply Prod.ext <;> simp only [conj, mul] <;> grind
theorem mul_conj (x : Nm) : mul x (conj x) = (nrmN x, 0) := by
  apply Prod.ext <;> simp only [conj, mul, nrmN, nrm] <;> grind
theorem nrm_mul (x y : Nm) : nrmN (mul x y) = nrmN x * nrmN y := by
  simp only [mul, nrmN, nrm]; grind
/-- the way that the walk to the power k goes -/
def dir (k : Int) : Int := if 0 < k then 1 else -1
theorem pow_s1 {k : Int} : pw (dir k * ((0 : Nat) : Int)) = (1, 0) := by
  rw [show dir k * ((0 : Nat) : Int) = 0 from Int.mul_zero _]; rfl
theorem pow_s2 {k : Int} : pw (dir k * ((0 : Nat) : Int) + 1) = (0, 1) := by
  rw [show dir k * ((0 : Nat) : Int) = 0 from Int.mul_zero _]; rfl
theorem pow_h1 {k : Int} {i : Nat} (hk : 0 < k) : pw (dir k * ((i + 1 : Nat) : Int)) = pw (dir k * (i : Int) + 1) := by
  unfold dir; rw [if_pos hk, show (1 : Int) * ((i + 1 : Nat) : Int) = 1 * (i : Int) + 1 by omega]
theorem pow_a1 {k : Int} {i : Nat} (hk : 0 < k) : pw (dir k * ((i + 1 : Nat) : Int) + 1) = add (pw (dir k * (i : Int))) (pw (dir k * (i : Int) + 1)) := by
  unfold dir; rw [if_pos hk, show (1 : Int) * ((i + 1 : Nat) : Int) + 1 = 1 * (i : Int) + 2 by omega, pw_next, add_comm]
theorem pow_h2 {k : Int} {i : Nat} (hk : ¬ 0 < k) : pw (dir k * ((i + 1 : Nat) : Int)) = sub (pw (dir k * (i : Int) + 1)) (pw (dir k * (i : Int))) := by
  unfold dir; rw [if_neg hk, show (-1 : Int) * ((i + 1 : Nat) : Int) = -1 * (i : Int) - 1 by omega]
  have := pw_next (-1 * (i : Int) - 1)
  rw [show -1 * (i : Int) - 1 + 2 = -1 * (i : Int) + 1 by omega, show -1 * (i : Int) - 1 + 1 = -1 * (i : Int) by omega] at this
  rw [this]
  apply Prod.ext <;> simp only [add, sub] <;> omega
theorem pow_a2 {k : Int} {i : Nat} (hk : ¬ 0 < k) : pw (dir k * ((i + 1 : Nat) : Int) + 1) = pw (dir k * (i : Int)) := by
  unfold dir; rw [if_neg hk, show (-1 : Int) * ((i + 1 : Nat) : Int) + 1 = -1 * (i : Int) by omega]
theorem pow_end {k : Int} : pw (dir k * (((if k < 0 then -k else k).toNat : Nat) : Int)) = pw k := by
  unfold dir; congr 1; split <;> split <;> omega
theorem pw_ahead (k : Int) : pw k = add (pw (k - 1)) (pw (k - 2)) := by
  have := pw_next (k - 2)
  rw [show k - 2 + 2 = k by omega, show k - 2 + 1 = k - 1 by omega] at this
  exact this
theorem pw_gap (k : Int) : sub (pw k) (pw (k - 1)) = pw (k - 2) := by
  rw [pw_ahead k]
  apply Prod.ext <;> simp only [add, sub] <;> omega
theorem pw_sgn (k : Int) : sgnN (pw k) = 1 := sgn_pos (pw_pos k)
theorem pw_bd {k : Int} (h : -400 ≤ k ∧ k ≤ 400) : BdN 500 (pw k) := by
  have := pw_bound k (n := 499) (by omega)
  have e : (2 : Nat) ^ 499 < 2 ^ 500 := Nat.pow_lt_pow_right (by decide) (by decide)
  exact ⟨Nat.lt_of_le_of_lt this.1 e, Nat.lt_of_le_of_lt this.2 e⟩
theorem lst2 {x y : Nm} (h : x = y) : [x.1, x.2] = [y.1, y.2] := by rw [h]
end Gold

namespace L2
open PySem PySem.Spec PyProof.Rows Gold
/-- the number x as a tuple on the heap -/
abbrev tw (x : Nm) : HO := .tup [.int x.1, .int x.2]
/-- two numbers in, one out, in a new tuple -/
def spBin (pre : Nm → Nm → Prop) (g : Nm → Nm → Nm) : Sp := fun vs H Q _ => ∃ p q x y, vs = [.ref p, .ref q] ∧ H p = some (tw x) ∧ H q = some (tw y) ∧ pre x y ∧
  ∀ r H', Same H H' → H' r = some (tw (g x y)) → Q (.ref r) H'
def spUn (pre : Nm → Prop) (g : Nm → Nm) : Sp := fun vs H Q _ => ∃ p x, vs = [.ref p] ∧ H p = some (tw x) ∧ pre x ∧
  ∀ r H', Same H H' → H' r = some (tw (g x)) → Q (.ref r) H'
/-- a number in, an int out -/
def spNI (pre : Nm → Prop) (g : Nm → Int) : Sp := fun vs H Q _ => ∃ p x, vs = [.ref p] ∧ H p = some (tw x) ∧ pre x ∧ Q (.int (g x)) H
def spPow : Sp := fun vs H Q _ => ∃ k, vs = [.int k] ∧ (-400 ≤ k ∧ k ≤ 400) ∧ ∀ r H', Same H H' → H' r = some (tw (pw k)) → Q (.ref r) H'
/-- an int in, an int out -/
def spII (g : Int → Int) : Sp := fun vs H Q _ => ∃ c, vs = [.int c] ∧ Q (.int (g c)) H
/-- an item of the script, or 0 -/
def cell (ns : List Int) (k : Int) : Int := ns.getD k.toNat 0
def spCell (K : PySem.W.Frag) : Sp := fun vs H Q _ => ∃ a ns k, vs = [.ref a, .int k] ∧ SqL K H a (ns.map V.int) ∧ 0 ≤ k ∧ Q (.int (cell ns k)) H
theorem cell_at {ns : List Int} {k : Int} (h0 : 0 ≤ k) (h : k < (((ns.map V.int).length : Nat) : Int)) : atI (ns.map V.int) k = some (.int (cell ns k)) := by
  rw [List.length_map] at h
  have hk : k.toNat < ns.length := by omega
  have q : atI (ns.map V.int) ((k.toNat : Nat) : Int) = some (.int ns[k.toNat]) := atI_nat (by rw [List.getElem?_map, List.getElem?_eq_getElem hk]; rfl)
  have e : ((k.toNat : Nat) : Int) = k := by omega
  rw [e] at q
  rw [q]
  unfold cell
  rw [List.getD_eq_getElem?_getD, List.getElem?_eq_getElem hk]; rfl
theorem cell_out {ns : List Int} {k : Int} (h0 : 0 ≤ k) (h : ¬ k < (((ns.map V.int).length : Nat) : Int)) : cell ns k = 0 := by
  rw [List.length_map] at h
  unfold cell
  rw [List.getD_eq_getElem?_getD, List.getElem?_eq_none (by omega)]; rfl
def spLaw (K : PySem.W.Frag) : Sp := fun vs H Q _ => ∃ (a : Addr) (ns : List Int), vs = [.ref a] ∧ SqL K H a (ns.map V.int) ∧ ns.length ≤ 63 ∧ ∀ H', Q (.bl true) H'
end L2

set_option Elab.async false
set_option linter.all false
set_option maxRecDepth 100000
namespace PySem.W
open PySem PySem.Spec PySem.Calls PyProof.Rows PySem.Builtin.ObjectAttr PySem.Builtin PySem.Builtin.Getset_descriptor
section
variable {prog : Program} {w : World} {A : Around} {E : Value → Shared → Prop} {s : Shared} {K : Frag} {x C : Addr}
/-- x is an exception of the class at C -/
def ExcAt (x C : Addr) (h : Heap) : Prop := ∃ o vs, h.get? x = some o ∧ o.cls = .ref C ∧ o.data = .fields vs
theorem ExcAt.ty {M : Model} {h : Heap} (e : ExcAt x C h) : Looks M h (typeOf (.ref x)) (.ref C) := by
  obtain ⟨o, vs, h1, h2, _⟩ := e
  exact h2 ▸ (Looks.ld h1).andThen .now
/-- what the class must show of itself -/
structure ExcLook (K : Frag) (C : Addr) : Prop where
  ga : findIn K (.ref C) "__getattribute__" = some (some (.builtin "BaseException.__getattribute__"))
  gt : findIn K (.ref C) "__getattr__" = some none
  cl : findIn K (.ref C) "__class__" = some (some (.builtin "object.__class__"))
  gs : specialIn K (.builtin "object.__class__") "__get__" = some (some (.builtin "getset_descriptor.__get__"))
  tk : takesIn K (.builtin "object.__class__") = some true
  ob : mroIn K C (.type "object") = some true
  be : mroIn K C (.type "BaseException") = some true
  cs : (clsIn K C).isSome = true
theorem exc_class_get {tp : Value} {R : Result → Shared → Prop} (X : K.In s.heap) (I : ExcAt x C s.heap) (hm : mroIn K C (.type "object") = some true)
    (h : R (.ok (.ret (.ref C))) s) : codeAny (model prog w) A (.call (.builtin "getset_descriptor.__get__") ⟨[.builtin "object.__class__", .ref x, tp], []⟩) R s := by
  obtain ⟨hh, g, dr, t, os⟩ := s
  have L0 := I.ty (M := model prog w)
  have L1 := looks_mroIn (M := model prog w) X hm
  refine codeAny_call_builtin KF.slot_gs.plain KF.entry_gs (KF.slot_gs.check _ _ _ _ _ _ _ _ KF.type_class (KF.args_gs _ _ _) ?_)
  unfold Builtin.«getset_descriptor.__get__» descrGet
  rw [dga_obj]
  refine wpAny_bind (wpAny_pure ?_)
  unfold descrGetter descrCheckInstance descrNameAndClass isInstance
  simp only [KF.owner_class]
  repeat lk
  refine ⟨Code.quiet_builtin _ (by decide +kernel), codeAny_builtin KF.entry_class ?_⟩
  unfold Builtin.«object.__class__» shownTypeOf
  repeat lk
  exact h
theorem exc_find {M : Model} {h : Heap} (X : K.In h) (F : ExcLook K C) : Looks M h (Builtin.ObjectAttr.find (.ref x) (.ref C) "__class__") (Builtin.ObjectAttr.Found.bind (.builtin "getset_descriptor.__get__") (.builtin "object.__class__")) := by
  have L1 := looks_findIn (M := M) X F.cl
  have L2 : Looks M h (Builtin.ObjectAttr.getOf (some (.builtin "object.__class__"))) (some (.builtin "getset_descriptor.__get__")) := looks_specialIn X F.gs
  have L3 := looks_takesIn (M := M) X F.tk
  refine L1.andThen (L2.andThen ?_)
  exact (show Looks M h (Builtin.ObjectAttr.dataDescriptor? (some (.builtin "object.__class__")) (some (.builtin "getset_descriptor.__get__"))) (some ((.builtin "getset_descriptor.__get__"), (.builtin "object.__class__"))) from L3.andThen .now).andThen (Looks.tag .now)
theorem exc_entry {tk : Tok} {Q : Fin → Shared → Prop} (X : K.In s.heap) (I : ExcAt x C s.heap) (F : ExcLook K C) (hq : Q (.done (.ret (.ref C))) s) :
    wpAny (model prog w) A (Builtin.«object.__getattribute__» ⟨[.ref x, .str "__class__" tk], []⟩) Q E s := by
  obtain ⟨hh, g, dr, t, os⟩ := s
  have L0 := I.ty (M := model prog w)
  have L1 := exc_find (M := model prog w) (x := x) X F
  repeat (any_goals (first | assumption | with_reducible refine Looks.at (by assumption) ?_ | wp_step))
  refine exc_class_get X I F.ob ?_
  repeat (any_goals (first | assumption | wp_step))
theorem exc_check {M : Model} {nameV : Value} {Q : Unit → Shared → Prop} (X : K.In s.heap) (I : ExcAt x C s.heap) (F : ExcLook K C) (hq : Q () s) : wpAny M A (checkBuiltinCall "BaseException.__getattribute__" ⟨[.ref x, nameV], []⟩) Q E s := by
  obtain ⟨hh, g, dr, t, os⟩ := s
  have hk : builtinKind "BaseException.__getattribute__" = some .slot := by decide +kernel
  have hsplit : splitId "BaseException.__getattribute__" = some ("BaseException", "__getattribute__") := by decide +kernel
  have ha := PySem.F.args_bexc_ga (.ref x) nameV
  have L0 := I.ty (M := M)
  have L1 := looks_mroIn (M := M) X F.be
  simp only [checkBuiltinCall, hk, hsplit]
  refine wpAny_bind ?_
  unfold isInstance
  repeat (any_goals (first | assumption | with_reducible refine Looks.at (by assumption) ?_ | wp_step))
theorem exc_by {tk : Tok} {Q : Value → Shared → Prop} (X : K.In s.heap) (I : ExcAt x C s.heap) (F : ExcLook K C) (hq : Q (.ref C) s) :
    wpAny (model prog w) A (getAttrBy (.ref x) (.str "__class__" tk) false) Q E s := by
  obtain ⟨hh, g, dr, t, os⟩ := s
  have L0 := I.ty (M := model prog w)
  have L1 := looks_findIn (M := model prog w) X F.ga
  have L2 := looks_findIn (M := model prog w) X F.gt
  have f3 := PySem.F.excAttr_ValueError.ga.bind (.ref x)
  have hx2 : (Value.builtin "BaseException.__getattribute__" == Value.builtin "object.__getattribute__") = false := by decide +kernel
  have hx1 : (onTheHeap (Value.ref C) && Value.builtin "BaseException.__getattribute__" == Value.builtin "object.__getattribute__") = false := by rw [hx2]; rfl
  repeat (any_goals (first | assumption | with_reducible refine Looks.at (by assumption) ?_ | wp_step))
  refine codeAny_call_builtin PySem.F.excAttr_ValueError.ga.plain PySem.F.entry_bexc_ga (exc_check X I F (exc_entry X I F ?_))
  repeat (any_goals (first | assumption | wp_step))
theorem exc_class {Q : Option Value → Shared → Prop} (X : K.In s.heap) (I : ExcAt x C s.heap) (F : ExcLook K C) (h : Q (some (.ref C)) { s with toks := s.toks + 1 }) : wpAny (model prog w) A (getAttr? (.ref x) "__class__") Q E s := by
  obtain ⟨hh, g, dr, t, os⟩ := s
  have X' : K.In (⟨hh, g, dr, t + 1, os⟩ : Shared).heap := X
  have I' : ExcAt x C (⟨hh, g, dr, t + 1, os⟩ : Shared).heap := I
  unfold getAttr? getAttrBy?
  repeat (any_goals (first | assumption | with_reducible apply exc_by X' I' F | wp_step))
theorem kitx_exc (F : ExcLook K C) : KitX K (.ref x) (.ref C) (ExcAt x C) where
  ty := fun _ _ _ I => I.ty
  it := fun _ _ X _ => by
    obtain ⟨cdD, hcD⟩ := Option.isSome_iff_exists.mp F.cs
    unfold clsIn at hcD
    split at hcD
    · rename_i c' d' cd' sl' ho
      intro A' Q' E' s' k q
      unfold isType loadHead
      exact wpAny_bind (wpAny_loadPart (k _ _ (X _ _ ho)) (wpAny_pure q))
    · cases hcD
  ne := fun h tp dd its n sl X htp => by
    obtain ⟨cdD, hcD⟩ := Option.isSome_iff_exists.mp F.cs
    refine Bool.eq_false_iff.mpr fun q => ?_
    have e : C = tp := Value.ref.inj (beq_iff_eq.mp q)
    subst e
    unfold clsIn at hcD
    split at hcD
    · rename_i c' d' cd' sl' ho
      have z := (X _ _ ho).symm.trans htp
      cases z
    · cases hcD
  ca := fun X I k => exc_class X I F k
end
end PySem.W

set_option Elab.async false
set_option linter.all false
set_option maxRecDepth 100000
namespace L2
open PySem PySem.Spec PyProof.Rows

/-- an exception of the class cls flies: x is its address; the heap ahead of the call s, H, behind it s', H' -/
structure Fly (P : Program) (w : World) (outer : List Env) (H : Hp) (s : Shared) (cls : Value) (x : Addr) (H' : Hp) (s' : Shared) : Prop where
  os : s'.os = s.os
  bare : AllBare s'.gens
  un : Un (frs outer) [] H H' s.heap s'.heap
  fly : ∃ (B : Heap) (a0 : Value), Heap.FlyingW B outer x cls a0 s'.heap ∧ (∀ b o, s.heap.get? b = some o → H b = none → b ∉ frs outer → B.get? b = some o) ∧ HOk P w H' B ∧
    (∀ b o, s.heap.get? b = some o → b ∉ frs outer → ∃ o', B.get? b = some o') ∧ H' x = none
theorem Fly.hok {P : Program} {w : World} {outer : List Env} {H H' : Hp} {s s' : Shared} {cls : Value} {x : Addr} (f : Fly P w outer H s cls x H' s') : HOk P w H' s'.heap := by
  obtain ⟨B, a0, fl, _, h, _, _⟩ := f.fly
  exact h.kept fl.1
/-- how an exception lies behind a call -/
def CXE (P : Program) (w : World) : CXT := fun outer H s E e s' => ∃ x cls H', e = .ref x ∧ Fly P w outer H s cls x H' s' ∧ E cls none H'

section
variable {CX : CXT} {P : Program} {w : World} {K : PySem.W.Frag} {mg : Str → Option Value} {base : Heap} {N : List Str} {qual : Str} {scope : Scope} {f : Addr} {cd : Value} {A : Around} {outer : List Env} {s₀ : Shared} {H₀ : Hp} {E : XK}
  {pins : List (Addr × Obj)} {σ : St} {H H' : Hp} {s s1 : Shared} {x : Addr} {cls a0 : Value} {B h' : Heap}
/-- out of a def's frame -/
theorem fly_out (I : Inv (cxOf CX P w K mg base N qual scope f cd A outer s₀ H₀ E) pins σ H s) (J : Inv (cxOf CX P w K mg base N qual scope f cd A outer s₀ H₀ E) pins σ H' s1)
    (b1 : ∀ b o, s.heap.get? b = some o → H b = none → b ∉ frs (cxOf CX P w K mg base N qual scope f cd A outer s₀ H₀ E).stack → B.get? b = some o) (b2 : HOk P w H' B)
    (b3 : ∀ b o, s.heap.get? b = some o → b ∉ frs (cxOf CX P w K mg base N qual scope f cd A outer s₀ H₀ E).stack → ∃ o', B.get? b = some o') (hx : H' x = none)
    (fl : Heap.FlyingW B outer x cls a0 h') (up : s1.heap.UpToSlots h') : Fly P w outer H₀ s₀ cls x H' { s1 with heap := h' } := by
  have noex : ∀ b : Addr, b ∉ (cxOf CX P w K mg base N qual scope f cd A outer s₀ H₀ E).ex := fun b z => absurd (show b ∈ ([] : List Addr) from z) (by simp)
  have nostk : ∀ b o, s₀.heap.get? b = some o → b ∉ frs outer → b ∉ frs (cxOf CX P w K mg base N qual scope f cd A outer s₀ H₀ E).stack := fun b o q hb z => by
    rcases List.mem_cons.mp (I.stkSub b z) with e | z
    · have := Heap.lt_size q
      have a := I.ok.above
      rw [← e] at a
      exact absurd (Nat.lt_of_lt_of_le this a) (Nat.lt_irrefl _)
    · exact hb z
  have frame : ∀ b ∈ frs outer, ∃ o, s1.heap.get? b = some o ∧ ∀ vs, o.data ≠ .fields vs := fun b hb => (J.funs.mem hb).2
  refine ⟨J.os, J.bare, ⟨fun b o q n hb _ => ?_, fun b o q n hb _ => ?_, fun b o q n _ => J.base.free b o q n (noex b), fun b o q _ => ?_, J.base.tups, J.base.frzs, J.base.tbls⟩, ⟨B, a0, fl, fun b o q n hb => ?_, b2, fun b o q hb => ?_, hx⟩⟩
  · exact fl.1 b o (b1 b o (I.base.keep b o q n hb (noex b)) (I.base.free b o q n (noex b)) (nostk b o q hb))
  · obtain ⟨sl, e1⟩ := J.base.slot b o q n hb (noex b)
    obtain ⟨o1, e2, d⟩ := frame b hb
    rw [e1] at e2
    obtain ⟨sl', e3⟩ := up b _ e1 (by cases e2; exact d)
    exact ⟨sl', e3⟩
  · by_cases hb : b ∈ frs outer
    · obtain ⟨o1, e2, d⟩ := frame b hb
      obtain ⟨sl', e3⟩ := up b _ e2 d
      exact ⟨_, e3⟩
    · obtain ⟨o', e⟩ := I.base.there b o q (noex b)
      obtain ⟨o2, e2⟩ := b3 b o' e (nostk b o q hb)
      exact ⟨o2, fl.1 b o2 e2⟩
  · exact b1 b o (I.base.keep b o q n hb (noex b)) (I.base.free b o q n (noex b)) (nostk b o q hb)
  · obtain ⟨o', e⟩ := I.base.there b o q (noex b)
    exact b3 b o' e (nostk b o q hb)

/-- a raise: what the body wants of an exception that was made here -/
def Thr (X : Cx) (E : XK) : Prop := ∀ (pins : List (Addr × Obj)) (σ : St) (H : Hp) (s : Shared) (x : Addr) (cls : Value) (vs : List Value) (h' : Heap), Inv X pins σ H s → Heap.MadeExcOf s.heap h' x cls vs → E cls none H → X.xe (.ref x) { s with heap := h' }
theorem thr_of : Thr (cxOf (CXE P w) P w K mg base N qual scope f cd A outer s₀ H₀ E) E := by
  intro pins σ H s x cls vs h' I hx hE
  have I' : Inv (cxOf (CXE P w) P w K mg base N qual scope f cd A outer s₀ H₀ E) pins σ H { s with heap := h' } := I.kept (t' := s.toks) hx.keeps
  have hin : ∀ env ∈ (cxOf (CXE P w) P w K mg base N qual scope f cd A outer s₀ H₀ E).stack, ∀ b, env.frame = some b → b ∈ frs (cxOf (CXE P w) P w K mg base N qual scope f cd A outer s₀ H₀ E).stack := fun env he b hb => List.mem_filterMap.mpr ⟨env, he, hb⟩
  have hfun := PySem.W.funFrames_hide I.stack hin
  have hHx : H x = none := by
    cases q : H x with
    | none => rfl
    | some u =>
      have z := (I.hok x u q)
      exfalso
      have hnew := hx.new
      obtain ⟨o, ho⟩ : ∃ o, s.heap.get? x = some o := by
        induction u with
        | lst xs => obtain ⟨_, _, _, _, e⟩ := z; exact ⟨_, e⟩
        | tup xs => obtain ⟨_, _, _, o, e, _⟩ := z; exact ⟨_, e⟩
        | dK kvs => obtain ⟨_, _, _, _, o, _, _, e, _⟩ := z; exact ⟨_, e⟩
        | dT kvs => obtain ⟨_, _, _, _, o, _, _, e, _⟩ := z; exact ⟨_, e⟩
        | set S n => obtain ⟨o, _, _, _, e, _⟩ := z; exact ⟨_, e⟩
        | ins C dx fs => obtain ⟨_, _, _, e, _⟩ := z; exact ⟨_, e⟩
        | own y => exact z
        | xd fs => obtain ⟨_, ⟨_, _, _, e, _⟩, _⟩ := z; exact ⟨_, e⟩
        | met f y => exact ⟨_, z⟩
        | rng lo hi => obtain ⟨_, _, _, e⟩ := z; exact ⟨_, e⟩
        | frz o u ih => exact ⟨_, z.1⟩
        | tbl ps => exact ⟨_, z⟩
        | ext φ => exact z.2.1
      rw [ho] at hnew
      cases hnew
  refine wpAny_leaves_madeW (base := PySem.W.hideAll s.heap (frs (cxOf (CXE P w) P w K mg base N qual scope f cd A outer s₀ H₀ E).stack)) (L := (cxOf (CXE P w) P w K mg base N qual scope f cd A outer s₀ H₀ E).env.locals)
    I.ok.frames rfl (fun b o q => PySem.W.of_hideAll _ q) hfun hx fun h2 t fl tup tn up => ?_
  refine ⟨x, cls, H, rfl, fly_out I I' (fun b o q n hb => PySem.W.hideAll_get _ q hb) (fun b u e => ?_) (fun b o q hb => ⟨o, PySem.W.hideAll_get _ q hb⟩) hHx fl up, hE⟩
  refine (I.hok b u e).stay (fun c v hc q => PySem.W.hideAll_get _ q fun hm => ?_) (fun _ z => z) fun _ _ z => z
  have := I.stkFree c hm
  rcases hc with rfl | hc
  · rw [this] at e; cases e
  · rw [this] at hc; cases hc
/-- an exception of a callee goes on -/
theorem passE : Passes (CXE P w) (cxOf (CXE P w) P w K mg base N qual scope f cd A outer s₀ H₀ E) E := by
  intro pins σ H s e s' I h
  obtain ⟨x, cls, H', rfl, F, hE⟩ := h
  obtain ⟨B, a0, fl, f1, f2, f3, f4⟩ := F.fly
  have J : Inv (cxOf (CXE P w) P w K mg base N qual scope f cd A outer s₀ H₀ E) pins σ H' s' := I.call' F.os F.un F.hok F.bare fun b hb => absurd (show b ∈ ([] : List Addr) from hb) (by simp)
  refine wpAny_leaves_onW (L := (cxOf (CXE P w) P w K mg base N qual scope f cd A outer s₀ H₀ E).env.locals) I.ok.frames rfl fl fun h2 fl2 up => ?_
  exact ⟨x, cls, H', rfl, fly_out I J f1 f2 f3 f4 fl2 up, hE⟩
end

/-! ### raise C(..) of an own class under ValueError -/
abbrev bmVal : List Value := [.type "ValueError", .type "Exception", .type "BaseException", .type "object"]
theorem own_in {K : PySem.W.Frag} {h₀ : Heap} {mg : Str → Option Value} {x : Str} {C : Addr} {bmB : List Value} {newId : String} (X : K.In h₀) (hm : mg x = some (.ref C)) (q : PySem.W.excIn K C bmB newId = true) : OwnCls x C bmB newId mg h₀ := by
  refine ⟨hm, ?_⟩
  unfold PySem.W.excIn at q
  split at q
  · rename_i dd cd sl ho
    split at q
    · rename_i C' bm k0 k1 k2 k3 n k5 hm hs
      simp only [Bool.and_eq_true, beq_iff_eq, Bool.not_eq_true'] at q
      obtain ⟨⟨⟨⟨⟨rfl, rfl⟩, hdel⟩, ht⟩, hok⟩, hni⟩ := q
      obtain ⟨nm, bs, mro, ns, qn, hd, sn, sub, ab, col, del⟩ := cd
      dsimp only at hm hdel hok hni
      subst hm hdel
      have hsl : sl = #[k0, k1, k2, k3, some (.builtin n), k5] := by
        obtain ⟨l⟩ := sl
        simp only at hs
        rw [hs]
      subst hsl
      exact ⟨bm, ns, nm, qn, bs, hd, sn, sub, ab, col, dd, k0, k1, k2, k3, k5, _, X _ _ ho, .of_isNs (PySem.W.isNs_of_in X hok), PySem.W.nsMap_none_of_in X hok hni, PySem.W.tail_of_in X ht⟩
    · cases q
  · cases q
def tRaise (C : Addr) (E : XK) (t : TA) : TS := fun _ σ H => t σ H fun vs H1 => vs.length ≤ sizeLine ∧ E (.ref C) none H1
section
variable {X : Cx} {E : XK} {C : Addr} {x : Str} {np cpos pos : Pos} {e₀ : Expr} {rest : List Expr} {t : TA}
theorem ps_raise (hT : Thr X E) (hc : X.calm = true) (hm : X.mg x = some (.ref C)) (q : PySem.W.excIn X.K C bmVal "ValueError.__new__" = true) (ha : PA X (e₀ :: rest) t) (hg : Gl X x := by rfl) (hd : (x == ("__debug__" : Str)) = false := by decide)
    (he : starEach (e₀ :: rest) X.env = (false, eval e₀ X.env) :: starEach rest X.env := by rfl) (hplain : (backTo cpos (starEach rest X.env)).any (·.1) = false := by rfl) :
    PS X (.Raise (some (.Call (.Name x np) (e₀ :: rest) [] cpos)) none pos) (tRaise C E t) := by
  intro pins s σ H D I h
  have O := own_in (mg := X.mg) (x := x) I.ok.mod.kin hm q
  obtain ⟨tl, N, nm, qn, bs, hdct, sn, sub, ab, col, dd, k0, k1, k2, k3, k5, mN, hC, hN, hni, T⟩ := O.obj
  refine wpAny_Raise_call_subT (C := C) (nm := nm) (q := qn) (N := N) (bs := bs) (bm := tl) (hdct := hdct) (sn := sn) (sub := sub) (ab := ab) (col := col) (dd := dd) (k0 := k0) (k1 := k1) (k2 := k2) (k3 := k3) (k5 := k5)
    PySem.F.excBase_ValueError (mN := mN) (T.hasType PySem.F.excBase_ValueError.hasBase) (I.ok.hd hc) (by rw [he]; show (false || (backTo cpos (starEach rest X.env)).any (·.1)) = false; rw [hplain]; rfl) hni (ld_glob I hg hm ⟨rfl, ?_⟩ hd)
  have h2 := ha cpos pins s σ H _ I h
  rw [he] at h2 ⊢
  refine Calls.evalArgs_plain (wpAny_mono h2 (fun us s2 hq => ?_) fun _ _ y => y)
  obtain ⟨vs, H1, I1, r, hl, hE⟩ := hq
  exact ⟨rfl, by rw [← r.length]; exact hl, I1.bk _ _ hC, hN.keeps I1.bk, T.keeps I1.bk, fun h' e hm' => hT pins σ H1 s2 e (.ref C) us h' I1 hm' hE⟩
end

/-! ### try: one statement with a call; except G as n: a suite -/
/-- within the suite: the exception x is handled, its object oe stays -/
abbrev Cx.marked (X : Cx) (x : Addr) (oe : Obj) : Cx := { X with A := X.A.mark (some (.ref x)), calm := false, pn := (x, oe) :: X.pn, xe := fun _ _ => False }
section
variable {X : Cx} {pins : List (Addr × Obj)} {σ : St} {H H' : Hp} {s s1 : Shared} {x : Addr} {oe : Obj} {h' : Heap}
theorem Inv.mark (I : Inv X pins σ H s) (h1 : s.heap.get? x = some oe) (h2 : H x = none) (h3 : x ≠ X.env.locals) (h4 : x ∉ X.fs) (h5 : ∀ v, oe.data ≠ .cell v) : Inv (X.marked x oe) pins σ H s :=
  ⟨⟨I.ok.mod, I.ok.kind, I.ok.glob, I.ok.blt, I.ok.above, I.ok.inj, I.ok.has, I.ok.cab, (fun z => by cases z), I.ok.frames, I.ok.stk, I.ok.exf, I.ok.bs, I.ok.bsz, I.ok.noex, I.ok.exfs, I.ok.funs, I.ok.frf⟩, I.os, I.bare, I.base, I.loc, I.cell, I.free, I.freeC, fun p hp => by
    rcases List.mem_cons.mp (show p ∈ (x, oe) :: (X.pn ++ pins) from hp) with rfl | hp
    · exact ⟨h1, h2, h3, h4, h5⟩
    · exact I.pin p hp, I.hok, I.len⟩
theorem Inv.unmark (ok : X.Ok) (I : Inv (X.marked x oe) pins σ H s) : Inv X pins σ H s :=
  ⟨ok, I.os, I.bare, I.base, I.loc, I.cell, I.free, I.freeC, fun p hp => I.pin p (show p ∈ (x, oe) :: (X.pn ++ pins) from List.mem_cons_of_mem _ hp), I.hok, I.len⟩
/-- the name behind except is gone; of the locals nothing is kept -/
theorem Inv.goes {m' : Str → Option Value} {t' : Nat} (I : Inv X pins σ H s) (hn : h'.Ns X.env.locals m') (hs : Heap.SameBut X.env.locals s.heap h') : Inv X pins (List.replicate σ.length none) H { s with heap := h', toks := t' } := by
  have ne : ∀ b o, X.s₀.heap.get? b = some o → b ≠ X.env.locals := fun b o e => Nat.ne_of_lt (Nat.lt_of_lt_of_le (Heap.lt_size e) I.ok.above)
  refine ⟨I.ok, I.os, I.bare, ⟨fun b o e n hb hx => ?_, fun b o e n hb hx => ?_, I.base.free, fun b o e hx => ?_, I.base.tups, I.base.frzs, I.base.tbls⟩, ⟨m', hn, fun i y v e1 e2 e3 => ?_⟩, fun y c e => ?_, I.free, I.freeC, fun p hp => ?_, fun b u e => ?_, by simpa using I.len⟩
  · exact (hs.2 b (ne b o e)).trans (I.base.keep b o e n hb hx)
  · obtain ⟨sl, e1⟩ := I.base.slot b o e n hb hx
    exact ⟨sl, (hs.2 b (ne b o e)).trans e1⟩
  · obtain ⟨o', e1⟩ := I.base.there b o e hx
    exact ⟨o', (hs.2 b (ne b o e)).trans e1⟩
  · rw [List.getElem?_replicate] at e2
    split at e2 <;> cases e2
  · obtain ⟨v, z⟩ := I.cell y c e
    exact ⟨v, z.sameBut hs (I.cne y c e)⟩
  · obtain ⟨e, n, nl, nf, d⟩ := I.pin p hp
    exact ⟨(hs.2 p.1 nl).trans e, n, nl, nf, d⟩
  · refine (I.hok b u e).stay (fun c v hc q => (hs.2 c fun z => ?_).trans q) (fun _ q => q) fun _ _ q => q
    have fr := I.free
    rw [← z] at fr
    rcases hc with rfl | hc
    · rw [fr] at e; cases e
    · rw [fr] at hc; cases hc
/-- an exception has come into this frame -/
theorem fly_in {cls a0 : Value} {B : Heap} (I : Inv X pins σ H s) (J : Inv X pins σ H' s1) (b1 : ∀ b o, s.heap.get? b = some o → H b = none → b ∉ frs X.stack → B.get? b = some o) (b2 : HOk X.prog X.w H' B)
    (b3 : ∀ b o, s.heap.get? b = some o → b ∉ frs X.stack → ∃ o', B.get? b = some o') (fl : Heap.FlyingW B X.stack x cls a0 h') (up : s1.heap.UpToSlots h') : Inv X pins σ H' { s1 with heap := h' } := by
  have nostk : ∀ b o, X.s₀.heap.get? b = some o → b ∉ X.fs → b ∉ frs X.stack := fun b o q hb z => by
    rcases List.mem_cons.mp (I.stkSub b z) with e | z
    · have := Heap.lt_size q
      have a := I.ok.above
      rw [← e] at a
      exact absurd (Nat.lt_of_lt_of_le this a) (Nat.lt_irrefl _)
    · exact hb z
  have frame : ∀ b ∈ X.fs, ∃ o, s1.heap.get? b = some o ∧ ∀ vs, o.data ≠ .fields vs := fun b hb => (J.funs.mem hb).2
  have cellUp : ∀ c v, s1.heap.IsCell c v → h'.IsCell c v := fun c v ⟨o, ho, hd⟩ => by
    obtain ⟨sl, e⟩ := up c o ho fun vs z => by rw [hd] at z; cases z
    exact ⟨_, e, hd⟩
  refine ⟨I.ok, J.os, J.bare, ⟨fun b o q n hb hx => ?_, fun b o q n hb hx => ?_, fun b o q n hx => J.base.free b o q n hx, fun b o q hx => ?_, J.base.tups, J.base.frzs, J.base.tbls⟩, ?_, fun y c e => ?_, J.free, J.freeC, fun p hp => ?_, b2.kept fl.1, J.len⟩
  · exact fl.1 b o (b1 b o (I.base.keep b o q n hb hx) (I.base.free b o q n hx) (nostk b o q hb))
  · obtain ⟨sl, e1⟩ := J.base.slot b o q n hb hx
    obtain ⟨o1, e2, d⟩ := frame b hb
    rw [e1] at e2
    obtain ⟨sl', e3⟩ := up b _ e1 (by cases e2; exact d)
    exact ⟨sl', e3⟩
  · by_cases hb : b ∈ X.fs
    · obtain ⟨o1, e2, d⟩ := frame b hb
      obtain ⟨sl', e3⟩ := up b _ e2 d
      exact ⟨_, e3⟩
    · obtain ⟨o', e⟩ := I.base.there b o q hx
      obtain ⟨o2, e2⟩ := b3 b o' e (nostk b o q hb)
      exact ⟨o2, fl.1 b o2 e2⟩
  · obtain ⟨m, hn, hl⟩ := J.loc
    refine ⟨m, up.ns hn, fun i y v e1 e2 e3 => ?_⟩
    obtain ⟨u, r, l⟩ := hl i y v e1 e2 e3
    refine ⟨u, r, ?_⟩
    rcases l with l | ⟨k, c, e, z⟩
    · exact .inl l
    · exact .inr ⟨k, c, e, cellUp _ _ z⟩
  · obtain ⟨v, z⟩ := J.cell y c e
    exact ⟨v, cellUp _ _ z⟩
  · obtain ⟨e, n, nl, nf, d⟩ := I.pin p hp
    obtain ⟨_, n', _⟩ := J.pin p hp
    refine ⟨fl.1 _ _ (b1 _ _ e n fun z => ?_), n', nl, nf, d⟩
    rcases List.mem_cons.mp (I.stkSub _ z) with z | z
    · exact nl z
    · exact nf z
end

/-- isinstance(e, c) of the exception that is handled -/
theorem call_isinstE {X : Cx} {K : PySem.W.Frag} {x C : Addr} {oe : Obj} {vs : Array Value} (hp : (x, oe) ∈ X.pn) (hc : oe.cls = .ref C) (hd : oe.data = .fields vs) (F : PySem.W.ExcLook K C) (hK : X.K = K := by rfl) :
    CallR X (.builtin "isinstance") (fun xs H Q => ∃ c cv b, xs = [.ref x, c] ∧ RelV c cv ∧ PySem.W.kitOne K (.ref C) cv = some b ∧ Q (.bl b) H) := by
  subst hK
  intro pins s σ H xs us Q I r h
  obtain ⟨c, cv, b, rfl, rc, e, q⟩ := h
  cases r with
  | cons r1 rr =>
    cases rr with
    | cons r2 r3 =>
      cases r3
      cases (show _ = Value.ref x from r1)
      have hcv : ∀ u, RelV c u → PySem.W.kitOne X.K (.ref C) u = some b := fun u ru => by
        cases c with
        | ref a => cases (show u = _ from ru); cases (show cv = _ from rc); exact e
        | ty n => cases (show u = _ from ru); cases (show cv = _ from rc); exact e
        | non => cases (show u = _ from ru); cases (show cv = _ from rc); exact e
        | bl z => cases (show u = _ from ru); cases (show cv = _ from rc); exact e
        | int z => obtain ⟨t, rfl⟩ := (show ∃ t, cv = _ from rc); exact absurd e (by unfold PySem.W.kitOne PySem.W.kitCls; intro z; split at z <;> first | (rename_i q; cases (beq_iff_eq.mp q); done) | (cases z; done))
        | str z => obtain ⟨t, rfl⟩ := (show ∃ t, cv = _ from rc); exact absurd e (by unfold PySem.W.kitOne PySem.W.kitCls; intro z; split at z <;> first | (rename_i q; cases (beq_iff_eq.mp q); done) | (cases z; done))
        | byt z => obtain ⟨t, rfl⟩ := (show ∃ t, cv = _ from rc); exact absurd e (by unfold PySem.W.kitOne PySem.W.kitCls; intro z; split at z <;> first | (rename_i q; cases (beq_iff_eq.mp q); done) | (cases z; done))
        | flt z => obtain ⟨t, rfl⟩ := (show ∃ t, cv = _ from rc); exact absurd e (by unfold PySem.W.kitOne PySem.W.kitCls; intro z; split at z <;> first | (rename_i q; cases (beq_iff_eq.mp q); done) | (cases z; done))
      have hx := (I.pin (x, oe) (List.mem_append_left _ hp)).1
      exact PySem.W.kia_one (PySem.W.kitx_exc F) I.kIn ⟨oe, vs, hx, hc, hd⟩ (hcv _ r2) (fun z => nomatch z) fun tk => ⟨.bl b, H, I.tok _, rfl, q⟩

/-- a call whose exception is met by Eb -/
theorem call_exc {X : Cx} {k : Nat} {f : Addr} {fd : FuncData} {ps : List Str} {sp : Sp} {x : Str} {p pos : Pos} {e : Expr} {es : List Expr} {t : TA} {pins : List (Addr × Obj)} {σ : St} {H : Hp} {s : Shared} {Q : VK} {E1 : XK} {Eb : Value → Shared → Prop}
    (hxe : X.xe = fun _ _ => False) (F : FnOk X.prog X.w X.K X.mg X.base (CXE X.prog X.w) k f fd ps sp) (hr : Room k X.A) (hg : Gl X x) (hm : X.mg x = some (.ref f)) (hk : PySem.W.keepIn X.K (.ref f) = true) (hb : Binds X.K fd ps []) (ha : PA X (e :: es) t)
    (I : Inv X pins σ H s) (h : t σ H fun vs H1 => sp (vs ++ []) H1 Q E1) (hE : ∀ H1 s1 e' s', Inv X pins σ H1 s1 → CXE X.prog X.w X.stack H1 s1 E1 e' s' → Eb e' s')
    (hdb : (x == ("__debug__" : Str)) = false) (he : starEach (e :: es) X.env = (false, eval e X.env) :: starEach es X.env) (hpl : (backTo pos (starEach es X.env)).any (·.1) = false) :
    wpAny (model X.prog X.w) X.A (eval (.Call (.Name x p) (e :: es) [] pos) X.env) (EP X pins σ Q) Eb s := by
  refine wpAny_Call_Name_kw (ld_glob I hg hm ?_ hdb)
  refine PySem.W.callWith_K (h₀ := X.base) I.ok.mod.kin hk (wpAny_mono (ha pos pins s σ H _ I h) (fun us s1 z => ?_) (fun _ _ z => by rw [hxe] at z; exact z.elim)) he hpl
  obtain ⟨vs, H1, I1, r, q⟩ := z
  refine ⟨I1.kIn, ?_⟩
  have r2 : Vals (vs ++ []) (us ++ []) := r.append .nil
  have hl : (us ++ []).length = ps.length := by rw [← r2.length]; exact F.len _ _ _ _ q
  refine wpAny_call (codeAny_mono (F.run X.A X.stack s1 H1 ⟨us, []⟩ (us ++ []) (vs ++ []) Q E1 hr I1.env0 (hb s1 us I1.kIn hl) r2 q) fun r s' hq => ?_)
  cases r with
  | error e => exact hE H1 s1 e s' I1 hq
  | ok fl =>
    cases fl with
    | ret u => exact I1.after hq
    | next => exact False.elim hq
    | brk => exact False.elim hq
    | cont => exact False.elim hq

/-- the ends of a suite behind except: of the locals nothing is kept -/
def Ends.gone (D : Ends) : Ends := { nx := fun σ H => D.nx (List.replicate σ.length none) H, rt := D.rt, bk := fun σ H => D.bk (List.replicate σ.length none) H, ct := fun σ H => D.ct (List.replicate σ.length none) H }
/-- what is wanted of an exception at a try: the clause takes it, and the suite goes on -/
def xTry (C : Addr) (i : Nat) (ts : Addr → TS) (D : Ends) (σ : St) : XK := fun cls _ H' => cls = .ref C ∧ ∀ x, ts x D.gone (σ.set i (some (.ref x))) H'
section
variable {X : Cx} {pins : List (Addr × Obj)} {σ : St} {i : Nat} {n g : Str} {G C : Addr} {np hpos : Pos} {b₀ : Stmt} {suite : List Stmt} {ts : Addr → TS}
theorem caught (hxe : X.xe = fun _ _ => False) (hst : X.stack = X.env :: X.outer) (hfm : X.env.frame = some X.env.locals) (hN : X.N.Nodup) (hi : X.N[i]? = some n) (hlo : X.env.scope.names.lookup n = some .local) (hgg : Gl X g) (hgm : X.mg g = some (.ref G))
    (hgd : (g == ("__debug__" : Str)) = false) (hexm : PySem.W.exmOne X.K (.ref C) (.ref G) = some true) (hs : ∀ x oe vs, oe.cls = .ref C → oe.data = .fields vs → PSs (X.marked x oe) (b₀ :: suite) (ts x)) {D : Ends} {H1 : Hp} {s1 : Shared} {e' : Value} {s' : Shared}
    (I1 : Inv X pins σ H1 s1) (hc : CXE X.prog X.w X.stack H1 s1 (xTry C i ts D σ) e' s') :
    wpAny (model X.prog X.w) X.A (noteFrame e' X.env) (fun _ s₂ => wpAny (model X.prog X.w) X.A (setFlight e' none) (fun _ s₃ => wpAny (model X.prog X.w) X.A (handleBy e' X.env [.ExceptHandler (some (.Name g np)) (some n) (b₀ :: suite) hpos]) (SP X pins D) X.xe s₃) X.xe s₂) X.xe s' := by
  obtain ⟨x, cls, H', rfl, F, rfl, hts⟩ := hc
  obtain ⟨B, a0, fl, f1, f2, f3, f4⟩ := F.fly
  have J : Inv X pins σ H' s' := I1.call' F.os F.un F.hok F.bare fun b hb => absurd (show b ∈ ([] : List Addr) from hb) (by simp)
  have fl' := fl
  rw [hst] at fl'
  refine wpAny_looks_onW (by rw [← hst]; exact I1.ok.frames) hfm fl' fun h4 held up4 => ?_
  refine wpAny_landsW held fun h5 fl5 up5 => ?_
  rw [← hst] at fl5
  have J5 : Inv X pins σ H' { s' with heap := h5 } := fly_in I1 J f1 f2 f3 fl5 (up4.trans up5)
  have ty5 : ∀ {M : Model} {h : Heap}, (∃ oe, h.get? x = some oe ∧ oe.cls = .ref C) → PySem.W.Looks M h (typeOf (.ref x)) (.ref C) := fun {M h} ⟨oe, h1, h2⟩ => h2 ▸ (PySem.W.Looks.ld h1).andThen .now
  have away : ∀ {h : Heap} {oe : Obj} {vs : Array Value}, Inv X pins σ H' { s' with heap := h } → h.get? x = some oe → oe.data = .fields vs → x ≠ X.env.locals ∧ x ∉ X.fs ∧ ∀ v, oe.data ≠ .cell v := fun {h oe vs} K6 h1 h2 => by
    refine ⟨fun z => ?_, fun z => ?_, fun v z => ?_⟩
    · obtain ⟨m, ⟨o, es, ep, ho, hd, _⟩, _⟩ := K6.loc
      rw [← z] at ho
      have ho' : h.get? x = some o := ho
      rw [h1] at ho'; cases ho'
      rw [h2] at hd; cases hd
    · obtain ⟨_, o, ho, hd⟩ := K6.funs.mem z
      have ho' : h.get? x = some o := ho
      rw [h1] at ho'; cases ho'
      exact hd vs h2
    · rw [h2] at z; cases z
  obtain ⟨oe5, vs5, hoe5, hcl5, hd5, _⟩ := fl5.first
  have w5 := away J5 hoe5 hd5
  have M5 := J5.mark (x := x) (oe := oe5) hoe5 f4 w5.1 w5.2.1 w5.2.2
  refine wpAny_handleBy_cons (codeAny_handlers_test (ld_glob M5 hgg hgm ?_ hgd)) (by intro q; cases q)
  refine (PySem.W.exm_one J5.kIn (ty5 fl5.there) hexm).here ?_
  refine codeAny_handlers_suite_as ?_
  refine lands_againW fl5 fun h6 fl6 up6 => ?_
  have J6 : Inv X pins σ H' { s' with heap := h6 } := fly_in I1 J f1 f2 f3 fl6 ((up4.trans up5).trans up6)
  obtain ⟨oe, vs, hoe, hcl, hd, _⟩ := fl6.first
  have w6 := away J6 hoe hd
  have M6 := J6.mark (x := x) (oe := oe) hoe f4 w6.1 w6.2.1 w6.2.2
  have hloc : Loc X.env.scope n := .inl hlo
  refine store_ok (X := X.marked x oe) (i := i) (v := .ref x) M6 hN hi hloc rfl (fun s7 M7 => ?_) (.inr hlo)
  refine wpAny_mono (hs x oe vs hcl hd pins s7 (σ.set i (some (.ref x))) H' D.gone M7 (hts x)) (fun fl s8 h8 => ?_) (fun _ _ z => z.elim)
  have fin : ∀ {σ' : St} {H2 : Hp}, Inv (X.marked x oe) pins σ' H2 s8 → (∀ s9, Inv X pins (List.replicate σ'.length none) H2 s9 → SP X pins D fl s9) →
      wpAny (model X.prog X.w) X.A (do bindName X.env n .none; unbindBehindTheSuite X.env n hpos) (fun _ s9 => SP X pins D fl s9) X.xe s8 := fun {σ' H2} M8 k => by
    have I8 : Inv X pins σ' H2 s8 := M8.unmark I1.ok
    obtain ⟨m, hn, _⟩ := I8.loc
    exact wpAny_nameGoes hlo hn (by rw [I8.ok.kind]; rfl) fun h' m' hn' hs' => k _ (I8.goes hn' hs')
  cases fl with
  | next => obtain ⟨σ', H2, M8, q⟩ := h8; exact fin M8 fun s9 I9 => ⟨_, _, I9, q⟩
  | brk => obtain ⟨σ', H2, M8, q⟩ := h8; exact fin M8 fun s9 I9 => ⟨_, _, I9, q⟩
  | cont => obtain ⟨σ', H2, M8, q⟩ := h8; exact fin M8 fun s9 I9 => ⟨_, _, I9, q⟩
  | ret u => obtain ⟨v, σ', H2, M8, r, q⟩ := h8; exact fin M8 fun s9 I9 => ⟨v, _, _, I9, r, q⟩
variable {k : Nat} {f : Addr} {fd : FuncData} {ps : List Str} {sp : Sp} {fn : Str} {p cpos rpos pos : Pos} {e : Expr} {es : List Expr} {ta : TA}
def tTryR (C : Addr) (i : Nat) (sp : Sp) (ta : TA) (ts : Addr → TS) : TS := fun D σ H => ta σ H fun vs H1 => sp (vs ++ []) H1 D.rt (xTry C i ts D σ)
def tTryE (C : Addr) (i : Nat) (sp : Sp) (ta : TA) (ts : Addr → TS) : TS := fun D σ H => ta σ H fun vs H1 => sp (vs ++ []) H1 (fun _ H2 => D.nx σ H2) (xTry C i ts D σ)
/-- try: return f(..) -/
theorem ps_tryR (F : FnOk X.prog X.w X.K X.mg X.base (CXE X.prog X.w) k f fd ps sp) (hr : Room k X.A) (hm : X.mg fn = some (.ref f)) (hk : PySem.W.keepIn X.K (.ref f) = true) (hb : Binds X.K fd ps []) (ha : PA X (e :: es) ta) (hgm : X.mg g = some (.ref G))
    (hN : X.N.Nodup) (hi : X.N[i]? = some n) (hlo : X.env.scope.names.lookup n = some .local) (hexm : PySem.W.exmOne X.K (.ref C) (.ref G) = some true) (hs : ∀ x oe vs, oe.cls = .ref C → oe.data = .fields vs → PSs (X.marked x oe) (b₀ :: suite) (ts x))
    (hxe : X.xe = fun _ _ => False := by rfl) (hst : X.stack = X.env :: X.outer := by rfl) (hfm : X.env.frame = some X.env.locals := by rfl) (hg : Gl X fn := by rfl) (hgg : Gl X g := by rfl) (hgd : (g == ("__debug__" : Str)) = false := by decide)
    (hdb : (fn == ("__debug__" : Str)) = false := by decide) (he : starEach (e :: es) X.env = (false, eval e X.env) :: starEach es X.env := by rfl) (hpl : (backTo cpos (starEach es X.env)).any (·.1) = false := by rfl) :
    PS X (.Try [.Return (some (.Call (.Name fn p) (e :: es) [] cpos)) rpos] [.ExceptHandler (some (.Name g np)) (some n) (b₀ :: suite) hpos] [] [] pos) (tTryR C i sp ta ts) := by
  intro pins s σ H D I h
  refine wpAny_Try_except (wpAny_execs_cons (wpAny_Return_some (wpAny_mono (call_exc hxe F hr hg hm hk hb ha I h (fun H1 s1 e' s' I1 hc => caught (np := np) (hpos := hpos) hxe hst hfm hN hi hlo hgg hgm hgd hexm hs I1 hc) hdb he hpl) (fun u s1 h1 => ?_) (fun _ _ z => z))))
  obtain ⟨v, H1, I1, r, q⟩ := h1
  exact ⟨v, σ, H1, I1, r, q⟩
/-- try: f(..) -/
theorem ps_tryE (F : FnOk X.prog X.w X.K X.mg X.base (CXE X.prog X.w) k f fd ps sp) (hr : Room k X.A) (hm : X.mg fn = some (.ref f)) (hk : PySem.W.keepIn X.K (.ref f) = true) (hb : Binds X.K fd ps []) (ha : PA X (e :: es) ta) (hgm : X.mg g = some (.ref G))
    (hN : X.N.Nodup) (hi : X.N[i]? = some n) (hlo : X.env.scope.names.lookup n = some .local) (hexm : PySem.W.exmOne X.K (.ref C) (.ref G) = some true) (hs : ∀ x oe vs, oe.cls = .ref C → oe.data = .fields vs → PSs (X.marked x oe) (b₀ :: suite) (ts x))
    (hxe : X.xe = fun _ _ => False := by rfl) (hst : X.stack = X.env :: X.outer := by rfl) (hfm : X.env.frame = some X.env.locals := by rfl) (hg : Gl X fn := by rfl) (hgg : Gl X g := by rfl) (hgd : (g == ("__debug__" : Str)) = false := by decide)
    (hdb : (fn == ("__debug__" : Str)) = false := by decide) (he : starEach (e :: es) X.env = (false, eval e X.env) :: starEach es X.env := by rfl) (hpl : (backTo cpos (starEach es X.env)).any (·.1) = false := by rfl)
    (hsw : swapsWith (.Call (.Name fn p) (e :: es) [] cpos) none rpos.line X.env = pure false := by rfl) :
    PS X (.Try [.Expr (.Call (.Name fn p) (e :: es) [] cpos) rpos] [.ExceptHandler (some (.Name g np)) (some n) (b₀ :: suite) hpos] [] [] pos) (tTryE C i sp ta ts) := by
  intro pins s σ H D I h
  refine wpAny_Try_except (wpAny_execs_cons (wpAny_Expr_any (wpAny_mono (call_exc hxe F hr hg hm hk hb ha I h (fun H1 s1 e' s' I1 hc => caught (np := np) (hpos := hpos) hxe hst hfm hN hi hlo hgg hgm hgd hexm hs I1 hc) hdb he hpl) (fun u s1 h1 => ?_) (fun _ _ z => z)) I.quiet hsw))
  obtain ⟨v, H1, I1, r, q⟩ := h1
  exact wpAny_execs_nil (wpAny_execs_nil ⟨σ, H1, I1, q⟩)
end

/-! ### a def that may raise, by its name -/
section
variable {P : Program} {w : World} {K : PySem.W.Frag} {mg : Str → Option Value} {base : Heap}
structure OkE (P : Program) (w : World) (K : PySem.W.Frag) (mg : Str → Option Value) (base : Heap) (k : Nat) (x : Str) (ps : List Str) (sp : Sp) : Prop where
  ex : ∃ f fd, FnOk P w K mg base (CXE P w) k f fd ps sp ∧ mg x = some (.ref f) ∧ PySem.W.keepIn K (.ref f) = true ∧ Binds K fd ps []
theorem Has.okE {x : Str} {st : Stmt} {N ps : List Str} {k : Nat} {sp : Sp} (F : Has K mg x st ps) (S : FnScope N ps (defScope st)) (len : ∀ vs H Q E, sp vs H Q E → vs.length = ps.length)
    (hbody : ∀ (f : Addr) (cdv : Value) (A : Around) (outer : List Env) (s : Shared) (H : Hp) (vs : List V) (Q : VK) (E : XK), Room k (A.deeper (envOfC x (defScope st) s.heap.objs.size f cdv)) → sp vs H Q E →
      ∃ t, PSs (cxOf (CXE P w) P w K mg base N x (defScope st) f cdv A outer s H E) (defBody st) t ∧ t { nx := fun _ H' => Q .non H', rt := Q } (start N vs) H) : OkE P w K mg base (k + 1) x ps sp := by
  obtain ⟨f, fd, hF, hm, hb⟩ := F.ex
  obtain ⟨oc, od, kV, doc, pm, an, cdv, ct, osl, rfl, lk, hcd⟩ := hF.ex
  exact ⟨f, _, fn_of lk hcd S len fun A outer s H vs Q E hr hsp => hbody f cdv A outer s H vs Q E hr hsp, hm, hF.kp, hb⟩
theorem pe_callE {X : Cx} {E : XK} {j k : Nat} {x : Str} {ps : List Str} {sp : Sp} {p pos : Pos} {e : Expr} {es : List Expr} {t : TA} (F : OkE X.prog X.w X.K X.mg X.base j x ps sp) (hp : Passes (CXE X.prog X.w) X E) (hr : Room k X.A) (ha : PA X (e :: es) t) (hj : j ≤ k := by decide) (hg : Gl X x := by rfl)
    (hdb : (x == ("__debug__" : Str)) = false := by decide) (he : starEach (e :: es) X.env = (false, eval e X.env) :: starEach es X.env := by rfl) (hpl : (backTo pos (starEach es X.env)).any (·.1) = false := by rfl) :
    PE X (.Call (.Name x p) (e :: es) [] pos) (tCall sp [] E t) := by
  obtain ⟨f, fd, hF, hm, hk, hb⟩ := F.ex
  exact pe_call hF (hr.mono hj) hg hm hk hb .nil hp ha hdb he hpl
end

/-! ### the program's own error classes -/
structure ErrCls (K : PySem.W.Frag) (mg : Str → Option Value) (x : Str) (C : Addr) : Prop where
  bound : mg x = some (.ref C)
  cls : (PySem.W.clsIn K C).isSome = true
  ty : PySem.W.typeIn K (.ref C) = some (.type "type")
  base : PySem.W.subIn K (.ref C) (.type "BaseException") = some true
  val : PySem.W.subIn K (.ref C) (.type "ValueError") = some true
  self : PySem.W.subIn K (.ref C) (.ref C) = some true
  exc : PySem.W.excIn K C bmVal "ValueError.__new__" = true
  look : PySem.W.ExcLook K C
section
variable {K : PySem.W.Frag} {mg : Str → Option Value} {x y : Str} {C D : Addr} {b : Bool}
theorem ErrCls.kitCls (E : ErrCls K mg y D) (h : PySem.W.subIn K (.ref C) (.ref D) = some b) : PySem.W.kitCls K (.ref C) (.ref D) = some b := by
  unfold PySem.W.kitCls
  simp only [E.cls, E.ty, beq_self_eq_true, Bool.and_self, if_true]
  exact h
theorem ErrCls.kit (E : ErrCls K mg x C) (E' : ErrCls K mg y D) (h : PySem.W.subIn K (.ref C) (.ref D) = some b) : PySem.W.kitOne K (.ref C) (.ref D) = some b := by
  unfold PySem.W.kitOne
  split
  · rename_i q
    have e : C = D := Value.ref.inj (beq_iff_eq.mp q)
    subst e
    rw [← h, E.self]
  · exact E'.kitCls h
theorem ErrCls.kitV (E : ErrCls K mg x C) : PySem.W.kitOne K (.ref C) (.type "ValueError") = some true := by
  unfold PySem.W.kitOne
  rw [if_neg (by intro q; cases (beq_iff_eq.mp q))]
  unfold PySem.W.kitCls
  dsimp only
  rw [if_pos (by decide +kernel)]
  exact E.val
theorem ErrCls.exm (E : ErrCls K mg x C) (E' : ErrCls K mg y D) (h : PySem.W.subIn K (.ref C) (.ref D) = some b) : PySem.W.exmOne K (.ref C) (.ref D) = some b := by
  unfold PySem.W.exmOne
  rw [E'.base, if_pos (by decide)]
  exact E'.kitCls h
theorem boot_ValueError : bootBuiltins "ValueError" = some (.type "ValueError") := by decide +kernel
end
end L2

set_option Elab.async false
set_option linter.all false
set_option maxRecDepth 100000
namespace L2
open PySem PySem.Spec PyProof.Rows Gold
/-- all but l is as it was -/
def But (l : Addr) (H H2 : Hp) : Prop := ∀ b, b ≠ l → H2 b = H b
theorem but_upd {l : Addr} {H : Hp} {o : HO} : But l H (upd H l o) := fun b h => upd_ne h
theorem same_but {H0 H H2 : Hp} {l : Addr} (s : Same H0 H) (n : H0 l = none) (b : But l H H2) : Same H0 H2 := fun c o q => by rw [b c (ne_of_none q n)]; exact s c o q
/-- a list of ints on the heap -/
abbrev li (xs : List Int) : HO := .lst (xs.map V.int)
section
variable {X : Cx}
def rAppendI : V → List V → Hp → VK → Prop := fun x vs H Q => ∃ (l : Addr) (xs : List Int) (y : Int), x = .ref l ∧ vs = [.int y] ∧ H l = some (li xs) ∧ xs.length < sizeLine ∧ ∀ H2, But l H H2 → H2 l = some (li (xs ++ [y])) → Q .non H2
theorem mt_appendI : MtM X "list.append" rAppendI := by
  intro pins s σ H x vs v us Q I rx rv h
  obtain ⟨l, xs, y, e1, e2, hH, hz, q⟩ := h
  exact mt_append pins s σ H x vs v us Q I rx rv ⟨l, _, _, e1, e2, hH, by rw [List.length_map]; exact hz, q _ but_upd (by rw [upd_same, li, List.map_append]; rfl)⟩
def rCatI : R2 := fun x y H Q => ∃ (l b : Addr) (xs ys : List Int), x = .ref l ∧ y = .ref b ∧ H l = some (li xs) ∧ H b = some (li ys) ∧ xs.length + ys.length ≤ sizeLine ∧ ∀ p H2, Same H H2 → H p = none → H2 p = some (li (xs ++ ys)) → Q (.ref p) H2
theorem op_catI : OpR X (binaryOp .Add) rCatI := by
  intro pins s σ H x y v u Q I rx ry h
  obtain ⟨l, b, xs, ys, e1, e2, h1, h2, hz, q⟩ := h
  exact op_cat pins s σ H x y v u Q I rx ry ⟨l, b, _, _, e1, e2, h1, h2, by rw [List.length_map, List.length_map]; exact hz, fun p hp => q p _ (same_new hp _) hp (by rw [upd_same, li, List.map_append])⟩
theorem call_listI : CallR X (.type "list") (fun vs H Q => ∃ (p : Addr) (xs : List Int), vs = [.ref p] ∧ SqL X.K H p (xs.map V.int) ∧ ∀ l H2, Same H H2 → H l = none → H2 l = some (li xs) → Q (.ref l) H2) := by
  intro pins s σ H vs us Q I r h
  obtain ⟨p, xs, e, hS, q⟩ := h
  exact call_list_of pins s σ H vs us Q I r ⟨p, _, e, .inl hS, fun l hl => q l _ (same_new hl _) hl upd_same⟩
def cutI (xs : List Int) (lo hi : Option Int) : List Int := (xs.drop (HT.sIx xs.length 0 lo)).take (HT.sIx xs.length xs.length hi - HT.sIx xs.length 0 lo)
theorem cutI_map (xs : List Int) (lo hi : Option Int) : cutV (xs.map V.int) lo hi = (cutI xs lo hi).map V.int := by
  unfold cutV cutI
  rw [List.length_map, List.map_take, List.map_drop]
def rSlI (K : PySem.W.Frag) : V → Option Int → Option Int → Hp → VK → Prop := fun x lo hi H Q => ∃ (a : Addr) (xs : List Int), x = .ref a ∧ SqL K H a (xs.map V.int) ∧ ∀ p H2, Same H H2 → H p = none → H2 p = some (li (cutI xs lo hi)) → Q (.ref p) H2
theorem sl_listI : SlR X (rSlI X.K) := by
  intro pins s σ H x v vl vu lo hi sl Q I rx hs pl pu h
  obtain ⟨a, xs, e, hS, q⟩ := h
  exact sl_list pins s σ H x v vl vu lo hi sl Q I rx hs pl pu ⟨a, _, e, hS, fun p hp => q p _ (same_new hp _) hp (by rw [upd_same, cutI_map])⟩
end
end L2
namespace Gold
/-- one step up, one down -/
theorem pw_up {a b k : Int} (h : pw k = (a, b)) : pw (k + 1) = (b, a + b) := by
  rw [pw_succ, h]; apply Prod.ext <;> simp only [mul] <;> omega
theorem pw_dn {a b k : Int} (h : pw k = (a, b)) : pw (k - 1) = (b - a, a) := by
  rw [pw_pred, h]; apply Prod.ext <;> simp only [mul] <;> omega
theorem powL_u {k : Int} {i : Nat} (hk : 0 < k) : pw (dir k * ((i + 1 : Nat) : Int)) = ((pw (dir k * (i : Int))).2, (pw (dir k * (i : Int))).1 + (pw (dir k * (i : Int))).2) := by
  rw [show dir k * ((i + 1 : Nat) : Int) = dir k * (i : Int) + 1 by unfold dir; rw [if_pos hk]; omega]
  exact pw_up rfl
theorem powL_d {k : Int} {i : Nat} (hk : ¬ 0 < k) : pw (dir k * ((i + 1 : Nat) : Int)) = ((pw (dir k * (i : Int))).2 - (pw (dir k * (i : Int))).1, (pw (dir k * (i : Int))).1) := by
  rw [show dir k * ((i + 1 : Nat) : Int) = dir k * (i : Int) - 1 by unfold dir; rw [if_neg hk]; omega]
  exact pw_dn rfl
theorem val_take {xs : List Int} {i : Nat} {x : Int} (h : xs[i]? = some x) : val (xs.take (i + 1)) = add (val (xs.take i)) (pw x) := by
  have hi : i < xs.length := (List.getElem?_eq_some_iff.mp h).1
  have e : xs.take (i + 1) = xs.take i ++ [x] := by
    rw [List.take_succ, h]; rfl
  rw [e, val_append]
  show add _ (add (pw x) (0, 0)) = _
  rw [add_zero]
theorem map_get {xs : List Int} {i : Nat} {v : L2.V} (h : (xs.map L2.V.int)[i]? = some v) : ∃ x, v = .int x ∧ xs[i]? = some x := by
  rw [List.getElem?_map] at h
  cases q : xs[i]? with
  | none => rw [q] at h; cases h
  | some x => rw [q] at h; cases h; exact ⟨x, rfl, rfl⟩
end Gold
namespace L2
open Gold
def spPowL : Sp := fun vs H Q _ => ∃ k, vs = [.int k] ∧ (-1000000 ≤ k ∧ k ≤ 1000000) ∧ ∀ r H', Same H H' → H' r = some (tw (pw k)) → Q (.ref r) H'
def spTotal (K : PySem.W.Frag) : Sp := fun vs H Q _ => ∃ (p : PySem.Addr) (xs : List Int), vs = [.ref p] ∧ SqL K H p (xs.map V.int) ∧ (∀ x ∈ xs, -1000000 ≤ x ∧ x ≤ 1000000) ∧ ∀ r H', Same H H' → H' r = some (tw (val xs)) → Q (.ref r) H'
end L2

set_option Elab.async false
set_option linter.all false
set_option maxRecDepth 100000
namespace Gold
def IsRow (xs : List Int) : Prop := Gap xs ∧ ∀ x ∈ xs, -80 ≤ x ∧ x ≤ 80
/-- .. as a bool -/
noncomputable def isRowB (xs : List Int) : Bool := @decide (IsRow xs) (Classical.propDecidable _)
theorem isRow_T {xs : List Int} (h : IsRow xs) : isRowB xs = true := @decide_eq_true _ (Classical.propDecidable _) h
theorem isRow_F {xs : List Int} (h : ¬ IsRow xs) : isRowB xs = false := @decide_eq_false _ (Classical.propDecidable _) h
theorem isRow_of {xs : List Int} (h : isRowB xs = true) : IsRow xs := @of_decide_eq_true _ (Classical.propDecidable _) h
theorem isRow_not {xs : List Int} (h : ¬ isRowB xs = true) : ¬ IsRow xs := fun z => h (isRow_T z)
theorem gap_snoc : ∀ (xs : List Int) (y : Int), Gap xs → (∀ x ∈ xs, y + 2 ≤ x) → Gap (xs ++ [y])
  | [], _, _, _ => trivial
  | [a], y, _, h => ⟨h a (List.mem_cons_self ..), trivial⟩
  | a :: b :: r, y, hg, h => ⟨hg.1, gap_snoc (b :: r) y hg.2 fun x hx => h x (List.mem_cons_of_mem _ hx)⟩
/-- the last one tells of all -/
theorem gap_last : ∀ (xs : List Int) (y z : Int), Gap xs → xs.getLast? = some z → y + 2 ≤ z → Gap (xs ++ [y])
  | [], _, _, _, h, _ => by simp at h
  | [a], y, z, _, h, h2 => by
    have e : a = z := by simpa using h
    exact ⟨by omega, trivial⟩
  | a :: b :: r, y, z, hg, h, h2 => ⟨hg.1, gap_last (b :: r) y z hg.2 (by rw [List.getLast?_cons_cons] at h; exact h) h2⟩
theorem gap_init : ∀ (xs : List Int) (y : Int), Gap (xs ++ [y]) → Gap xs ∧ ∀ z, xs.getLast? = some z → y + 2 ≤ z
  | [], _, _ => ⟨trivial, fun z h => by simp at h⟩
  | [a], y, h => ⟨trivial, fun z hz => by
    have e : a = z := by simpa using hz
    have := h.1
    omega⟩
  | a :: b :: r, y, h => by
    have := gap_init (b :: r) y h.2
    exact ⟨⟨h.1, this.1⟩, fun z hz => this.2 z (by rw [List.getLast?_cons_cons] at hz; exact hz)⟩
theorem take_snoc {xs : List Int} {i : Nat} {y : Int} (h : xs[i]? = some y) : xs.take (i + 1) = xs.take i ++ [y] := by
  rw [List.take_succ, h]; rfl
theorem take_last {xs : List Int} {i : Nat} {y : Int} (h : xs[i]? = some y) : (xs.take (i + 1)).getLast? = some y := by
  rw [take_snoc h, List.getLast?_append]; rfl
theorem gap_cut : ∀ (n : Nat) (xs : List Int), Gap xs → Gap (xs.take n)
  | 0, _, _ => by simp [Gap]
  | n + 1, [], _ => by simp [Gap]
  | 1, a :: r, _ => by simp [Gap]
  | n + 2, [a], _ => by simp [Gap]
  | n + 2, a :: b :: r, h => ⟨h.1, gap_cut (n + 1) (b :: r) h.2⟩
/-- one turn of the look through a list -/
theorem isRow_start {xs : List Int} : IsRow (xs.take 0) := ⟨trivial, fun _ h => by simp at h⟩
theorem isRow_next0 {xs : List Int} {y : Int} (hy : xs[0]? = some y) (h1 : -80 ≤ y) (h2 : y ≤ 80) : IsRow (xs.take (0 + 1)) := by
  rw [take_snoc hy]
  exact ⟨trivial, fun x hx => by have e : x = y := by simpa using hx
                                 omega⟩
theorem isRow_next {xs : List Int} {i : Nat} {y z : Int} (h : IsRow (xs.take (i + 1))) (hz : xs[i]? = some z) (hy : xs[i + 1]? = some y) (h1 : -80 ≤ y) (h2 : y ≤ 80) (h3 : y + 2 ≤ z) : IsRow (xs.take (i + 1 + 1)) := by
  rw [take_snoc hy]
  refine ⟨gap_last _ y z h.1 (take_last hz) h3, fun x hx => ?_⟩
  rcases List.mem_append.mp hx with hx | hx
  · exact h.2 x hx
  · have e : x = y := by simpa using hx
    omega
theorem isRow_ends {xs : List Int} {i : Nat} {y : Int} (hy : xs[i]? = some y) (h : ¬ (-80 ≤ y ∧ y ≤ 80)) : ¬ IsRow xs := fun z => h (z.2 y (List.mem_of_getElem? hy))
theorem gap_at : ∀ (i : Nat) (xs : List Int) (z y : Int), Gap xs → xs[i]? = some z → xs[i + 1]? = some y → y + 2 ≤ z
  | 0, a :: b :: r, z, y, h, h1, h2 => by
    have e1 : a = z := by simpa using h1
    have e2 : b = y := by simpa using h2
    have := h.1
    omega
  | i + 1, a :: b :: r, z, y, h, h1, h2 => gap_at i (b :: r) z y h.2 (by simpa using h1) (by simpa using h2)
  | 0, [], _, _, _, h1, _ => by simp at h1
  | 0, [a], _, _, _, _, h2 => by simp at h2
  | i + 1, [], _, _, _, h1, _ => by simp at h1
  | i + 1, [a], _, _, _, h1, _ => by simp at h1
theorem isRow_gapF {xs : List Int} {i : Nat} {z y : Int} (hz : xs[i]? = some z) (hy : xs[i + 1]? = some y) (h : ¬ y + 2 ≤ z) : ¬ IsRow xs := fun r => h (gap_at i xs z y r.1 hz hy)

/-! a row that the script draws -/
structure RowInv (least top : Int) (i : Nat) (pl : Int) (xs : List Int) : Prop where
  gap : Gap xs
  inr : ∀ x ∈ xs, least ≤ x ∧ x ≤ top
  above : ∀ x ∈ xs, pl + 2 ≤ x
  len : xs.length ≤ i
  le : pl ≤ top
theorem RowInv.start {least top pl : Int} (h : pl ≤ top) : RowInv least top 0 pl [] := ⟨trivial, (fun _ h => nomatch h), (fun _ h => nomatch h), Nat.le_refl _, h⟩
theorem RowInv.down {least top pl pl' : Int} {i : Nat} {xs : List Int} (h : RowInv least top i pl xs) (hp : pl' ≤ pl) : RowInv least top i pl' xs := ⟨h.gap, h.inr, fun x hx => by have := h.above x hx; omega, h.len, by have := h.le; omega⟩
theorem RowInv.next {least top pl : Int} {i : Nat} {xs : List Int} (h : RowInv least top i pl xs) : RowInv least top (i + 1) (pl - 2) xs := ⟨h.gap, h.inr, fun x hx => by have := h.above x hx; omega, Nat.le_succ_of_le h.len, by have := h.le; omega⟩
theorem RowInv.put {least top pl : Int} {i : Nat} {xs : List Int} (h : RowInv least top i pl xs) (hl : least ≤ pl) : RowInv least top (i + 1) (pl - 2) (xs ++ [pl]) := by
  refine ⟨gap_snoc xs pl h.gap h.above, fun x hx => ?_, fun x hx => ?_, ?_, by have := h.le; omega⟩
  · rcases List.mem_append.mp hx with hx | hx
    · exact h.inr x hx
    · have e : x = pl := by simpa using hx
      have := h.le
      omega
  · rcases List.mem_append.mp hx with hx | hx
    · have := h.above x hx; omega
    · have e : x = pl := by simpa using hx
      omega
  · rw [List.length_append, List.length_singleton]
    have := h.len
    omega
theorem cut_le (xs : List Int) (lo hi : Option Int) : (L2.cutI xs lo hi).length ≤ xs.length := by
  unfold L2.cutI
  rw [List.length_take, List.length_drop]
  omega
end Gold

namespace L2
open PySem PySem.Spec PyProof.Rows Gold
theorem get_at {xs : List Int} {k : Int} (h0 : 0 ≤ k) (h : k < ((xs.length : Nat) : Int)) : atI (xs.map V.int) k = some (.int (cell xs k)) := cell_at h0 (by rw [List.length_map]; exact h)
theorem cell_get {xs : List Int} {i : Nat} (h : i < xs.length) : xs[i]? = some (cell xs (i : Int)) := by
  unfold cell
  rw [Int.toNat_natCast, List.getD_eq_getElem?_getD, List.getElem?_eq_getElem h]; rfl
/-- a list of ints in, a bool out -/
def spLB (K : PySem.W.Frag) (g : List Int → Bool) : Sp := fun vs H Q _ => ∃ (p : Addr) (xs : List Int), vs = [.ref p] ∧ SqL K H p (xs.map V.int) ∧ xs.length ≤ 1000 ∧ Q (.bl (g xs)) H
def spValue (K : PySem.W.Frag) (c : Addr) : Sp := fun vs H Q E => ∃ (p : Addr) (xs : List Int), vs = [.ref p] ∧ SqL K H p (xs.map V.int) ∧ xs.length ≤ 1000 ∧ (IsRow xs → ∀ r H', Same H H' → H' r = some (tw (val xs)) → Q (.ref r) H') ∧ (¬ IsRow xs → ∀ H', Same H H' → E (.ref c) none H')
def spRow (K : PySem.W.Frag) : Sp := fun vs H Q _ => ∃ (a : Addr) (ns : List Int) (f top least : Int), vs = [.ref a, .int f, .int top, .int least] ∧ SqL K H a (ns.map V.int) ∧ (0 ≤ f ∧ least ≤ top) ∧
  ∀ r H', Same H H' → H r = none → ∀ xs, H' r = some (li xs) → (Gap xs ∧ (∀ x ∈ xs, least ≤ x ∧ x ≤ top) ∧ xs.length ≤ 82) → Q (.ref r) H'
theorem small5 : 5 ≤ sizeLine := by decide
theorem small6 : 6 ≤ sizeLine := by decide
theorem small7 : 7 ≤ sizeLine := by decide
theorem small8 : 8 ≤ sizeLine := by decide
theorem passF {P : Program} {w : World} {X : Cx} : Passes (CXE P w) X E0 := fun _ _ _ _ _ _ _ h => by
  obtain ⟨_, _, _, _, _, z⟩ := h
  exact z.elim
def spSpoilt (K : PySem.W.Frag) : Sp := fun vs H Q _ => ∃ (p : Addr) (xs : List Int) (way at_ far : Int), vs = [.ref p, .int way, .int at_, .int far] ∧ H p = some (li xs) ∧ (0 ≤ at_ ∧ at_ < ((xs.length : Nat) : Int) ∧ xs.length ≤ 82) ∧
  ∀ r H', Same H H' → ∀ ys, H' r = some (li ys) → ys.length ≤ 400 → Q (.ref r) H'
def spTold5 (K : PySem.W.Frag) : Sp := fun vs H Q _ => ∃ (p : Addr) (xs : List Int), vs = [.ref p] ∧ SqL K H p (xs.map V.int) ∧ xs.length ≤ 1000 ∧ (IsRow xs → ∀ r H', Same H H' → H' r = some (tw (val xs)) → Q (.ref r) H') ∧ (¬ IsRow xs → ∀ H', Same H H' → Q (.int 0) H')
theorem kit_bb {K : PySem.W.Frag} : PySem.W.kitOne K (.type "bool") (.type "bool") = some true := rfl
theorem neB {b : Bool} : (!decide (V.bl b = V.bl b)) = false := by rw [decide_eq_true rfl]; rfl
theorem mod_len {x : Int} {xs : List Int} {n : Nat} (h : (0 : Int) < (((xs.map V.int).length : Nat) : Int)) (hl : xs.length ≤ n) : 0 ≤ x % (((xs.map V.int).length : Nat) : Int) ∧ x % (((xs.map V.int).length : Nat) : Int) < ((xs.length : Nat) : Int) ∧ xs.length ≤ n := by
  rw [List.length_map] at *
  exact ⟨Int.emod_nonneg _ (by omega), Int.emod_lt_of_pos _ h, hl⟩
theorem bl_eq {c d : Bool} {Q : VK} {H : Hp} (h : c = d) (q : Q (.bl d) H) : Q (.bl c) H := by rw [h]; exact q
theorem toT {c : Bool} {Q : VK} {H : Hp} (h : c = true) (q : Q (.bl c) H) : Q (.bl true) H := by rw [← h]; exact q
theorem toF {c : Bool} {Q : VK} {H : Hp} (h : c = false) (q : Q (.bl c) H) : Q (.bl false) H := by rw [← h]; exact q
theorem dT {p : Prop} [Decidable p] (h : decide p = true) : p := of_decide_eq_true h
theorem dF {p : Prop} [Decidable p] (h : ¬ decide p = true) : ¬ p := fun z => h (decide_eq_true z)
theorem dneT {i j : Int} (h : (!decide (V.int i = V.int j)) = true) : i ≠ j := fun e => by rw [decide_eq_true (by rw [e])] at h; cases h
theorem dneF {i j : Int} (h : ¬ (!decide (V.int i = V.int j)) = true) : i = j := by
  rcases Classical.em (i = j) with e | e
  · exact e
  · exact absurd (by rw [decide_eq_false (fun z => e (by injection z))]; rfl) h
section
variable {xs : List Int} {i : Nat}
theorem cell0 (i : Nat) : cell xs (0 + (i : Int)) = cell xs (i : Int) := by rw [Int.zero_add]
theorem good_T0 (hi : i < xs.length) (h : IsRow (xs.take i)) (h1 : ¬ 80 < cell xs (0 + (i : Int))) (h2 : ¬ cell xs (0 + (i : Int)) < -80) (h3 : ¬ 0 < 0 + (i : Int)) : IsRow (xs.take (i + 1)) := by
  have e : i = 0 := by omega
  subst e
  exact isRow_next0 (cell_get hi) (by rw [cell0] at h2; omega) (by rw [cell0] at h1; omega)
theorem good_T1 (hi : i < xs.length) (h : IsRow (xs.take i)) (h1 : ¬ 80 < cell xs (0 + (i : Int))) (h2 : ¬ cell xs (0 + (i : Int)) < -80) (h3 : 0 < 0 + (i : Int)) (h4 : ¬ cell xs (0 + (i : Int) - 1) - cell xs (0 + (i : Int)) < 2) : IsRow (xs.take (i + 1)) := by
  obtain ⟨j, rfl⟩ : ∃ j, i = j + 1 := ⟨i - 1, by omega⟩
  rw [cell0] at h1 h2 h4
  rw [show (0 : Int) + ((j + 1 : Nat) : Int) - 1 = (j : Int) by omega] at h4
  exact isRow_next h (cell_get (by omega)) (cell_get hi) (by omega) (by omega) (by omega)
theorem good_F1 (hi : i < xs.length) (h : 80 < cell xs (0 + (i : Int))) : ¬ IsRow xs := isRow_ends (cell_get hi) (by rw [cell0] at h; omega)
theorem good_F2 (hi : i < xs.length) (h : cell xs (0 + (i : Int)) < -80) : ¬ IsRow xs := isRow_ends (cell_get hi) (by rw [cell0] at h; omega)
theorem good_F3 (hi : i < xs.length) (h3 : 0 < 0 + (i : Int)) (h4 : cell xs (0 + (i : Int) - 1) - cell xs (0 + (i : Int)) < 2) : ¬ IsRow xs := by
  obtain ⟨j, rfl⟩ : ∃ j, i = j + 1 := ⟨i - 1, by omega⟩
  rw [cell0] at h4
  rw [show (0 : Int) + ((j + 1 : Nat) : Int) - 1 = (j : Int) by omega] at h4
  exact isRow_gapF (cell_get (show j < xs.length by omega)) (cell_get hi) (by omega)
end
/-! numbers that a row is asked for -/
/-- both parts from -10 ** 15 to 10 ** 15 -/
def Mid (x : Nm) : Prop := (-1000000000000000 ≤ x.1 ∧ x.1 ≤ 1000000000000000) ∧ (-1000000000000000 ≤ x.2 ∧ x.2 ≤ 1000000000000000)
/-- .. to 10 ** 12 -/
def Mid12 (x : Nm) : Prop := (-1000000000000 ≤ x.1 ∧ x.1 ≤ 1000000000000) ∧ (-1000000000000 ≤ x.2 ∧ x.2 ≤ 1000000000000)
def spRowOf (c : Addr) : Sp := fun vs H Q E => ∃ (p : Addr) (x : Nm), vs = [.ref p] ∧ H p = some (tw x) ∧ Mid12 x ∧
  (¬ sgnN x < 0 → ∀ r H', Same H H' → H r = none → ∀ xs, H' r = some (li xs) → (IsRow xs ∧ val xs = x) → Q (.ref r) H') ∧ (sgnN x < 0 → ∀ H', Same H H' → E (.ref c) none H')
def spTold6 : Sp := fun vs H Q _ => ∃ (p : Addr) (x : Nm), vs = [.ref p] ∧ H p = some (tw x) ∧ Mid12 x ∧
  (¬ sgnN x < 0 → ∀ r H', Same H H' → H r = none → ∀ xs, H' r = some (li xs) → (IsRow xs ∧ val xs = x) → Q (.ref r) H') ∧ (sgnN x < 0 → ∀ H', Same H H' → Q (.int 0) H')
/-- a number in, a bool out -/
def spNB (pre : Nm → Prop) (g : Nm → Bool) : Sp := fun vs H Q _ => ∃ p x, vs = [.ref p] ∧ H p = some (tw x) ∧ pre x ∧ Q (.bl (g x)) H
/-- an int in, a new number out of which something is known -/
def spIN (pre : Int → Prop) (g : Int → Nm) : Sp := fun vs H Q _ => ∃ k, vs = [.int k] ∧ pre k ∧ ∀ r H', Same H H' → H' r = some (tw (g k)) → Q (.ref r) H'
/-- a list of ints with P in, True out -/
def spLT (P : List Int → Prop) : Sp := fun vs H Q _ => ∃ (p : Addr) (xs : List Int), vs = [.ref p] ∧ H p = some (li xs) ∧ (xs.length ≤ 1000 ∧ P xs) ∧ Q (.bl true) H
theorem sgn_below (x : Nm) : decide ((2 * x.1 + x.2) * absI (2 * x.1 + x.2) + 5 * x.2 * absI x.2 < 0) = decide (sgnN x < 0) := by
  unfold sgnN
  rw [sgn_due]
  unfold due
  congr 1
  generalize (2 * x.1 + x.2) * absI (2 * x.1 + x.2) + 5 * x.2 * absI x.2 = n
  rw [eq_iff_iff]
  split <;> split <;> omega
theorem cut_last {xs : List Int} {y : Int} : cutI (xs ++ [y]) none (some (-1)) = xs := by
  unfold cutI HT.sIx
  simp
  rw [show ((-1 : Int) + ((xs.length : Int) + 1)).toNat = xs.length by omega]
  simp
theorem isRow_few {xs : List Int} (h : IsRow xs) : xs.length ≤ 1000 := by
  have aux : ∀ (n : Nat) (xs : List Int) (t : Int), xs.length = n → Gap (t :: xs) → (∀ x ∈ xs, -80 ≤ x) → -80 ≤ t → (2 * xs.length : Int) ≤ t + 80 := by
    intro n
    induction n with
    | zero => intro xs t e _ _ ht; rw [e]; omega
    | succ n ih =>
      intro xs t e hg hb ht
      cases xs with
      | nil => simp; omega
      | cons a r =>
        have h1 := ih r a (by simpa using e) hg.2 (fun x hx => hb x (List.mem_cons_of_mem _ hx)) (hb a (List.mem_cons_self ..))
        have h2 := hg.1
        rw [List.length_cons]
        omega
  cases xs with
  | nil => simp
  | cons a r =>
    have := aux r.length r a rfl h.1 (fun x hx => (h.2 x (List.mem_cons_of_mem _ hx)).1) (h.2 a (List.mem_cons_self ..)).1
    have h2 := (h.2 a (List.mem_cons_self ..)).2
    rw [List.length_cons]
    omega
theorem one_row {x : Nm} {xs ys : List Int} (h : IsRow xs ∧ val xs = x) (h' : IsRow ys ∧ val ys = x) : xs = ys := val_inj h.1.1 h'.1.1 (h.2.trans h'.2.symm)
/-- two Fibonacci numbers side by side -/
def fs : Nat → Int × Int
  | 0 => (0, 1)
  | n + 1 => ((fs n).2, (fs n).1 + (fs n).2)
theorem fs_le : ∀ n, n < 60 → (0 ≤ (fs n).1 ∧ (fs n).1 ≤ 1000000000000 ∧ 0 ≤ (fs n).2) := by decide +kernel
theorem fs_le2 : ∀ n, n < 59 → (fs n).2 ≤ 1000000000000 := fun n h => (fs_le (n + 1) (by omega)).2.1
theorem absI_eq (i : Int) : (if i < 0 then -i else i) = absI i := rfl
theorem sgn_nn {x : Nm} (h : Le (0, 0) x) : ¬ sgnN x < 0 := by
  rcases h with h | h
  · have := sgn_of_lt h
    rw [show x.1 - ((0 : Int), (0 : Int)).1 = x.1 by simp, show x.2 - ((0 : Int), (0 : Int)).2 = x.2 by simp] at this
    unfold sgnN
    rw [this]; decide
  · rw [← h]; unfold sgnN; rw [sgn_zero]; decide
theorem val_sgn (xs : List Int) : ¬ sgnN (val xs) < 0 := sgn_nn (val_nn xs)
theorem isRow_pr {least top : Int} {xs : List Int} {n : Nat} (h : Gap xs ∧ (∀ x ∈ xs, least ≤ x ∧ x ≤ top) ∧ xs.length ≤ n) (h1 : -80 ≤ least) (h2 : top ≤ 80) : IsRow xs := ⟨h.1, fun x hx => by have := h.2.1 x hx; omega⟩
end L2

set_option Elab.async false
set_option linter.all false
set_option maxRecDepth 100000
/-! for a, b in zip(x, y); while; int.bit_length(); a module's own int -/
namespace L2
open PySem PySem.Spec PyProof.Rows Gold
section
variable {X : Cx} {pins : List (Addr × Obj)} {σ : St} {H : Hp} {s : Shared} {h' : Heap} {t' : Nat} {fp : List Addr}
/-- several records of ours have turned -/
theorem Inv.turnedL (I : Inv X pins σ H s) (k : ∀ b o, b ∉ fp → s.heap.get? b = some o → h'.get? b = some o) (hf : ∀ b ∈ fp, FpOk X pins H b) : Inv X pins σ H { s with heap := h', toks := t' } := by
  have nit : ∀ b u, H b = some u → b ∉ fp := fun b u e z => by rw [(hf b z).1] at e; cases e
  refine I.step (g' := s.gens) (d' := s.drawn) (ch := fp) (fun b hb => ?_) (fun b o _ _ hc e _ => k b o hc e) (fun b o _ _ hc e _ => ⟨o.slots, k b o hc e⟩) (fun _ _ _ _ n => n)
    (fun b o hc e => ⟨o, k b o hc e⟩) (fun _ _ e => e) (fun _ _ _ e => e) (fun b ps e => ⟨#[], by rw [e]; simp⟩) (fun m hm => ?_) (fun b u e => ?_) I.bare
  · obtain ⟨f0, f1, f2, f3, f4, f5⟩ := hf b hb
    exact ⟨f3, f1, f4, f5⟩
  · obtain ⟨o, es, ep, ho, r⟩ := hm
    exact ⟨o, es, ep, k _ o (fun z => (hf _ z).2.1 rfl) ho, r⟩
  · refine (I.hok b u e).stay (fun c v hc q => k c v ?_ q) (fun _ q => q) fun _ _ q => q
    rcases hc with z | z
    · rw [z]; exact nit b u e
    · exact nit c _ z
/-- .. and something new was laid beside them -/
theorem Inv.turnedN {a : Addr} {o : HO} (I : Inv X pins σ H s) (k : ∀ b u, b ∉ fp → s.heap.get? b = some u → h'.get? b = some u) (hf : ∀ b ∈ fp, FpOk X pins H b) (hp : s.heap.objs.size ≤ a) (new : ObjOk X.prog X.w (upd H a o) h' a o) :
    Inv X pins σ (upd H a o) { s with heap := h', toks := t' } := by
  have hn : H a = none := I.hok.fresh hp
  have nit : ∀ b u, H b = some u → b ∉ fp := fun b u e z => by rw [(hf b z).1] at e; cases e
  have ne : ∀ b u, H b = some u → b ≠ a := fun b u e => ne_of_none e hn
  refine I.step (g' := s.gens) (d' := s.drawn) (ch := fp) (fun b hb => ?_) (fun b o _ _ hc e _ => k b o hc e) (fun b o _ _ hc e _ => ⟨o.slots, k b o hc e⟩) (fun b u _ e n => ?_)
    (fun b o hc e => ⟨o, k b o hc e⟩) (fun b xs e => by rw [upd_ne (ne b _ e)]; exact e) (fun b o u e => by rw [upd_ne (ne b _ e)]; exact e) (fun b ps e => ⟨#[], by rw [upd_ne (ne b _ e), e]; simp⟩) (fun m hm => ?_) (fun b u e => ?_) I.bare
  · obtain ⟨f0, f1, f2, f3, f4, f5⟩ := hf b hb
    exact ⟨f3, f1, f4, f5⟩
  · rw [upd_ne (fun z => by rw [z] at e; exact absurd (Nat.lt_of_lt_of_le (Heap.lt_size e) hp) (Nat.lt_irrefl _))]
    exact n
  · obtain ⟨o, es, ep, ho, r⟩ := hm
    exact ⟨o, es, ep, k _ o (fun z => (hf _ z).2.1 rfl) ho, r⟩
  · by_cases hb : b = a
    · subst hb; rw [upd_same] at e; cases e; exact new
    · rw [upd_ne hb] at e
      refine (I.hok b u e).stay (fun c v hc q => k c v ?_ q) (fun c q => by rw [upd_ne (ne c _ q)]; exact q) fun c xs q => by rw [upd_ne (ne c _ q)]; exact q
      rcases hc with z | z
      · rw [z]; exact nit b u e
      · exact nit c _ z
end
/-- two lists side by side, until one of them ends -/
def Itz (K : PySem.W.Frag) (l1 l2 : Addr) : It :=
  ⟨fun i H => ∃ xs ys x y, SqL K H l1 xs ∧ SqL K H l2 ys ∧ xs[i]? = some x ∧ ys[i]? = some y,
   fun i H v H' => ∃ T x y, v = .ref T ∧ Same H H' ∧ H' T = some (.tup [x, y]) ∧ ∀ xs ys, SqL K H l1 xs → SqL K H l2 ys → xs[i]? = some x ∧ ys[i]? = some y,
   fun i H => ∃ xs ys, SqL K H l1 xs ∧ SqL K H l2 ys ∧ (xs.length ≤ i ∨ ys.length ≤ i)⟩
abbrev ZSt (z TI TO i1 i2 l1 l2 : Addr) (i : Nat) (h : Heap) : Prop := IsZip h z TI TO .none ∧ IsPair h TI (.ref i1) (.ref i2) ∧ (∃ a b, IsPair h TO a b) ∧ h.IsListIter i1 l1 i ∧ h.IsListIter i2 l2 i
theorem turn_zip {P : Program} {w : World} {K : PySem.W.Frag} {es : List Expr} {x1 : Nat} {tpos : Pos} {z TI TO i1 i2 l1 l2 : Addr} (D : ZipApart z TI TO i1 i2 l1 l2) :
    Turn P w K (.Tuple es x1 tpos) (Itz K l1 l2) [z, TI, TO, i1, i2] z (ZSt z TI TO i1 i2 l1 l2) where
  mem := by simp
  obj := fun i h st b hb => by
    obtain ⟨hz, hTI, ⟨a, c, hTO⟩, h1, h2⟩ := st
    simp only [List.mem_cons, List.not_mem_nil, or_false] at hb
    rcases hb with rfl | rfl | rfl | rfl | rfl
    · exact ⟨_, hz, fun v q => by cases (show Data.fields _ = Data.cell v from q)⟩
    · exact ⟨_, hTI, fun v q => by cases (show Data.seq _ _ = Data.cell v from q)⟩
    · exact ⟨_, hTO, fun v q => by cases (show Data.seq _ _ = Data.cell v from q)⟩
    · obtain ⟨o, e, c, d⟩ := h1
      exact ⟨o, e, fun v q => by rw [d] at q; cases q⟩
    · obtain ⟨o, e, c, d⟩ := h2
      exact ⟨o, e, fun v q => by rw [d] at q; cases q⟩
  keep := fun i h h' st k => by
    obtain ⟨hz, hTI, ⟨a, c, hTO⟩, h1, h2⟩ := st
    exact ⟨k _ (by simp) _ hz, k _ (by simp) _ hTI, ⟨a, c, k _ (by simp) _ hTO⟩, h1.at fun o e => k _ (by simp) o e, h2.at fun o e => k _ (by simp) o e⟩
  item := by
    intro X hP hw hK hc i pins s σ H E I hf st hg
    subst hP hw hK
    obtain ⟨xs, ys, x, y, hx, hy, ex, ey⟩ := hg
    obtain ⟨its, rv, p, hz1⟩ := I.list hx
    obtain ⟨jts, rw', p2, hz2⟩ := I.list hy
    obtain ⟨u, hu, ru⟩ := rv.get ex
    obtain ⟨u2, hu2, ru2⟩ := rw'.get ey
    obtain ⟨hz, hTI, ⟨a, c, hTO⟩, h1, h2⟩ := st
    refine wpAny_pyNext_zip_item D hz hTI hTO h1 h2 p.isList p2.isList (x := u) (y := u2) (by simpa using hu) (by simpa using hu2) fun h' a1 a2 a3 a4 a5 a6 hk => ?_
    refine ⟨_, rfl, wpAny_letOwnedTupleGo_zip (s := { s with heap := h' }) a1 fun h'' hz' hs' => ?_⟩
    have zn : s.heap.objs.size ≠ z := Nat.ne_of_gt (Heap.lt_size hz)
    have k : ∀ b o, b ∉ [z, TI, TO, i1, i2] → s.heap.get? b = some o → h''.get? b = some o := fun b o hb e => by
      simp only [List.mem_cons, List.not_mem_nil, or_false, not_or] at hb
      exact hs'.extBut _ _ hb.1 (hk b o hb.1 hb.2.2.1 hb.2.2.2.1 hb.2.2.2.2 e)
    have new : ObjOk X.prog X.w (upd H s.heap.objs.size (.tup [x, y])) h'' s.heap.objs.size (.tup [x, y]) := ⟨small2, [u, u2], .cons ru (.cons ru2 .nil), ⟨_, hs'.extBut _ _ zn a5, rfl, _, rfl⟩⟩
    have lt : ∀ {b o}, s.heap.get? b = some o → b ≠ s.heap.objs.size := fun e => Nat.ne_of_lt (Heap.lt_size e)
    refine ⟨.ref s.heap.objs.size, upd H s.heap.objs.size (.tup [x, y]), I.turnedN k hf (Nat.le_refl _) new, rfl, ⟨_, x, y, rfl, same_new I.fresh _, upd_same, fun xs' ys' q q' => ?_⟩, ⟨hz', hs'.extBut _ _ D.TIz (hk _ _ D.TIz D.TITO D.TIi1 D.TIi2 hTI), ⟨_, _, hs'.extBut _ _ D.TOz a2⟩, a3.extBut hs'.extBut D.i1z, a4.extBut hs'.extBut D.i2z⟩, fun b hb => ?_⟩
    · rw [I.list_inj q hx, I.list_inj q' hy]; exact ⟨ex, ey⟩
    · have hb' := hb
      simp only [List.mem_cons, List.not_mem_nil, or_false] at hb'
      have ne : b ≠ s.heap.objs.size := by
        rcases hb' with rfl | rfl | rfl | rfl | rfl
        · exact lt hz
        · exact lt hTI
        · exact lt hTO
        · obtain ⟨_, e, _⟩ := h1; exact lt e
        · obtain ⟨_, e, _⟩ := h2; exact lt e
      rw [upd_ne ne]; exact (hf b hb).1
  done := by
    intro X hP hw hK hc i pins s σ H E I hf st hg
    subst hP hw hK
    obtain ⟨xs, ys, hx, hy, he⟩ := hg
    obtain ⟨its, rv, p, hz1⟩ := I.list hx
    obtain ⟨jts, rw', p2, hz2⟩ := I.list hy
    obtain ⟨hz, hTI, ⟨a, c, hTO⟩, h1, h2⟩ := st
    have l1' := rv.length
    have l2' := rw'.length
    refine wpAny_pyNext_zip_end (I.ok.hd hc) D hz hTI hTO h1 h2 p.isList p2.isList (he.elim (fun q => .inl (by simp; omega)) fun q => .inr (by simp; omega)) fun h' hk => ⟨rfl, I.turnedL (t' := s.toks) (fun b o hb e => ?_) hf⟩
    simp only [List.mem_cons, List.not_mem_nil, or_false, not_or] at hb
    exact hk b o hb.1 hb.2.2.1 hb.2.2.2.1 hb.2.2.2.2 e
  self := fun _ _ _ _ _ st h => wpAny_pyIter_zip st.1 h
theorem boot_zip' : bootBuiltins "zip" = some (.type "zip") := by decide +kernel
section
variable {X : Cx} {es : List Expr} {x1 : Nat} {tpos : Pos}
def iZip (K : PySem.W.Frag) (ta : TA) : TI := fun σ H R => ta σ H fun vs H1 => ∃ a b, vs = [.ref a, .ref b] ∧ (∃ xs, SqL K H1 a xs) ∧ (∃ ys, SqL K H1 b ys) ∧ R (Itz K a b) H1
theorem pi_zip {a b : Expr} {ta : TA} {p pos : Pos} (hg : Gl X "zip") (hm : X.mg "zip" = none) (ha : PA X [a, b] ta) (hs : starEach [a, b] X.env = [(false, eval a X.env), (false, eval b X.env)] := by rfl) (hs2 : starEach [b] X.env = [(false, eval b X.env)] := by rfl) :
    PI X (.Tuple es x1 tpos) (.Call (.Name "zip" p) [a, b] [] pos) (iZip X.K ta) := by
  intro pins s σ H R I h
  refine Call_ (ld_blt I hg hm boot_zip' (PyProof.Rows.callWith_type1 (thn (ha pos pins s σ H _ I h) fun us s1 ⟨vs, H1, I1, r1, q1⟩ => ?_) (by rw [hs, hs2]) (by rw [hs2]; rfl)))
  obtain ⟨l1, l2, e, ⟨xs, hx⟩, ⟨ys, hy⟩, q⟩ := q1
  subst e
  cases r1 with
  | cons r rr =>
    cases rr with
    | cons r' rr =>
      cases rr
      cases r
      cases r'
      obtain ⟨its, rv, p1, hz1⟩ := I1.list hx
      obtain ⟨jts, rw', p2, hz2⟩ := I1.list hy
      obtain ⟨o1, n1, e1, _⟩ := id p1
      obtain ⟨o2, n2, e2, _⟩ := id p2
      have lt1 : l1 < s1.heap.objs.size := Heap.lt_size e1
      have lt2 : l2 < s1.heap.objs.size := Heap.lt_size e2
      refine call_zip_2 p1.isList p2.isList fun h' hz hTI hTO hit1 hit2 hsz hk => ?_
      refine wpAny_pyIter_zip hz ⟨s1.heap.objs.size + 4, [s1.heap.objs.size + 4, s1.heap.objs.size + 2, s1.heap.objs.size + 3, s1.heap.objs.size, s1.heap.objs.size + 1], _, _, H1, rfl, I1.kept (t' := s1.toks) hk,
        turn_zip (l1 := l1) (l2 := l2) ?_, ⟨hz, hTI, ⟨_, _, hTO⟩, hit1, hit2⟩, fun b hb => ?_, q⟩
      · constructor <;> (intro z; simp only [Addr] at *; omega)
      · have le : s1.heap.objs.size ≤ b := by
          simp only [List.mem_cons, List.not_mem_nil, or_false] at hb
          rcases hb with rfl | rfl | rfl | rfl | rfl <;> (simp only [Addr] at *; omega)
        exact I1.fpOk le (I1.hok.fresh le)
end
theorem for_zip {K : PySem.W.Frag} {a b : Addr} {xs ys : List V} {g : TG} {tb : TS} {D : Ends} {σ : St} {H : Hp} (Pv : Nat → St → Hp → Prop) (h0 : Pv 0 σ H) (hl : ∀ i σ H, i ≤ ys.length → Pv i σ H → SqL K H a xs ∧ SqL K H b ys) (hle : ys.length ≤ xs.length)
    (hs : ∀ i x y σ H, xs[i]? = some x → ys[i]? = some y → Pv i σ H → ∀ T H', Same H H' → H' T = some (.tup [x, y]) → g (.ref T) σ H' fun σ2 H2 => tb { D with nx := Pv (i + 1), ct := Pv (i + 1), bk := D.nx } σ2 H2) (hd : ∀ σ H, Pv ys.length σ H → D.nx σ H) :
    ∃ W : Nat → Nat → St → Hp → Prop, (∃ m, W 0 m σ H) ∧ ∀ i m σ H, W i m σ H →
      ((Itz K a b).stop i H ∧ D.nx σ H) ∨ ((Itz K a b).go i H ∧ ∃ N : St → Hp → Prop, (∀ σ' H', N σ' H' → ∃ m', m' < m ∧ W (i + 1) m' σ' H') ∧ ∀ x H', (Itz K a b).yld i H x H' → g x σ H' fun σ2 H2 => tb { D with nx := N, ct := N, bk := D.nx } σ2 H2) := by
  refine ⟨fun i m σ H => m = ys.length - i ∧ i ≤ ys.length ∧ Pv i σ H, ⟨ys.length, by simp, Nat.zero_le _, h0⟩, ?_⟩
  rintro i m σ H ⟨rfl, hi, p⟩
  obtain ⟨q, q'⟩ := hl i σ H hi p
  by_cases hlt : i < ys.length
  · refine .inr ⟨⟨xs, ys, xs[i], ys[i], q, q', by simp, by simp⟩, Pv (i + 1), fun σ' H' p' => ⟨ys.length - (i + 1), by omega, rfl, hlt, p'⟩, fun v H' y => ?_⟩
    obtain ⟨T, x, y, rfl, sm, hT, hh⟩ := y
    obtain ⟨e1, e2⟩ := hh xs ys q q'
    exact hs i x y σ H e1 e2 p T H' sm hT
  · have e : i = ys.length := by omega
    subst e
    exact .inl ⟨⟨xs, ys, q, q', .inr (Nat.le_refl _)⟩, hd σ H p⟩
/-! ### while -/
theorem dTT {as bs : List Int} (h : (if false = true then !decide (as = bs) else decide (as = bs)) = true) : as = bs := by rw [if_neg Bool.false_ne_true] at h; exact of_decide_eq_true h
theorem dTF {as bs : List Int} (h : ¬ (if false = true then !decide (as = bs) else decide (as = bs)) = true) : as ≠ bs := fun e => h (eqT e)
theorem dNT {as bs : List Int} (h : (if true = true then !decide (as = bs) else decide (as = bs)) = true) : as ≠ bs := fun e => by rw [neT e] at h; cases h
theorem dNF {as bs : List Int} (h : ¬ (if true = true then !decide (as = bs) else decide (as = bs)) = true) : as = bs := by
  rcases Classical.em (as = bs) with e | e
  · exact e
  · exact absurd (by rw [if_pos rfl, decide_eq_false e]; rfl) h
theorem wh_N {W : Nat → St → Hp → Prop} {m : Nat} {A : (St → Hp → Prop) → Prop} (h : A (fun σ' H' => ∃ m', m' < m ∧ W m' σ' H')) : ∃ N : St → Hp → Prop, (∀ σ' H', N σ' H' → ∃ m', m' < m ∧ W m' σ' H') ∧ A N := ⟨_, fun _ _ z => z, h⟩
/-! ### int.bit_length() -/
theorem mt_bits {X : Cx} : MtR X "int.bit_length" (fun x xs H Q => ∃ i : Int, x = .int i ∧ xs = [] ∧ Q (.int ((Builtin.Int.intBits i : Nat) : Int)) H) := by
  intro pins s σ H x xs v us Q I r1 r2 h
  obtain ⟨i, rfl, rfl, q⟩ := h
  obtain ⟨t, rfl⟩ := r1
  cases r2
  exact call_gives F.slot_int_bit_length (typeIs_int s i t) F.entry_int_bit_length (F.args_int_bit_length_1 _) (AutoIntG2.int_bit_length_int_0 i t) ⟨.int _, H, I.tok _, ⟨_, rfl⟩, q⟩
theorem bits_lt (n : Nat) : n < 2 ^ Builtin.Int.intBits (n : Int) := by
  unfold Builtin.Int.intBits
  split
  · rename_i h
    have e : (n : Int) = 0 := by simpa using h
    have e2 : n = 0 := by omega
    rw [e2]; decide
  · rw [Int.natAbs_natCast]
    exact Nat.lt_log2_self
theorem bits_le {n m : Nat} (h : n < 2 ^ m) : Builtin.Int.intBits (n : Int) ≤ m := by
  unfold Builtin.Int.intBits
  split
  · exact Nat.zero_le _
  · rename_i hn
    rw [Int.natAbs_natCast]
    have h0 : n ≠ 0 := fun z => hn (by rw [z]; rfl)
    exact (Nat.log2_lt h0).mpr h
/-- a list of ints in, a bool out; the heap may grow -/
def spLBg (K : PySem.W.Frag) (g : List Int → Bool) : Sp := fun vs H Q _ => ∃ (p : Addr) (xs : List Int), vs = [.ref p] ∧ SqL K H p (xs.map V.int) ∧ xs.length ≤ 1000 ∧ ∀ H', Same H H' → Q (.bl (g xs)) H'
/-! is_row: two looks -/
theorem cut_one (xs : List Int) : cutI xs (some 1) none = xs.drop 1 := by
  unfold cutI HT.sIx
  simp
  cases xs <;> simp
theorem zip_row {xs : List Int} {i : Nat} (h : Gap (xs.take (i + 1))) {x y : Int} (hx : xs[i]? = some x) (hy : (xs.drop 1)[i]? = some y) (h2 : ¬ x - y < 2) : Gap (xs.take (i + 1 + 1)) := by
  have hy' : xs[i + 1]? = some y := by
    rw [List.getElem?_drop] at hy
    rw [Nat.add_comm]; exact hy
  rw [take_snoc hy']
  exact gap_last _ y x h (take_last hx) (by omega)
theorem zip_bad {xs : List Int} {i : Nat} {x y : Int} (hx : xs[i]? = some x) (hy : (xs.drop 1)[i]? = some y) (h2 : x - y < 2) : ¬ IsRow xs := by
  have hy' : xs[i + 1]? = some y := by
    rw [List.getElem?_drop] at hy
    rw [Nat.add_comm]; exact hy
  exact isRow_gapF hx hy' (by omega)
theorem gap_one (xs : List Int) : Gap (xs.take (0 + 1)) := by
  cases xs with
  | nil => trivial
  | cons a r => rw [List.take_succ_cons, List.take_zero]; trivial
theorem zip_all {xs : List Int} (h : Gap (xs.take ((xs.drop 1).length + 1))) : Gap xs := by
  rw [List.length_drop] at h
  rw [List.take_of_length_le (by omega)] at h
  exact h
/-! row_of -/
/-- numbers with few figures in, a list of places out -/
def spRowG (c : Addr) : Sp := fun vs H Q E => ∃ (p : Addr) (x : Nm), vs = [.ref p] ∧ H p = some (tw x) ∧ BdN 3000 x ∧
  (¬ sgnN x < 0 → ∀ r H', Same H H' → H r = none → ∀ xs, H' r = some (li xs) → (Gap xs ∧ val xs = x ∧ xs.length ≤ 13000) → Q (.ref r) H') ∧ (sgnN x < 0 → ∀ H', Same H H' → E (.ref c) none H')
theorem mid_bd {x : Nm} (h : Mid12 x) : BdN 3000 x := by
  have e : (2 : Nat) ^ 40 = 1099511627776 := by decide
  have b : BdN 40 x := by
    obtain ⟨⟨h1, h2⟩, h3, h4⟩ := h
    exact ⟨by unfold Bd; rw [e]; omega, by unfold Bd; rw [e]; omega⟩
  exact b.mono (by decide)
theorem rowOf_G {c : Addr} {vs : List V} {H : Hp} {Q : VK} {E : XK} (h : spRowOf c vs H Q E) : spRowG c vs H Q E := by
  obtain ⟨p, x, rfl, hp, hm, hQ, hE⟩ := h
  refine ⟨p, x, rfl, hp, mid_bd hm, fun hs r H' s n xs e pr => hQ hs r H' s n xs e ⟨⟨pr.1, fun y hy => ?_⟩, pr.2.1⟩, hE⟩
  have := places_of pr.1 (by rw [pr.2.1]; exact ⟨hm.1.1, hm.1.2⟩) (by rw [pr.2.1]; exact ⟨hm.2.1, hm.2.2⟩) y hy
  omega
theorem nn_of {x : Nm} (h : ¬ sgnN x < 0) : Le (0, 0) x := by
  rcases Pos.tri x.1 x.2 with p | ⟨e1, e2⟩ | p
  · left
    unfold Lt; rw [sub_zero]; exact p
  · right
    exact Prod.ext e1.symm e2.symm
  · exfalso
    apply h
    unfold sgnN
    rw [sgn_neg p]; decide
/-- what the way down keeps: ys is the number's row, row what is told so far, zs what is to come -/
structure Down (ys row zs : List Int) (place : Int) : Prop where
  all : ys = row ++ zs
  top : ∀ z ∈ zs, z ≤ place
theorem gap_right : ∀ (r zs : List Int), Gap (r ++ zs) → Gap zs
  | [], _, h => h
  | _ :: r, zs, h => gap_right r zs (Gap.tail h)
theorem Down.take {ys row zs : List Int} {z place : Int} (h : Down ys row (z :: zs) place) (hg : Gap ys) (e : z = place) : Down ys (row ++ [place]) zs (place - 1) := by
  subst e
  refine ⟨by rw [h.all]; simp, fun y hy => ?_⟩
  have g : Gap (z :: zs) := gap_right row _ (by rw [← h.all]; exact hg)
  have := gap_desc zs z g y hy
  omega
theorem Down.pass {ys row zs : List Int} {z place : Int} (h : Down ys row (z :: zs) place) (hg : Gap ys) (e : z < place) : Down ys row (z :: zs) (place - 1) := by
  refine ⟨h.all, fun y hy => ?_⟩
  have g : Gap (z :: zs) := gap_right row _ (by rw [← h.all]; exact hg)
  rcases List.mem_cons.mp hy with rfl | hy
  · omega
  · have := gap_desc zs z g y hy; omega
/-- the number's row, with all that is to be known of it -/
theorem row_ex {x : Nm} (hs : ¬ sgnN x < 0) (hb : BdN 3000 x) : ∃ ys, Gap ys ∧ val ys = x ∧ (∀ y ∈ ys, -6006 < y ∧ y < 6004) ∧ ys.length ≤ 13000 ∧ ∀ y ∈ ys, y ≤ 2 * ((Builtin.Int.intBits ((if x.1 < 0 then -x.1 else x.1) + 2 * (if x.2 < 0 then -x.2 else x.2)) : Nat) : Int) := by
  obtain ⟨ys, hg, hv⟩ := exists_row (nn_of hs)
  have pb := places_bits hg (n := 3000) (by rw [hv]; exact hb.1) (by rw [hv]; exact hb.2)
  have pb' : ∀ y ∈ ys, -6006 < y ∧ y < 6004 := fun y hy => by have := pb y hy; omega
  have hl := gap_len (lo := -6005) (hi := 6003) ys hg fun y hy => by have := pb' y hy; omega
  refine ⟨ys, hg, hv, pb', by omega, fun y hy => ?_⟩
  have e : ((if x.1 < 0 then -x.1 else x.1) + 2 * (if x.2 < 0 then -x.2 else x.2)) = ((x.1.natAbs + 2 * x.2.natAbs : Nat) : Int) := by split <;> split <;> omega
  rw [e]
  cases ys with
  | nil => cases hy
  | cons t r =>
    have ht := top_lt (t := t) (r := r) (by rw [hv]; exact lt_pw (bits_lt _))
    rcases List.mem_cons.mp hy with rfl | hy
    · omega
    · have := gap_desc r t hg y hy; omega
theorem rest_bd {ys row zs : List Int} {place : Int} (h : Down ys row zs place) (pb : ∀ y ∈ ys, -6006 < y ∧ y < 6004) (hl : ys.length ≤ 13000) : BdN 6030 (val zs) := by
  have hz : ∀ z ∈ zs, z.natAbs < 6006 := fun z hz => by
    have := pb z (by rw [h.all]; exact List.mem_append_right _ hz)
    omega
  have hl2 : zs.length ≤ 13000 := by rw [h.all, List.length_append] at hl; omega
  have := val_size zs hz
  have e : (2 : Nat) ^ 6030 = 2 ^ 24 * 2 ^ 6006 := by rw [← Nat.pow_add]
  have p : 0 < (2 : Nat) ^ 6006 := Nat.pow_pos (by decide)
  have le : zs.length * 2 ^ 6006 < 2 ^ 6030 := by
    rw [e]
    exact Nat.mul_lt_mul_of_pos_right (by have : (2 : Nat) ^ 24 = 16777216 := by decide
                                          omega) p
  exact ⟨Nat.lt_of_le_of_lt this.1 le, Nat.lt_of_le_of_lt this.2 le⟩
theorem pw_bd6 {k : Int} (h1 : -7000 < k) (h2 : k < 7000) : BdN 7001 (pw k) := by
  have b := pw_bound k (n := 7000) (by omega)
  have e : (2 : Nat) ^ 7000 < 2 ^ 7001 := Nat.pow_lt_pow_right (by decide) (by decide)
  exact ⟨Nat.lt_of_le_of_lt b.1 e, Nat.lt_of_le_of_lt b.2 e⟩
theorem in_next {xs : List Int} {i : Nat} {y lo hi : Int} (h : ∀ x ∈ xs.take i, lo ≤ x ∧ x ≤ hi) (hy : xs[i]? = some y) (h1 : lo ≤ y) (h2 : y ≤ hi) : ∀ x ∈ xs.take (i + 1), lo ≤ x ∧ x ≤ hi := fun x hx => by
  rw [take_snoc hy] at hx
  rcases List.mem_append.mp hx with hx | hx
  · exact h x hx
  · have e : x = y := by simpa using hx
    omega
def plN (x : Nm) : Int := 2 * ((Builtin.Int.intBits ((if x.1 < 0 then -x.1 else x.1) + 2 * (if x.2 < 0 then -x.2 else x.2)) : Nat) : Int)
theorem plN_bd {x : Nm} (hb : BdN 3000 x) : 0 ≤ plN x ∧ plN x ≤ 6004 := by
  have e : ((if x.1 < 0 then -x.1 else x.1) + 2 * (if x.2 < 0 then -x.2 else x.2)) = ((x.1.natAbs + 2 * x.2.natAbs : Nat) : Int) := by split <;> split <;> omega
  have h1 : x.1.natAbs < 2 ^ 3000 := hb.1
  have h2 : x.2.natAbs < 2 ^ 3000 := hb.2
  have p2 : (2 : Nat) ^ 3002 = 4 * 2 ^ 3000 := by rw [show (3002 : Nat) = 3000 + 2 from rfl, Nat.pow_add]; omega
  unfold plN
  rw [e]
  have := bits_le (n := x.1.natAbs + 2 * x.2.natAbs) (m := 3002) (by rw [p2]; generalize (2 : Nat) ^ 3000 = t at *; omega)
  omega
theorem left_bd {v : Nm} {k : Int} (h : BdN 6030 v) (h1 : -7000 < k) (h2 : k < 7000) : BdN 100000 (sub v (pw k)) := ((h.mono (by decide)).sub (pw_bd6 h1 h2)).mono (by decide)
theorem turn_T {z p : Int} {r : List Int} (hg : Gap (z :: r)) (hz : z ≤ p) (h : 0 ≤ sgnN (sub (val (z :: r)) (pw p))) : z = p := by
  have := turn_sgn hg hz
  unfold sgnN at h
  rcases (by omega : z < p ∨ z = p) with e | e
  · have := this.mpr e; omega
  · exact e
theorem turn_F {z p : Int} {r : List Int} (hg : Gap (z :: r)) (hz : z ≤ p) (h : ¬ 0 ≤ sgnN (sub (val (z :: r)) (pw p))) : z < p := by
  unfold sgnN at h
  exact (turn_sgn hg hz).mp (by omega)
theorem took_val {z p : Int} {r : List Int} (h : z = p) : sub (val (z :: r)) (pw p) = val r := by subst h; exact turn_take
theorem pw_gap1 (k : Int) : pw (k - 1) = sub (pw (k + 1)) (pw k) := by
  have := pw_gap (k + 1)
  rw [show k + 1 - 1 = k by omega, show k + 1 - 2 = k - 1 by omega] at this
  exact this.symm
theorem rest_T {zs : List Int} (h : [(val zs).1, (val zs).2] ≠ [0, 0]) : ∃ z r, zs = z :: r := by
  cases zs with
  | nil => exact absurd rfl h
  | cons z r => exact ⟨z, r, rfl⟩
theorem rest_F {zs : List Int} (h : [(val zs).1, (val zs).2] = [0, 0]) : zs = [] := by
  injection h with h1 h2
  injection h2 with h2 _
  exact (val_nil_iff zs).mp (Prod.ext h1 h2)
theorem Down.len {ys row zs : List Int} {place : Int} (h : Down ys row zs place) (hl : ys.length ≤ 13000) : row.length ≤ 13000 := by
  rw [h.all, List.length_append] at hl; omega
theorem row_done {ys row : List Int} {place : Int} {x : Nm} (h : Down ys row [] place) (hg : Gap ys) (hv : val ys = x) (hl : ys.length ≤ 13000) : Gap row ∧ val row = x ∧ row.length ≤ 13000 := by
  have e : ys = row := by rw [h.all, List.append_nil]
  rw [← e]
  exact ⟨hg, hv, hl⟩
theorem ne_tl {H : Hp} {a r : Addr} {xs ys : List V} (h : H a = some (.tup xs)) (h' : H r = some (.lst ys)) : a ≠ r := fun z => by
  subst z
  rw [h] at h'
  cases h'
theorem few_of {zs : List Int} {x : Nm} (hg : Gap zs) (hv : val zs = x) (hb : BdN 230 x) : zs.length ≤ 1000 ∧ ∀ y ∈ zs, -1000000 ≤ y ∧ y ≤ 1000000 := by
  have pb := places_bits hg (n := 230) (by rw [hv]; exact hb.1) (by rw [hv]; exact hb.2)
  have hl := gap_len (lo := -465) (hi := 463) zs hg fun y hy => by have := pb y hy; omega
  exact ⟨by omega, fun y hy => by have := pb y hy; omega⟩
theorem row_bd {xs : List Int} (h : ∀ x ∈ xs, -80 ≤ x ∧ x ≤ 80) (hl : xs.length ≤ 1000) : BdN 91 (val xs) := by
  have hz : ∀ z ∈ xs, z.natAbs < 81 := fun z hz => by have := h z hz; omega
  have := val_size xs hz
  have e : (2 : Nat) ^ 91 = 1024 * 2 ^ 81 := by rw [show (91 : Nat) = 10 + 81 from rfl, Nat.pow_add]
  have p : 0 < (2 : Nat) ^ 81 := Nat.pow_pos (by decide)
  have le : xs.length * 2 ^ 81 < 2 ^ 91 := by
    rw [e]
    exact Nat.mul_lt_mul_of_pos_right (by omega) p
  exact ⟨Nat.lt_of_le_of_lt this.1 le, Nat.lt_of_le_of_lt this.2 le⟩
theorem clean_out {zs : List Int} {x : Nm} (pr : Gap zs ∧ val zs = x ∧ zs.length ≤ 13000) (hb : BdN 230 x) : Gap zs ∧ val zs = x ∧ zs.length ≤ 1000 ∧ ∀ y ∈ zs, -1000000 ≤ y ∧ y ≤ 1000000 := ⟨pr.1, pr.2.1, (few_of pr.1 pr.2.1 hb).1, (few_of pr.1 pr.2.1 hb).2⟩
theorem row_mid {x : Nm} {xs : List Int} (hm : Mid12 x) (pr : Gap xs ∧ val xs = x ∧ xs.length ≤ 13000) : IsRow xs ∧ val xs = x := by
  refine ⟨⟨pr.1, fun y hy => ?_⟩, pr.2.1⟩
  have := places_of pr.1 (by rw [pr.2.1]; exact ⟨hm.1.1, hm.1.2⟩) (by rw [pr.2.1]; exact ⟨hm.2.1, hm.2.2⟩) y hy
  omega
theorem to_int {i j : Int} {Q : VK} {H : Hp} (h : i = j) (q : Q (.int j) H) : Q (.int i) H := by rw [h]; exact q
end L2

set_option Elab.async false
set_option linter.all false
set_option maxRecDepth 100000
namespace Gold
theorem nrm_zero_iff (x : Nm) : nrmN x = 0 ↔ x = (0, 0) := by
  constructor
  · intro h
    have := norm_zero (a := x.1) (b := x.2) h
    exact Prod.ext this.1 this.2
  · rintro rfl; rfl
theorem mul_zero (x : Nm) : mul x (0, 0) = (0, 0) := by apply Prod.ext <;> simp [mul]
theorem zero_mul (x : Nm) : mul (0, 0) x = (0, 0) := by apply Prod.ext <;> simp [mul]
theorem int_mul (n : Int) (x : Nm) : mul (n, 0) x = (n * x.1, n * x.2) := by apply Prod.ext <;> simp [mul]
theorem nrm_conj (x : Nm) : nrmN (conj x) = nrmN x := by simp only [conj, nrmN, nrm]; grind
theorem mul_sub (x y z : Nm) : mul x (sub y z) = sub (mul x y) (mul x z) := by apply Prod.ext <;> simp only [mul, sub] <;> grind
theorem sub_eq {x y : Nm} (h : sub x y = (0, 0)) : x = y := by
  have h1 := congrArg Prod.fst h
  have h2 := congrArg Prod.snd h
  simp only [sub] at h1 h2
  exact Prod.ext (by omega) (by omega)
theorem mul_eq_zero {c d : Nm} (hc : c ≠ (0, 0)) (h : mul c d = (0, 0)) : d = (0, 0) := by
  have hn : nrmN c ≠ 0 := fun z => hc ((nrm_zero_iff c).mp z)
  have e : mul (nrmN c, 0) d = (0, 0) := by
    rw [← mul_conj, mul_comm c, mul_assoc, h, mul_zero]
  rw [int_mul] at e
  have h1 := congrArg Prod.fst e
  have h2 := congrArg Prod.snd e
  simp only at h1 h2
  exact Prod.ext ((Int.mul_eq_zero.mp h1).resolve_left hn) ((Int.mul_eq_zero.mp h2).resolve_left hn)
theorem mul_cancel {c x y : Nm} (hc : c ≠ (0, 0)) (h : mul c x = mul c y) : x = y :=
  sub_eq (mul_eq_zero hc (by rw [mul_sub, h, sub_self]))
/-- the second one is a product of the first one -/
def Measures (x y : Nm) : Prop := ∃ z, mul x z = y
noncomputable def measB (x y : Nm) : Bool := @decide (Measures x y) (Classical.propDecidable _)
theorem meas_T {x y : Nm} (h : Measures x y) : measB x y = true := @decide_eq_true _ (Classical.propDecidable _) h
theorem meas_F {x y : Nm} (h : ¬ Measures x y) : measB x y = false := @decide_eq_false _ (Classical.propDecidable _) h
theorem meas_zero {y : Nm} : Measures (0, 0) y ↔ y = (0, 0) := by
  constructor
  · rintro ⟨z, rfl⟩; exact zero_mul z
  · rintro rfl; exact ⟨(0, 0), mul_zero _⟩
theorem conj_ne {x : Nm} (h : x ≠ (0, 0)) : conj x ≠ (0, 0) := fun e => h ((nrm_zero_iff x).mp (by rw [← nrm_conj, e]; rfl))
theorem meas_iff {x y : Nm} (h : x ≠ (0, 0)) : Measures x y ↔ nrmN x ∣ (mul y (conj x)).1 ∧ nrmN x ∣ (mul y (conj x)).2 := by
  constructor
  · rintro ⟨z, rfl⟩
    have e : mul (mul x z) (conj x) = mul (nrmN x, 0) z := by rw [mul_comm x z, mul_assoc, mul_conj, mul_comm]
    rw [e, int_mul]
    exact ⟨⟨_, rfl⟩, ⟨_, rfl⟩⟩
  · rintro ⟨⟨u, hu⟩, ⟨v, hv⟩⟩
    refine ⟨(u, v), ?_⟩
    refine mul_cancel (conj_ne h) ?_
    rw [← mul_assoc, mul_comm (conj x) x, mul_conj, int_mul, mul_comm (conj x) y]
    exact Prod.ext hu.symm hv.symm
theorem meas_self (x : Nm) : Measures x x := ⟨(1, 0), mul_one x⟩
theorem meas_turn (x y : Nm) : Measures x (mul y (mul x (conj x))) := ⟨mul y (conj x), by rw [← mul_assoc, mul_comm x y, mul_assoc]⟩
/-- a unit is told by its side and its power -/
theorem pw_inj {j k : Int} (h : pw j = pw k) : j = k := by
  rcases Int.lt_trichotomy j k with z | z | z
  · have := pw_lt z; rw [h] at this; exact absurd this fun w => w.irrefl
  · exact z
  · have := pw_lt z; rw [h] at this; exact absurd this fun w => w.irrefl
def side (s : Int) (x : Nm) : Nm := (s * x.1, s * x.2)
theorem side_one (x : Nm) : side 1 x = x := by apply Prod.ext <;> simp [side]
theorem side_neg (x : Nm) : side (-1) x = neg x := by apply Prod.ext <;> simp [side, neg]
theorem pos_not_neg {x : Nm} (h : PosN x) : ¬ PosN (neg x) := fun h2 => Pos.not_neg h h2
theorem unit_inj {s t j k : Int} (hs : s = 1 ∨ s = -1) (ht : t = 1 ∨ t = -1) (h : side s (pw j) = side t (pw k)) : s = t ∧ j = k := by
  rcases hs with rfl | rfl <;> rcases ht with rfl | rfl
  · rw [side_one, side_one] at h; exact ⟨rfl, pw_inj h⟩
  · rw [side_one, side_neg] at h
    have := pw_pos j
    rw [h] at this
    exact absurd this (pos_not_neg (pw_pos k))
  · rw [side_one, side_neg] at h
    have := pw_pos k
    rw [← h] at this
    exact absurd this (pos_not_neg (pw_pos j))
  · rw [side_neg, side_neg] at h
    have := congrArg neg h
    rw [neg_neg, neg_neg] at this
    exact ⟨rfl, pw_inj this⟩
theorem nrm_pw (k : Int) : nrmN (pw k) = 1 ∨ nrmN (pw k) = -1 := by
  have e : mul (pw k) (pw (-k)) = (1, 0) := by rw [← pw_add, Int.add_right_neg]; rfl
  have h := congrArg nrmN e
  rw [nrm_mul, show nrmN (1, 0) = 1 from rfl] at h
  have h2 := congrArg Int.natAbs h
  rw [Int.natAbs_mul] at h2
  have h3 := Nat.eq_one_of_mul_eq_one_right h2
  omega
theorem nrm_side {s : Int} (hs : s = 1 ∨ s = -1) (x : Nm) : nrmN (side s x) = nrmN x := by
  rcases hs with rfl | rfl
  · rw [side_one]
  · rw [side_neg]; simp only [neg, nrmN, nrm]; grind
end Gold
namespace L2
open PySem PySem.Spec PyProof.Rows Gold
section
variable {X : Cx}
theorem op_isB : OpR X (compareOp .Is) (fun x y H Q => ∃ a b, x = .bl a ∧ y = .bl b ∧ Q (.bl (decide (a = b))) H) := by
  intro pins s σ H x y v u Q I rx ry h
  obtain ⟨a, b, rfl, rfl, q⟩ := h
  cases rx
  cases ry
  refine PySem.wpAny_is_plain (by cases a <;> cases b <;> rfl) ⟨.bl _, H, I, ?_, q⟩
  cases a <;> cases b <;> rfl
end
theorem isT {c : Bool} (h : c = true) : decide (c = true) = true := decide_eq_true h
theorem eqT_F {as bs : List Int} (h : as ≠ bs) : (if false = true then !decide (as = bs) else decide (as = bs)) = false := by rw [if_neg Bool.false_ne_true, decide_eq_false h]
theorem two_eq {x y : Nm} (h : [x.1, x.2] = [y.1, y.2]) : x = y := by
  injection h with h1 h2
  injection h2 with h2 _
  exact Prod.ext h1 h2
theorem ne2 {x y : Nm} (h : x ≠ y) : [x.1, x.2] ≠ [y.1, y.2] := fun e => h (two_eq e)
theorem two_get {i j : Int} {k : Nat} {v : V} (h : [V.int i, V.int j][k]? = some v) : ∃ y, v = .int y := by
  match k, h with
  | 0, h => exact ⟨i, by simpa using h.symm⟩
  | 1, h => exact ⟨j, by simpa using h.symm⟩
  | k + 2, h => simp at h
theorem three_get {H : Hp} {p q r : Addr} {x y z : Nm} {k : Nat} {v : V} (h : [V.ref p, V.ref q, V.ref r][k]? = some v) (hp : H p = some (tw x)) (hq : H q = some (tw y)) (hr : H r = some (tw z)) : ∃ a w, v = .ref a ∧ H a = some (tw w) := by
  match k, h with
  | 0, h => exact ⟨p, x, by simpa using h.symm, hp⟩
  | 1, h => exact ⟨q, y, by simpa using h.symm, hq⟩
  | 2, h => exact ⟨r, z, by simpa using h.symm, hr⟩
  | k + 3, h => simp at h
theorem size_lt {i j : Int} (h : i.natAbs < j.natAbs) : absI i < absI j := by unfold absI; split <;> split <;> omega
theorem pick {H : Hp} {P : Nm → Prop} {k : Int} {ps : List Addr} (h0 : 0 ≤ k) (h1 : k < ((ps.length : Nat) : Int)) (h : ∀ p ∈ ps, ∃ m, H p = some (tw m) ∧ P m) : ∃ p m, atI (ps.map V.ref) k = some (.ref p) ∧ H p = some (tw m) ∧ P m := by
  have hk : k.toNat < ps.length := by omega
  obtain ⟨m, h2, h3⟩ := h ps[k.toNat] (List.getElem_mem hk)
  refine ⟨_, m, ?_, h2, h3⟩
  have q : atI (ps.map V.ref) ((k.toNat : Nat) : Int) = some (.ref ps[k.toNat]) := atI_nat (by rw [List.getElem?_map, List.getElem?_eq_getElem hk]; rfl)
  have e : ((k.toNat : Nat) : Int) = k := by omega
  rw [e] at q
  exact q
/-- quotient and rest, or a refusal -/
def spDiv (c : Addr) : Sp := fun vs H Q E => ∃ p q x y, vs = [.ref p, .ref q] ∧ H p = some (tw x) ∧ H q = some (tw y) ∧ (BdN 600 x ∧ BdN 600 y) ∧
  (y ≠ (0, 0) → ∀ r H', Same H H' → ∀ pu pv u v, H' r = some (.tup [.ref pu, .ref pv]) → H' pu = some (tw u) → H' pv = some (tw v) → (add (mul u y) v = x ∧ (nrmN v).natAbs < (nrmN y).natAbs ∧ BdN 4000 u ∧ BdN 4000 v) → Q (.ref r) H') ∧
  (y = (0, 0) → ∀ H', Same H H' → E (.ref c) none H')
def spTold11 : Sp := fun vs H Q _ => ∃ p q x y, vs = [.ref p, .ref q] ∧ H p = some (tw x) ∧ H q = some (tw y) ∧ (BdN 600 x ∧ BdN 600 y) ∧
  (y ≠ (0, 0) → ∀ r H', Same H H' → ∀ pu pv u v, H' r = some (.tup [.ref pu, .ref pv]) → H' pu = some (tw u) → H' pv = some (tw v) → (add (mul u y) v = x ∧ (nrmN v).natAbs < (nrmN y).natAbs ∧ BdN 4000 u ∧ BdN 4000 v) → Q (.ref r) H') ∧
  (y = (0, 0) → ∀ H', Same H H' → Q (.int 0) H')
/-- whether the one measures the other; tuples may be made on the way -/
def spMeas (n : Nat) : Sp := fun vs H Q _ => ∃ p q x y, vs = [.ref p, .ref q] ∧ H p = some (tw x) ∧ H q = some (tw y) ∧ (BdN n x ∧ BdN n y) ∧ ∀ H', Same H H' → Q (.bl (measB x y)) H'
def spIsNum : Sp := fun vs H Q _ => ∃ p x, vs = [.ref p] ∧ H p = some (tw x) ∧ Q (.bl true) H
def spCommon : Sp := fun vs H Q _ => ∃ p q x y, vs = [.ref p, .ref q] ∧ H p = some (tw x) ∧ H q = some (tw y) ∧ (BdN 400 x ∧ BdN 400 y) ∧
  ∀ r H', Same H H' → ∀ pg ps pt g s t, H' r = some (.tup [.ref pg, .ref ps, .ref pt]) → H' pg = some (tw g) → H' ps = some (tw s) → H' pt = some (tw t) → (add (mul s x) (mul t y) = g ∧ Measures g x ∧ Measures g y ∧ BdN 2000 g ∧ BdN 3000000 s ∧ BdN 3000000 t) → Q (.ref r) H'
/-- the side and the power of a unit, or None -/
def spUnit : Sp := fun vs H Q _ => ∃ p x, vs = [.ref p] ∧ H p = some (tw x) ∧ BdN 600 x ∧
  ((nrmN x = 1 ∨ nrmN x = -1) → ∀ r H', Same H H' → ∀ s k, H' r = some (.tup [.int s, .int k]) → ((s = 1 ∨ s = -1) ∧ side s (pw k) = x) → Q (.ref r) H') ∧ (¬ (nrmN x = 1 ∨ nrmN x = -1) → ∀ H', Same H H' → Q .non H')
theorem due_bd {a b c d : Int} (ba : Bd 2000 a) (bb : Bd 2000 b) (bc : Bd 2000 c) (bd : Bd 2000 d) : BdN 100000 (c, d) ∧ BdN 100000 (a + b, 0 - b) :=
  ⟨⟨bc.mono (by decide), bd.mono (by decide)⟩, ⟨(ba.add bb).mono (by decide), by show Bd 100000 (0 - b); rw [Int.zero_sub]; exact bb.neg.mono (by decide)⟩⟩
/-- what the law reckons -/
theorem due_zero {y : Nm} : decide ([y.1, y.2] = [0, 0]) = measB (0, 0) y := by
  rcases Classical.em (y = (0, 0)) with e | e
  · rw [e, meas_T (meas_zero.mpr rfl)]; decide
  · rw [meas_F (fun z => e (meas_zero.mp z)), decide_eq_false (ne2 (y := (0, 0)) e)]
theorem fmod_zero {i j : Int} : i.fmod j = 0 ↔ j ∣ i := by
  constructor
  · intro h
    exact ⟨i.fdiv j, by have := Int.mul_fdiv_add_fmod i j; omega⟩
  · rintro ⟨k, rfl⟩
    exact Int.mul_fmod_right j k
theorem due_no {x y : Nm} (h : x ≠ (0, 0)) (h1 : ¬ ((mul y (x.1 + x.2, 0 - x.2)).1.fmod (nrmN x)) = 0) : measB x y = false := meas_F fun z => h1 (fmod_zero.mpr (by
  have := ((meas_iff h).mp z).1
  rw [Int.zero_sub]; exact this))
theorem due_yes {x y : Nm} (h : x ≠ (0, 0)) (h1 : ((mul y (x.1 + x.2, 0 - x.2)).1.fmod (nrmN x)) = 0) : decide (V.int ((mul y (x.1 + x.2, 0 - x.2)).2.fmod (nrmN x)) = V.int 0) = measB x y := by
  rw [Int.zero_sub] at *
  have h2 := fmod_zero.mp h1
  rcases Classical.em (nrmN x ∣ (mul y (conj x)).2) with e | e
  · rw [meas_T ((meas_iff h).mpr ⟨h2, e⟩)]
    exact eqI (fmod_zero.mpr e)
  · rw [meas_F (fun z => e ((meas_iff h).mp z).2)]
    exact decide_eq_false fun z => e (fmod_zero.mp (by injection z))
/-! units -/
theorem unit_lst {s t j k : Int} (hs : s = 1 ∨ s = -1) (ht : t = 1 ∨ t = -1) (h : side s (pw j) = side t (pw k)) : [s, j] = [t, k] := by
  have := unit_inj hs ht h
  rw [this.1, this.2]
theorem side_of (c : Int) : 1 - 2 * (c % 2) = 1 ∨ 1 - 2 * (c % 2) = -1 := by omega
theorem nrm_unit {s k : Int} (hs : s = 1 ∨ s = -1) : nrmN (side s (pw k)) = 1 ∨ nrmN (side s (pw k)) = -1 := by
  rw [nrm_side hs]; exact nrm_pw k
theorem side_bd {n : Nat} {s : Int} {x : Nm} (hs : s = 1 ∨ s = -1) (h : BdN n x) : BdN n (side s x) := by
  rcases hs with rfl | rfl
  · rw [side_one]; exact h
  · rw [side_neg]; exact ⟨h.1.neg, h.2.neg⟩
theorem abs_one {i : Int} (h : i = 1 ∨ i = -1) : (if i < 0 then -i else i) = 1 := by rcases h with rfl | rfl <;> rfl
theorem neI_T {i j : Int} (h : i ≠ j) : (!decide (V.int i = V.int j)) = true := by rw [decide_eq_false (fun z => h (by injection z))]; rfl
theorem abs_not {i : Int} (h : ¬ (i = 1 ∨ i = -1)) : (if i < 0 then -i else i) ≠ 1 := by split <;> omega
theorem unit_at {s k : Int} {x : Nm} (hs : s = 1 ∨ s = -1) (h : side s (pw k) = x) (hm : Mid12 x) : -400 ≤ k ∧ k ≤ 400 := by
  have e : val [k] = pw k := by show add (pw k) (0, 0) = _; rw [add_zero]
  obtain ⟨⟨h1, h2⟩, h3, h4⟩ := hm
  have hp : (-1000000000000 ≤ (pw k).1 ∧ (pw k).1 ≤ 1000000000000) ∧ (-1000000000000 ≤ (pw k).2 ∧ (pw k).2 ≤ 1000000000000) := by
    rw [← h] at h1 h2 h3 h4
    simp only [side] at h1 h2 h3 h4
    rcases hs with rfl | rfl <;> omega
  have := places_of (r := [k]) trivial (by rw [e]; exact hp.1) (by rw [e]; exact hp.2) k (List.mem_cons_self ..)
  omega
end L2

set_option Elab.async false
set_option linter.all false
set_option maxRecDepth 100000
namespace Gold
/-! division by rounding to the nearest -/
def nearI (a s : Int) : Int := (2 * a + s).fdiv (2 * s)
theorem near_bd {a s : Int} (hs : s ≠ 0) : 2 * (a - s * nearI a s).natAbs ≤ s.natAbs := by
  unfold nearI
  have e := Int.mul_fdiv_add_fmod (2 * a + s) (2 * s)
  have e2 : 2 * s * ((2 * a + s).fdiv (2 * s)) = 2 * (s * ((2 * a + s).fdiv (2 * s))) := by rw [Int.mul_assoc]
  rw [e2] at e
  generalize s * ((2 * a + s).fdiv (2 * s)) = t at *
  rcases (by omega : 0 < s ∨ s < 0) with h | h
  · have h1 := Int.fmod_nonneg_of_pos (2 * a + s) (show 0 < 2 * s by omega)
    have h2 := Int.fmod_lt_of_pos (2 * a + s) (show 0 < 2 * s by omega)
    omega
  · have hn : (2 * a + s).fmod (2 * s) = -((-(2 * a + s)).fmod (-(2 * s))) := by rw [Int.neg_fmod_neg]; omega
    have h1 := Int.fmod_nonneg_of_pos (-(2 * a + s)) (show 0 < -(2 * s) by omega)
    have h2 := Int.fmod_lt_of_pos (-(2 * a + s)) (show 0 < -(2 * s) by omega)
    omega
def quo (x y : Nm) : Nm := (nearI (mul x (conj y)).1 (nrmN y), nearI (mul x (conj y)).2 (nrmN y))
def rst (x y : Nm) : Nm := sub x (mul (quo x y) y)
theorem quo_rst (x y : Nm) : add (mul (quo x y) y) (rst x y) = x := by
  unfold rst
  apply Prod.ext <;> simp only [add, sub] <;> omega
/-- what is left by the rounding of the two parts -/
def lft (x y : Nm) : Nm := ((mul x (conj y)).1 - nrmN y * (quo x y).1, (mul x (conj y)).2 - nrmN y * (quo x y).2)
theorem rst_conj (x y : Nm) : mul (rst x y) (conj y) = lft x y := by
  have e : mul (rst x y) (conj y) = sub (mul x (conj y)) (mul (quo x y) (mul y (conj y))) := by
    unfold rst
    rw [mul_comm (sub _ _) (conj y), mul_sub, mul_comm (conj y) x, mul_comm (conj y), mul_assoc]
  rw [e, mul_conj, mul_comm (quo x y), int_mul]
  rfl
theorem lft_bd {x y : Nm} (hy : y ≠ (0, 0)) : 2 * (lft x y).1.natAbs ≤ (nrmN y).natAbs ∧ 2 * (lft x y).2.natAbs ≤ (nrmN y).natAbs := by
  have hn : nrmN y ≠ 0 := fun z => hy ((nrm_zero_iff y).mp z)
  exact ⟨near_bd hn, near_bd hn⟩
theorem sq_abs (a : Int) : a * a = ((a.natAbs * a.natAbs : Nat) : Int) := (Int.natAbs_mul_self (a := a)).symm
theorem five_16 {A B : Int} {S : Nat} (h1 : 2 * A.natAbs ≤ S) (h2 : 2 * B.natAbs ≤ S) : 16 * (nrm A B).natAbs ≤ 5 * (S * S) := by
  have a2 : 4 * (A * A) ≤ ((S * S : Nat) : Int) := by
    have := Nat.mul_le_mul h1 h1
    have e : 2 * A.natAbs * (2 * A.natAbs) = 4 * (A.natAbs * A.natAbs) := by grind
    rw [sq_abs A]
    omega
  have b2 : 4 * (B * B) ≤ ((S * S : Nat) : Int) := by
    have := Nat.mul_le_mul h2 h2
    have e : 2 * B.natAbs * (2 * B.natAbs) = 4 * (B.natAbs * B.natAbs) := by grind
    rw [sq_abs B]
    omega
  have u : 4 * nrm A B = 5 * (A * A) - (A - 2 * B) * (A - 2 * B) := by unfold nrm; grind
  have l := four_nrm A B
  have s1 := sq_nonneg (A - 2 * B)
  have s2 := sq_nonneg (2 * A + B)
  omega
theorem rst_five {x y : Nm} (hy : y ≠ (0, 0)) : 16 * (nrmN (rst x y)).natAbs ≤ 5 * (nrmN y).natAbs := by
  have hn : nrmN y ≠ 0 := fun z => hy ((nrm_zero_iff y).mp z)
  have e := congrArg nrmN (rst_conj x y)
  rw [nrm_mul, nrm_conj] at e
  have h := five_16 (lft_bd (x := x) hy).1 (lft_bd (x := x) hy).2
  have e2 : (nrmN (rst x y)).natAbs * (nrmN y).natAbs = (nrm (lft x y).1 (lft x y).2).natAbs := by
    rw [← Int.natAbs_mul, e]; rfl
  rw [← e2] at h
  have hp : 0 < (nrmN y).natAbs := by omega
  have h2 : (16 * (nrmN (rst x y)).natAbs) * (nrmN y).natAbs ≤ (5 * (nrmN y).natAbs) * (nrmN y).natAbs := by
    have a1 : 16 * ((nrmN (rst x y)).natAbs * (nrmN y).natAbs) = (16 * (nrmN (rst x y)).natAbs) * (nrmN y).natAbs := by rw [Nat.mul_assoc]
    have a2 : 5 * ((nrmN y).natAbs * (nrmN y).natAbs) = (5 * (nrmN y).natAbs) * (nrmN y).natAbs := by rw [Nat.mul_assoc]
    omega
  exact Nat.le_of_mul_le_mul_right h2 hp
theorem rst_lt {x y : Nm} (hy : y ≠ (0, 0)) : (nrmN (rst x y)).natAbs < (nrmN y).natAbs := by
  have hn : nrmN y ≠ 0 := fun z => hy ((nrm_zero_iff y).mp z)
  have := rst_five (x := x) hy
  omega
/-- the rest's parts by those of the divisor -/
theorem rst_parts {x y : Nm} (hy : y ≠ (0, 0)) : 2 * (rst x y).1.natAbs ≤ y.1.natAbs + y.2.natAbs ∧ 2 * (rst x y).2.natAbs ≤ y.1.natAbs + 2 * y.2.natAbs := by
  have hn : nrmN y ≠ 0 := fun z => hy ((nrm_zero_iff y).mp z)
  have hp : 0 < (nrmN y).natAbs := by omega
  have e : mul (nrmN y, 0) (rst x y) = mul y (lft x y) := by
    rw [← rst_conj, ← mul_conj, mul_assoc, mul_comm (conj y)]
  rw [int_mul] at e
  have e1 := congrArg Prod.fst e
  have e2 := congrArg Prod.snd e
  simp only [mul] at e1 e2
  obtain ⟨f1, f2⟩ := lft_bd (x := x) hy
  generalize lft x y = F at *
  generalize rst x y = v at *
  have m1 : ∀ (a b : Int) (n : Nat), 2 * b.natAbs ≤ n → 2 * (a * b).natAbs ≤ a.natAbs * n := by
    intro a b n h
    rw [Int.natAbs_mul]
    have := Nat.mul_le_mul_left a.natAbs h
    have e : a.natAbs * (2 * b.natAbs) = 2 * (a.natAbs * b.natAbs) := by grind
    omega
  have g1 := m1 y.1 F.1 _ f1
  have g2 := m1 y.2 F.2 _ f2
  have g3 := m1 y.1 F.2 _ f2
  have g4 := m1 y.2 F.1 _ f1
  constructor
  · have h : (2 * v.1.natAbs) * (nrmN y).natAbs ≤ (y.1.natAbs + y.2.natAbs) * (nrmN y).natAbs := by
      have a : (2 * v.1.natAbs) * (nrmN y).natAbs = 2 * (nrmN y * v.1).natAbs := by rw [Int.natAbs_mul]; grind
      rw [a, e1, Nat.add_mul]
      omega
    exact Nat.le_of_mul_le_mul_right h hp
  · have h : (2 * v.2.natAbs) * (nrmN y).natAbs ≤ (y.1.natAbs + 2 * y.2.natAbs) * (nrmN y).natAbs := by
      have a : (2 * v.2.natAbs) * (nrmN y).natAbs = 2 * (nrmN y * v.2).natAbs := by rw [Int.natAbs_mul]; grind
      rw [a, e2, Nat.add_mul, Nat.mul_assoc]
      omega
    exact Nat.le_of_mul_le_mul_right h hp
theorem near_le {a s : Int} (hs : s ≠ 0) : (nearI a s).natAbs ≤ a.natAbs + s.natAbs := by
  have h := near_bd (a := a) hs
  have h1 : (nearI a s).natAbs ≤ (s * nearI a s).natAbs := by
    rw [Int.natAbs_mul]
    exact Nat.le_mul_of_pos_left _ (by omega)
  omega
/-- a product's rest is nought -/
theorem rst_meas {x y : Nm} (hy : y ≠ (0, 0)) : rst x y = (0, 0) ↔ Measures y x := by
  constructor
  · intro h
    have := quo_rst x y
    rw [h, add_zero] at this
    exact ⟨quo x y, by rw [mul_comm]; exact this⟩
  · rintro ⟨z, hz⟩
    have hn : nrmN y ≠ 0 := fun z => hy ((nrm_zero_iff y).mp z)
    have e : rst x y = mul y (sub z (quo x y)) := by
      unfold rst
      rw [mul_sub, hz, mul_comm y]
    have h := rst_five (x := x) hy
    have e2 := congrArg nrmN e
    rw [nrm_mul] at e2
    have e3 := congrArg Int.natAbs e2
    rw [Int.natAbs_mul] at e3
    rw [e3] at h
    have hz0 : (nrmN (sub z (quo x y))).natAbs = 0 := by
      rcases Nat.eq_zero_or_pos (nrmN (sub z (quo x y))).natAbs with q | q
      · exact q
      · have := Nat.le_mul_of_pos_right (nrmN y).natAbs q
        omega
    have h0 := (nrm_zero_iff _).mp (show nrmN (sub z (quo x y)) = 0 by omega)
    rw [e, h0, mul_zero]
/-! units are powers -/
theorem pos_split {a b : Int} (h : Pos a b) : (0 < 2 * a + b ∧ 5 * (b * b) < (2 * a + b) * (2 * a + b)) ∨ (0 < b ∧ (2 * a + b) * (2 * a + b) < 5 * (b * b)) := h
theorem unit_core {a b : Int} (q1 : (0 < 2 * (a - 1) + b ∧ 5 * (b * b) < (2 * (a - 1) + b) * (2 * (a - 1) + b)) ∨ (0 < b ∧ (2 * (a - 1) + b) * (2 * (a - 1) + b) < 5 * (b * b)))
    (q2 : (0 < 2 * (0 - a) + (1 - b) ∧ 5 * ((1 - b) * (1 - b)) < (2 * (0 - a) + (1 - b)) * (2 * (0 - a) + (1 - b))) ∨ (0 < 1 - b ∧ (2 * (0 - a) + (1 - b)) * (2 * (0 - a) + (1 - b)) < 5 * ((1 - b) * (1 - b))))
    (hN : a * a + a * b - b * b = 1 ∨ a * a + a * b - b * b = -1) : False := by
  -- q1: b² + b (a-1) - (a-1)² > 0 with b > 0, or < 0 with 2(a-1)+b>0
  have e1 : (2 * (a - 1) + b) * (2 * (a - 1) + b) - 5 * (b * b) = 4 * (a * a + a * b - b * b) - 8 * a + 4 - 4 * b := by grind
  have e2 : (2 * (0 - a) + (1 - b)) * (2 * (0 - a) + (1 - b)) - 5 * ((1 - b) * (1 - b)) = 4 * (a * a + a * b - b * b) - 4 + 8 * b - 4 * a := by grind
  rcases q1 with ⟨h1, h2⟩ | ⟨h1, h2⟩ <;> rcases q2 with ⟨h3, h4⟩ | ⟨h3, h4⟩ <;> rcases hN with hN | hN <;> rw [hN] at e1 e2 <;> omega
theorem unit_near {x : Nm} (h1 : Le (1, 0) x) (h2 : Lt x (0, 1)) (hn : nrmN x = 1 ∨ nrmN x = -1) : x = (1, 0) := by
  obtain ⟨a, b⟩ := x
  rcases h1 with h1 | h1
  · exfalso
    -- above 1, below G
    have p1 : Pos (a - 1) b := by
      have := h1
      unfold Lt PosN sub at this
      simpa using this
    have p2 : Pos (0 - a) (1 - b) := h2
    have hN : a * a + a * b - b * b = 1 ∨ a * a + a * b - b * b = -1 := hn
    exact unit_core (pos_split p1) (pos_split p2) hN
  · exact h1.symm
theorem Lt.mul_pos {x y z : Nm} (h : Lt x y) (hz : PosN z) : Lt (Gold.mul x z) (Gold.mul y z) := by
  unfold Lt at *
  have e : sub (Gold.mul y z) (Gold.mul x z) = Gold.mul (sub y x) z := by rw [mul_comm (sub y x), mul_sub, mul_comm z, mul_comm z]
  rw [e]
  exact PosN.mul h hz
theorem Le.mul_pos {x y z : Nm} (h : Le x y) (hz : PosN z) : Le (Gold.mul x z) (Gold.mul y z) := by
  rcases h with h | rfl
  · exact .inl (h.mul_pos hz)
  · exact .inr rfl
theorem unit_pw {x : Nm} (hp : PosN x) (hn : nrmN x = 1 ∨ nrmN x = -1) : ∃ k, x = pw k := by
  obtain ⟨ys, hg, hv⟩ := exists_row (x := x) (.inl (by unfold Lt; rw [sub_zero]; exact hp))
  cases ys with
  | nil =>
    have e : x = (0, 0) := hv.symm
    rw [e] at hn
    exact absurd hn (by decide)
  | cons t r =>
    have l := pw_le_val t r
    have u := val_lt t r hg
    rw [hv] at l u
    have l2 := l.mul_pos (pw_pos (-t))
    have u2 := u.mul_pos (pw_pos (-t))
    rw [← pw_add, Int.add_right_neg, pw_zero] at l2
    rw [← pw_add, show t + 1 + -t = 1 by omega, pw_one] at u2
    have n2 : nrmN (mul x (pw (-t))) = 1 ∨ nrmN (mul x (pw (-t))) = -1 := by
      rw [nrm_mul]
      rcases hn with h | h <;> rcases nrm_pw (-t) with g | g <;> rw [h, g] <;> decide
    have e := unit_near l2 u2 n2
    refine ⟨t, ?_⟩
    have : mul (mul x (pw (-t))) (pw t) = pw t := by rw [e, one_mul]
    rw [mul_assoc, ← pw_add, show -t + t = 0 by omega, pw_zero, mul_one] at this
    exact this
theorem sgn_side {x : Nm} (hn : nrmN x = 1 ∨ nrmN x = -1) : (sgnN x = 1 ∨ sgnN x = -1) ∧ PosN (side (sgnN x) x) := by
  rcases Pos.tri x.1 x.2 with p | ⟨e1, e2⟩ | p
  · have e : sgnN x = 1 := sgn_pos p
    rw [e, side_one]
    exact ⟨.inl rfl, p⟩
  · have e : x = (0, 0) := Prod.ext e1 e2
    rw [e] at hn
    exact absurd hn (by decide)
  · have e : sgnN x = -1 := sgn_neg p
    rw [e, side_neg]
    exact ⟨.inr rfl, p⟩
theorem side_side {s : Int} (hs : s = 1 ∨ s = -1) (x : Nm) : side s (side s x) = x := by
  rcases hs with rfl | rfl
  · rw [side_one, side_one]
  · rw [side_neg, side_neg, neg_neg]
theorem mul_side (s : Int) (x : Nm) : mul (s, 0) x = side s x := by rw [int_mul]; rfl
/-- the row of a unit has one place -/
theorem unit_row {x : Nm} {xs : List Int} (hn : nrmN x = 1 ∨ nrmN x = -1) (hg : Gap xs) (hv : val xs = mul (sgnN x, 0) x) : ∃ k, xs = [k] ∧ side (sgnN x) (pw k) = x := by
  obtain ⟨hs, hp⟩ := sgn_side hn
  rw [mul_side] at hv
  obtain ⟨k, hk⟩ := unit_pw hp (by rw [nrm_side hs]; exact hn)
  have e : val [k] = pw k := by show add (pw k) (0, 0) = _; rw [add_zero]
  refine ⟨k, val_inj hg trivial (by rw [hv, hk, e]), ?_⟩
  rw [← hk, side_side hs]
end Gold
namespace L2
open PySem PySem.Spec PyProof.Rows Gold
section
variable {X : Cx}
/-- // by any number but nought -/
theorem op_fdivA : OpR X (binaryOp .FloorDiv) (rI (fun _ j => j ≠ 0 ∧ j.natAbs.log2 < 9000) fun i j => .int (i.fdiv j)) := opI fun i j _ _ _ _ _ hc q => floordiv_int hc.1 q (.inl (PyProof.noPylong_of_log2 hc.2))
end
def spNearI : Sp := fun vs H Q _ => ∃ a s : Int, vs = [.int a, .int s] ∧ (s ≠ 0 ∧ Bd 8000 s) ∧ Q (.int (nearI a s)) H
theorem near_ok {s : Int} (h : s ≠ 0 ∧ Bd 8000 s) : 2 * s ≠ 0 ∧ (2 * s).natAbs.log2 < 9000 := by
  refine ⟨by omega, ?_⟩
  have hb : s.natAbs < 2 ^ 8000 := h.2
  have e : (2 : Nat) ^ 8001 = 2 * 2 ^ 8000 := by rw [show (8001 : Nat) = 8000 + 1 from rfl, Nat.pow_succ]; omega
  have h2 : (2 * s).natAbs < 2 ^ 8001 := by rw [e]; generalize (2 : Nat) ^ 8000 = t at *; omega
  have := (Nat.log2_lt (show (2 * s).natAbs ≠ 0 by omega)).mpr h2
  omega
/-- the quotient and the rest themselves -/
def spDivG (c : Addr) : Sp := fun vs H Q E => ∃ p q x y, vs = [.ref p, .ref q] ∧ H p = some (tw x) ∧ H q = some (tw y) ∧ (BdN 3000 x ∧ BdN 3000 y) ∧
  (y ≠ (0, 0) → ∀ r H', Same H H' → ∀ pu pv, H' r = some (.tup [.ref pu, .ref pv]) → H' pu = some (tw (quo x y)) → H' pv = some (tw (rst x y)) → Q (.ref r) H') ∧
  (y = (0, 0) → ∀ H', Same H H' → E (.ref c) none H')
theorem quo_bd {n : Nat} {x y : Nm} (hx : BdN n x) (hy : BdN n y) (h0 : y ≠ (0, 0)) : BdN (2 * n + 5) (quo x y) := by
  have hn : nrmN y ≠ 0 := fun z => h0 ((nrm_zero_iff y).mp z)
  have hc := BdN.mul (hx.mono (n := n + 1) (by omega)) hy.conj
  have hm := hy.nrm
  have e : ∀ a, Bd (n + 1 + (n + 1) + 2) a → Bd (2 * n + 5) (nearI a (nrmN y)) := by
    intro a ha
    have := near_le (a := a) hn
    have h1 : a.natAbs < 2 ^ (n + 1 + (n + 1) + 2) := ha
    have h2 : (nrmN y).natAbs < 2 ^ (n + 1 + (n + 1) + 2) := hm.mono (by omega)
    have e2 : (2 : Nat) ^ (2 * n + 5) = 2 * 2 ^ (n + 1 + (n + 1) + 2) := by rw [show 2 * n + 5 = (n + 1 + (n + 1) + 2) + 1 by omega, Nat.pow_succ]; omega
    show (nearI a (nrmN y)).natAbs < 2 ^ (2 * n + 5)
    rw [e2]
    omega
  exact ⟨e _ hc.1, e _ hc.2⟩
theorem rst_bd {n : Nat} {x y : Nm} (hy : BdN n y) (h0 : y ≠ (0, 0)) : BdN (n + 1) (rst x y) := by
  have := rst_parts (x := x) h0
  have h1 : y.1.natAbs < 2 ^ n := hy.1
  have h2 : y.2.natAbs < 2 ^ n := hy.2
  have e : (2 : Nat) ^ (n + 1) = 2 * 2 ^ n := by rw [Nat.pow_succ]; omega
  exact ⟨by show (rst x y).1.natAbs < 2 ^ (n + 1); omega, by show (rst x y).2.natAbs < 2 ^ (n + 1); omega⟩
theorem div_G {c : Addr} {vs : List V} {H : Hp} {Q : VK} {E : XK} (h : spDiv c vs H Q E) : spDivG c vs H Q E := by
  obtain ⟨p, q, x, y, rfl, hp, hq, ⟨bx, b_y⟩, hQ, hE⟩ := h
  refine ⟨p, q, x, y, rfl, hp, hq, ⟨bx.mono (by decide), b_y.mono (by decide)⟩, fun hy r H' s pu pv e eu ev => hQ hy r H' s pu pv _ _ e eu ev ⟨quo_rst x y, rst_lt hy, (quo_bd bx b_y hy).mono (by decide), (rst_bd b_y hy).mono (by decide)⟩, hE⟩
theorem meas_rst {x y : Nm} (hx : x ≠ (0, 0)) : decide ([(rst y x).1, (rst y x).2] = [0, 0]) = measB x y := by
  rcases Classical.em (Measures x y) with e | e
  · rw [meas_T e]
    exact decide_eq_true (by rw [(rst_meas hx).mpr e])
  · rw [meas_F e]
    exact decide_eq_false (ne2 (y := (0, 0)) fun z => e ((rst_meas hx).mp z))
theorem abs_is {i : Int} (h : (if i < 0 then -i else i) = 1) : i = 1 ∨ i = -1 := by split at h <;> omega
theorem sgn_bd (x : Nm) : Bd 1 (sgnN x) := by
  unfold Bd sgnN sgn
  (repeat' split) <;> decide
/-! the common measure: what the walk keeps, by its turns k -/
theorem _root_.Gold.BdN.mul2 {m n : Nat} {x y : Nm} (hx : BdN m x) (hy : BdN n y) : BdN (m + n + 2) (Gold.mul x y) := by
  have h1 := hx.1.mul hy.1
  have h2 := hx.2.mul hy.2
  have h3 := hx.1.mul hy.2
  have h4 := hx.2.mul hy.1
  exact ⟨(h1.add h2).mono (by omega), by
    have := (h3.add h4).add (h2.mono (n := m + n + 1) (by omega))
    exact this⟩
structure Euc (x y g s t g' s' t' : Nm) (k : Nat) : Prop where
  one : add (mul s x) (mul t y) = g
  two : add (mul s' x) (mul t' y) = g'
  com : ∀ d, Measures d g → Measures d g' → Measures d x ∧ Measures d y
  bg : BdN (401 + k) g
  bg' : BdN (401 + k) g'
  bs : BdN (3000 * k + 2) s
  bt : BdN (3000 * k + 2) t
  bs' : BdN (3000 * k + 2) s'
  bt' : BdN (3000 * k + 2) t'
  half : (nrmN g').natAbs * 2 ^ k ≤ 2 ^ 900
  few : k ≤ 901
theorem bd_small {n : Nat} {x : Nm} (h : x.1.natAbs ≤ 1 ∧ x.2.natAbs ≤ 1) (hn : 1 ≤ n) : BdN n x := by
  have : (2 : Nat) ^ 1 ≤ 2 ^ n := Nat.pow_le_pow_right (by decide) hn
  exact ⟨by show x.1.natAbs < 2 ^ n; omega, by show x.2.natAbs < 2 ^ n; omega⟩
theorem Euc.start {x y : Nm} (hx : BdN 400 x) (hy : BdN 400 y) : Euc x y x (1, 0) (0, 0) y (0, 0) (1, 0) 0 := by
  refine ⟨by rw [one_mul, zero_mul, add_zero], by rw [one_mul, zero_mul, zero_add], fun d h1 h2 => ⟨h1, h2⟩, hx.mono (by decide), hy.mono (by decide), bd_small (by decide) (by decide), bd_small (by decide) (by decide), bd_small (by decide) (by decide), bd_small (by decide) (by decide), ?_, by decide⟩
  have h : (nrmN y).natAbs < 2 ^ (400 + 400 + 2) := hy.nrm
  have e : (2 : Nat) ^ (400 + 400 + 2) ≤ 2 ^ 900 := Nat.pow_le_pow_right (by decide) (by decide)
  rw [Nat.pow_zero, Nat.mul_one]
  omega
theorem Euc.le {x y g s t g' s' t' : Nm} {k : Nat} (h : Euc x y g s t g' s' t' k) (h0 : g' ≠ (0, 0)) : k ≤ 900 := by
  have hn : nrmN g' ≠ 0 := fun z => h0 ((nrm_zero_iff g').mp z)
  have h1 : 2 ^ k ≤ 2 ^ 900 := Nat.le_trans (Nat.le_mul_of_pos_left _ (by omega)) h.half
  exact (Nat.pow_le_pow_iff_right (by decide)).mp h1
theorem step_bd {m n k : Nat} {u a b : Nm} (hu : BdN m u) (ha : BdN n a) (hb : BdN n b) (h : m + n + 3 ≤ k) : BdN k (sub a (mul u b)) := by
  have := BdN.sub (ha.mono (n := m + n + 2) (by omega)) (hu.mul2 hb)
  exact this.mono h
theorem Euc.step {x y g s t g' s' t' : Nm} {k : Nat} (h : Euc x y g s t g' s' t' k) (h0 : g' ≠ (0, 0)) :
    Euc x y g' s' t' (sub g (mul (quo g g') g')) (sub s (mul (quo g g') s')) (sub t (mul (quo g g') t')) (k + 1) := by
  have hk := h.le h0
  have hu : BdN 2609 (quo g g') := (quo_bd h.bg h.bg' h0).mono (by omega)
  have e : sub g (mul (quo g g') g') = rst g g' := rfl
  refine ⟨h.two, ?_, fun d h1 h2 => h.com d ?_ h1, h.bg'.mono (by omega), ?_, h.bs'.mono (by omega), h.bt'.mono (by omega), step_bd hu h.bs h.bs' (by omega), step_bd hu h.bt h.bt' (by omega), ?_, by omega⟩
  · rw [← h.one, ← h.two]
    generalize quo g g' = u
    apply Prod.ext <;> simp only [mul, add, sub] <;> grind
  · obtain ⟨z1, e1⟩ := h1
    obtain ⟨z2, e2⟩ := h2
    refine ⟨add (mul (quo g g') z1) z2, ?_⟩
    rw [mul_add, e2, ← mul_assoc, mul_comm d, mul_assoc, e1]
    exact quo_rst g g'
  · rw [e]
    exact (rst_bd h.bg' h0).mono (by omega)
  · rw [e]
    have := rst_five (x := g) h0
    have h2 := h.half
    rw [Nat.pow_succ]
    have h3 : 2 * (nrmN (rst g g')).natAbs ≤ (nrmN g').natAbs := by omega
    have := Nat.mul_le_mul_right (2 ^ k) h3
    have e3 : (nrmN (rst g g')).natAbs * (2 ^ k * 2) = 2 * (nrmN (rst g g')).natAbs * 2 ^ k := by grind
    omega
theorem Euc.done {x y g s t s' t' : Nm} {k : Nat} (h : Euc x y g s t (0, 0) s' t' k) : add (mul s x) (mul t y) = g ∧ Measures g x ∧ Measures g y ∧ BdN 2000 g ∧ BdN 3000000 s ∧ BdN 3000000 t := by
  have hk := h.few
  have := h.com g (meas_self g) ⟨(0, 0), mul_zero g⟩
  exact ⟨h.one, this.1, this.2, h.bg.mono (by omega), h.bs.mono (by omega), h.bt.mono (by omega)⟩
def spLine : Sp := fun vs H Q _ => ∃ (pl pq pf a b c a' b' c' : Addr) (g s t u g' s' t' : Nm), vs = [.ref pl, .ref pq, .ref pf] ∧ H pl = some (.tup [.ref a, .ref b, .ref c]) ∧ H a = some (tw g) ∧ H b = some (tw s) ∧ H c = some (tw t) ∧ H pq = some (tw u) ∧
  H pf = some (.tup [.ref a', .ref b', .ref c']) ∧ H a' = some (tw g') ∧ H b' = some (tw s') ∧ H c' = some (tw t') ∧ (BdN 4000000 u ∧ BdN 4000000 g' ∧ BdN 4000000 s' ∧ BdN 4000000 t') ∧
  ∀ r H', Same H H' → ∀ i j k, H' r = some (.tup [.ref i, .ref j, .ref k]) → H' i = some (tw (sub g (mul u g'))) → H' j = some (tw (sub s (mul u s'))) → H' k = some (tw (sub t (mul u t'))) → Q (.ref r) H'
theorem line_pre {x y g s t g' s' t' : Nm} {k : Nat} (h : Euc x y g s t g' s' t' k) (h0 : g' ≠ (0, 0)) : BdN 4000000 (quo g g') ∧ BdN 4000000 g' ∧ BdN 4000000 s' ∧ BdN 4000000 t' := by
  have hk := h.le h0
  exact ⟨(quo_bd h.bg h.bg' h0).mono (by omega), h.bg'.mono (by omega), h.bs'.mono (by omega), h.bt'.mono (by omega)⟩
theorem div_pre {x y g s t g' s' t' : Nm} {k : Nat} (h : Euc x y g s t g' s' t' k) : BdN 3000 g ∧ BdN 3000 g' := by
  have hk := h.few
  exact ⟨h.bg.mono (by omega), h.bg'.mono (by omega)⟩
theorem unit_bd {x : Nm} (hn : nrmN x = 1 ∨ nrmN x = -1) (hb : BdN 600 x) : BdN 3000 (mul (sgnN x, 0) x) := by
  rw [mul_side]
  exact (side_bd (sgn_side hn).1 hb).mono (by decide)
theorem unit_nn {x : Nm} (hn : nrmN x = 1 ∨ nrmN x = -1) : ¬ sgnN (mul (sgnN x, 0) x) < 0 := by
  rw [mul_side]
  exact sgn_nn (.inl (by unfold Lt; rw [sub_zero]; exact (sgn_side hn).2))
end L2

set_option Elab.async false
set_option linter.all false
set_option maxRecDepth 100000
/-! lists of two lists of ints, compared -/
namespace L2
open PySem PySem.Spec PyProof.Rows Gold
section
variable {X : Cx}
theorem eqAt_lists {A : Around} {pins : List (Addr × Obj)} {σ : St} {H : Hp} {s : Shared} (I : Inv X pins σ H s) {a c : Addr} {xs zs : List Int} (h1 : SqL X.K H a (xs.map V.int)) (h2 : SqL X.K H c (zs.map V.int)) (he : a = c → xs = zs) (hu : A.units < cLine) :
    SeqAt.EqAt A s (.ref a) (.ref c) (decide (xs = zs)) := by
  by_cases e : a = c
  · subst e
    rw [decide_eq_true (he rfl)]
    exact SeqAt.EqAt.same _
  · obtain ⟨its, r, pl, hz⟩ := I.list h1
    obtain ⟨its', r', pl', hz'⟩ := I.list h2
    have l1 := r.length
    have l2 := r'.length
    rw [List.length_map] at l1 l2
    refine SeqAt.EqAt.of_refs e ?_
    by_cases hl : xs.length = zs.length
    · have q := SeqAt.RcAt.lists (A := A) (e := fun j => xs.getD j 0 == zs.getD j 0) pl.isList pl'.isList (by simp; omega) hu (eq_items r r')
      have e := all_eq_dec' hl
      rw [List.size_toArray, ← l1, e] at q
      exact q
    · rw [decide_eq_false (fun z => hl (by rw [z]))]
      exact SeqAt.RcAt.lists_lengths pl.isList pl'.isList (by simp; omega) hu
theorem two_vals {a b : Addr} {its : List Value} (r : Vals [V.ref a, V.ref b] its) : its = [.ref a, .ref b] := by
  cases r with
  | cons r1 rr =>
    cases rr with
    | cons r2 r3 =>
      cases r3
      cases r1
      cases r2
      rfl
def rEqLL (K : PySem.W.Frag) (neg : Bool) : R2 := fun x y H Q => ∃ (p q a b c d : Addr) (xs ys zs ws : List Int), x = .ref p ∧ y = .ref q ∧ SqL K H p [.ref a, .ref b] ∧ SqL K H q [.ref c, .ref d] ∧ SqL K H a (xs.map V.int) ∧ SqL K H b (ys.map V.int) ∧ SqL K H c (zs.map V.int) ∧ SqL K H d (ws.map V.int) ∧
  ((a = c → xs = zs) ∧ (b = d → ys = ws)) ∧ Q (.bl (if neg then !(decide (xs = zs) && decide (ys = ws)) else decide (xs = zs) && decide (ys = ws))) H
theorem ll_items {A : Around} {pins : List (Addr × Obj)} {σ : St} {H : Hp} {s : Shared} (I : Inv X pins σ H s) {a b c d : Addr} {xs ys zs ws : List Int} (h1 : SqL X.K H a (xs.map V.int)) (h2 : SqL X.K H b (ys.map V.int)) (h3 : SqL X.K H c (zs.map V.int)) (h4 : SqL X.K H d (ws.map V.int))
    (he : (a = c → xs = zs) ∧ (b = d → ys = ws)) (hu : A.units < cLine) : ∀ j (h1 : j < [Value.ref a, .ref b].toArray.size) (h2 : j < [Value.ref c, .ref d].toArray.size), SeqAt.EqAt A s [Value.ref a, .ref b].toArray[j] [Value.ref c, .ref d].toArray[j] ([decide (xs = zs), decide (ys = ws)].getD j false) := by
  intro j g1 g2
  match j, g1, g2 with
  | 0, _, _ => exact eqAt_lists I h1 h3 he.1 hu
  | 1, _, _ => exact eqAt_lists I h2 h4 he.2 hu
  | j + 2, g, _ => simp at g; omega
theorem op_eqLL (hu : X.A.units + 64 < cLine) : OpR X (compareOp .Eq) (rEqLL X.K false) := by
  intro pins s σ H x y v u Q I rx ry h
  obtain ⟨p, q, a, b, c, d, xs, ys, zs, ws, rfl, rfl, hp, hq, h1, h2, h3, h4, he, hQ⟩ := h
  cases rx
  cases ry
  obtain ⟨its, r, pl, hz⟩ := I.list hp
  obtain ⟨its', r', pl', hz'⟩ := I.list hq
  have e1 := two_vals r
  have e2 := two_vals r'
  subst e1 e2
  refine SeqAt.eq_listAt (e := fun j => [decide (xs = zs), decide (ys = ws)].getD j false) pl.isList pl'.isList rfl (by omega) (ll_items I h1 h2 h3 h4 he (by show X.A.units + 1 < cLine; omega)) ⟨.bl _, H, I, rfl, ?_⟩
  have e : (List.range [Value.ref a, .ref b].toArray.size).all (fun j => [decide (xs = zs), decide (ys = ws)].getD j false) = (decide (xs = zs) && decide (ys = ws)) := by
    show (List.range 2).all _ = _
    simp [List.range_succ]
  rw [e]
  exact hQ
theorem op_neLL (hu : X.A.units + 64 < cLine) : OpR X (compareOp .NotEq) (rEqLL X.K true) := by
  intro pins s σ H x y v u Q I rx ry h
  obtain ⟨p, q, a, b, c, d, xs, ys, zs, ws, rfl, rfl, hp, hq, h1, h2, h3, h4, he, hQ⟩ := h
  cases rx
  cases ry
  obtain ⟨its, r, pl, hz⟩ := I.list hp
  obtain ⟨its', r', pl', hz'⟩ := I.list hq
  have e1 := two_vals r
  have e2 := two_vals r'
  subst e1 e2
  refine SeqAt.RcNeAt.lists (e := fun j => [decide (xs = zs), decide (ys = ws)].getD j false) pl.isList pl'.isList rfl (by omega) (ll_items I h1 h2 h3 h4 he (by show X.A.units + 1 < cLine; omega)) _ _ _ _ ⟨.bl _, H, I, rfl, ?_⟩
  have e : (List.range [Value.ref a, .ref b].toArray.size).all (fun j => [decide (xs = zs), decide (ys = ws)].getD j false) = (decide (xs = zs) && decide (ys = ws)) := by
    show (List.range 2).all _ = _
    simp [List.range_succ]
  rw [e]
  exact hQ
end
theorem eqLL {xs ys zs ws : List Int} (h1 : xs = zs) (h2 : ys = ws) : (if false = true then !(decide (xs = zs) && decide (ys = ws)) else decide (xs = zs) && decide (ys = ws)) = true := by
  rw [if_neg Bool.false_ne_true, decide_eq_true h1, decide_eq_true h2]; rfl
theorem neLL {xs ys zs ws : List Int} (h1 : xs = zs) (h2 : ys = ws) : (if true = true then !(decide (xs = zs) && decide (ys = ws)) else decide (xs = zs) && decide (ys = ws)) = false := by
  rw [if_pos rfl, decide_eq_true h1, decide_eq_true h2]; rfl
theorem pick2 {c i j : Int} : ∃ f, atI [V.int i, V.int j] (c % 2) = some (.int f) ∧ (f = i ∨ f = j) := by
  have h : c % 2 = 0 ∨ c % 2 = 1 := by omega
  rcases h with h | h <;> rw [h]
  · exact ⟨i, at0, .inl rfl⟩
  · exact ⟨j, at1, .inr rfl⟩
/-- two rows in, a new list without neighbours out -/
def spRR (K : PySem.W.Frag) (c : Addr) (g : Nm → Nm → Nm) : Sp := fun vs H Q E => ∃ (p q : Addr) (xs ys : List Int), vs = [.ref p, .ref q] ∧ SqL K H p (xs.map V.int) ∧ SqL K H q (ys.map V.int) ∧ (xs.length ≤ 1000 ∧ ys.length ≤ 1000) ∧
  (IsRow xs ∧ IsRow ys → ∀ r H', Same H H' → H r = none → ∀ zs, H' r = some (li zs) → (Gap zs ∧ val zs = g (val xs) (val ys) ∧ zs.length ≤ 1000 ∧ ∀ x ∈ zs, -1000000 ≤ x ∧ x ≤ 1000000) → Q (.ref r) H') ∧ (¬ (IsRow xs ∧ IsRow ys) → ∀ H', Same H H' → E (.ref c) none H')
theorem far_row {f : Int} {xs : List Int} (hf : f = 9 ∨ f = 80) (h : Gap xs ∧ (∀ x ∈ xs, 0 - f ≤ x ∧ x ≤ f) ∧ xs.length ≤ 82) : IsRow xs := isRow_pr h (by omega) (by omega)
theorem one_clean {x : Nm} {xs ys : List Int} {P R : Prop} (h : Gap xs ∧ val xs = x ∧ P) (h' : Gap ys ∧ val ys = x ∧ R) : xs = ys := val_inj h.1 h'.1 (h.2.1.trans h'.2.1.symm)
theorem clean_F {xs : List Int} {i : Nat} (hi : i < xs.length) (hg : Gap xs) (h3 : 0 < 0 + (i : Int)) (h4 : cell xs (0 + (i : Int) - 1) - cell xs (0 + (i : Int)) < 2) : False := by
  obtain ⟨j, rfl⟩ : ∃ j, i = j + 1 := ⟨i - 1, by omega⟩
  rw [cell0] at h4
  rw [show (0 : Int) + ((j + 1 : Nat) : Int) - 1 = (j : Int) by omega] at h4
  have := gap_at j xs _ _ hg (cell_get (show j < xs.length by omega)) (cell_get hi)
  omega
/-- parts of a row's value -/
theorem val_bd {xs : List Int} (h : IsRow xs) : BdN 400 (val xs) := by
  have hl := isRow_few h
  have aux : ∀ (xs : List Int), (∀ x ∈ xs, -80 ≤ x ∧ x ≤ 80) → (val xs).1.natAbs ≤ xs.length * 2 ^ 81 ∧ (val xs).2.natAbs ≤ xs.length * 2 ^ 81 := by
    intro xs
    induction xs with
    | nil => intro _; exact ⟨by simp [val], by simp [val]⟩
    | cons a r ih =>
      intro hb
      have h1 := ih fun x hx => hb x (List.mem_cons_of_mem _ hx)
      have ha := hb a (List.mem_cons_self ..)
      have h2 := pw_bound a (n := 81) (by omega)
      have e1 : (val (a :: r)).1 = (pw a).1 + (val r).1 := rfl
      have e2 : (val (a :: r)).2 = (pw a).2 + (val r).2 := rfl
      rw [e1, e2, List.length_cons, Nat.add_mul]
      generalize (2 : Nat) ^ 81 = m at *
      generalize r.length * m = n at *
      omega
  have h2 := aux xs h.2
  have h3 : xs.length * 2 ^ 81 ≤ 1000 * 2 ^ 81 := Nat.mul_le_mul_right _ hl
  have h4 : 1000 * (2 : Nat) ^ 81 < 2 ^ 91 := by decide +kernel
  have h5 : (2 : Nat) ^ 91 ≤ 2 ^ 400 := Nat.pow_le_pow_right (by decide) (by decide)
  exact ⟨by unfold Bd; omega, by unfold Bd; omega⟩
end L2

set_option Elab.async false
set_option linter.all false
set_option maxRecDepth 100000
namespace Gold
open L2 (cell cutI)
theorem not_gap : ∀ (as : List Int) {bs : List Int} {x y : Int}, ¬ y + 2 ≤ x → ¬ Gap (as ++ x :: y :: bs)
  | [], bs, x, y, h => fun g => h g.1
  | [a], bs, x, y, h => fun g => h g.2.1
  | a :: b :: r, bs, x, y, h => fun g => not_gap (b :: r) h g.2
theorem cut_take {xs : List Int} {k : Int} (h0 : 0 ≤ k) : cutI xs none (some k) = xs.take k.toNat := by
  have e1 : HT.sIx xs.length xs.length (some k) = min k.toNat xs.length := by unfold HT.sIx; dsimp only; rw [if_neg (by omega)]
  have e2 : HT.sIx xs.length 0 none = 0 := rfl
  unfold cutI
  rw [e1, e2, List.drop_zero, Nat.sub_zero, Nat.min_def]
  split
  · rfl
  · rw [List.take_length, List.take_of_length_le (by omega)]
theorem cut_drop {xs : List Int} {k : Int} (h0 : 0 ≤ k) : cutI xs (some k) none = xs.drop k.toNat := by
  have e1 : HT.sIx xs.length 0 (some k) = min k.toNat xs.length := by unfold HT.sIx; dsimp only; rw [if_neg (by omega)]
  have e2 : HT.sIx xs.length xs.length none = xs.length := rfl
  unfold cutI
  rw [e1, e2, Nat.min_def]
  split
  · rw [List.take_of_length_le (by rw [List.length_drop]; omega)]
  · rw [List.drop_length, List.drop_of_length_le (by omega)]; simp
theorem drop_cell {xs : List Int} {k : Int} (h0 : 0 ≤ k) (h : k < ((xs.length : Nat) : Int)) : xs.drop k.toNat = cell xs k :: xs.drop (k + 1).toNat := by
  have hk : k.toNat < xs.length := by omega
  rw [List.drop_eq_getElem_cons hk, show (k + 1).toNat = k.toNat + 1 by omega]
  congr 1
  unfold cell
  rw [List.getD_eq_getElem?_getD, List.getElem?_eq_getElem hk]; rfl
theorem take_cell {xs : List Int} {k : Int} (h0 : 0 ≤ k) (h : k < ((xs.length : Nat) : Int)) : xs.take (k + 1).toNat = xs.take k.toNat ++ [cell xs k] := by
  have hk : k.toNat < xs.length := by omega
  rw [show (k + 1).toNat = k.toNat + 1 by omega, List.take_succ]
  congr 1
  unfold cell
  rw [List.getD_eq_getElem?_getD, List.getElem?_eq_getElem hk]; rfl
theorem spoil1 {xs : List Int} {k : Int} (h0 : 0 ≤ k) (h : k < ((xs.length : Nat) : Int)) : ¬ IsRow (cutI xs none (some (k + 1)) ++ cutI xs (some k) none) := by
  rw [cut_take (by omega), cut_drop h0, take_cell h0 h, drop_cell h0 h, List.append_assoc]
  exact fun z => not_gap _ (by omega) z.1
theorem spoil2 {xs : List Int} {k : Int} (h0 : 0 ≤ k) (h : k < ((xs.length : Nat) : Int)) : ¬ IsRow (cutI xs none (some (k + 1)) ++ [cell xs k - 1] ++ cutI xs (some (k + 1)) none) := by
  rw [cut_take (by omega), take_cell h0 h, List.append_assoc, List.append_assoc]
  exact fun z => not_gap _ (by omega) z.1
theorem spoil3 {xs : List Int} {k : Int} (hg : Gap xs) (h0 : 0 ≤ k) (h : k + 1 < ((xs.length : Nat) : Int)) : ¬ IsRow (cutI xs none (some k) ++ [cell xs (k + 1), cell xs k] ++ cutI xs (some (k + 2)) none) := by
  rw [List.append_assoc]
  refine fun z => not_gap _ ?_ z.1
  have := gap_at k.toNat xs (cell xs k) (cell xs (k + 1)) hg (by have q := L2.cell_get (xs := xs) (i := k.toNat) (by omega); rw [show ((k.toNat : Nat) : Int) = k by omega] at q; exact q)
    (by have q := L2.cell_get (xs := xs) (i := k.toNat + 1) (by omega); rw [show ((k.toNat + 1 : Nat) : Int) = k + 1 by omega] at q; exact q)
  omega
theorem spoil4 {xs : List Int} {far : Int} (h : 0 ≤ far) : ¬ IsRow ([81 + far] ++ xs) := fun z => by
  have := (z.2 (81 + far) (List.mem_cons_self ..)).2
  omega
theorem spoil5 {xs : List Int} {far : Int} (h : 0 ≤ far) : ¬ IsRow (xs ++ [-81 - far]) := fun z => by
  have := (z.2 (-81 - far) (List.mem_append_right _ (List.mem_cons_self ..))).1
  omega
theorem spoil0 {far : Int} (h : 0 ≤ far) : ¬ IsRow [0, 0] ∧ ¬ IsRow [81 + far] ∧ ¬ IsRow [-81 - far] :=
  ⟨fun z => not_gap [] (bs := []) (x := 0) (y := 0) (by omega) z.1, fun z => spoil4 (xs := []) h z, fun z => spoil5 (xs := []) h z⟩
/-! a row as a text -/
def hiOf (xs : List Int) : Int := xs.foldl max 0
def loOf (xs : List Int) : Int := xs.foldl min 0
def fig (xs : List Int) (p : Int) : List Nat := (if p = -1 then [46] else []) ++ [if p ∈ xs then 49 else 48]
def noteL (xs : List Int) : List Nat := (List.range (hiOf xs - loOf xs + 1).toNat).flatMap fun (i : Nat) => fig xs (hiOf xs - (i : Int))
end Gold
namespace L2
open PySem PySem.Spec PyProof.Rows Gold
def noteS (xs : List Int) : Str := ⟨(noteL xs).toArray⟩
def spShown (K : PySem.W.Frag) (c : Addr) : Sp := fun vs H Q E => ∃ (p : Addr) (xs : List Int), vs = [.ref p] ∧ SqL K H p (xs.map V.int) ∧ xs.length ≤ 1000 ∧ (IsRow xs → ∀ H', Same H H' → Q (.str (noteS xs)) H') ∧ (¬ IsRow xs → ∀ H', Same H H' → E (.ref c) none H')
def spRead (c : Addr) : Sp := fun vs H Q E => ∃ t : Str, vs = [.str t] ∧ t.length ≤ 400 ∧ ((∃ xs, IsRow xs ∧ t = noteS xs ∧ ∀ r H', Same H H' → H r = none → H' r = some (li xs) → Q (.ref r) H') ∨ ((∀ xs, IsRow xs → t ≠ noteS xs) ∧ ∀ H', Same H H' → E (.ref c) none H'))
theorem hi_le : ∀ (xs : List Int) (m n : Int), m ≤ n → (∀ x ∈ xs, x ≤ n) → xs.foldl max m ≤ n
  | [], _, _, h, _ => h
  | a :: r, m, n, h, hb => hi_le r (max m a) n (by have := hb a (List.mem_cons_self ..); omega) fun x hx => hb x (List.mem_cons_of_mem _ hx)
theorem lo_le : ∀ (xs : List Int) (m n : Int), n ≤ m → (∀ x ∈ xs, n ≤ x) → n ≤ xs.foldl min m
  | [], _, _, h, _ => h
  | a :: r, m, n, h, hb => lo_le r (min m a) n (by have := hb a (List.mem_cons_self ..); omega) fun x hx => hb x (List.mem_cons_of_mem _ hx)
theorem fig_len (xs : List Int) (p : Int) : (fig xs p).length ≤ 2 := by
  unfold fig
  split <;> simp
theorem flat_len {f : Nat → List Nat} (hf : ∀ i, (f i).length ≤ 2) : ∀ l : List Nat, (l.flatMap f).length ≤ 2 * l.length
  | [] => by simp
  | a :: r => by
    rw [List.flatMap_cons, List.length_append, List.length_cons]
    have := flat_len hf r
    have := hf a
    omega
theorem note_len {xs : List Int} (h : IsRow xs) : (noteS xs).length ≤ 400 := by
  have h1 := hi_le xs 0 80 (by decide) fun x hx => (h.2 x hx).2
  have h2 := lo_le xs 0 (-80) (by decide) fun x hx => (h.2 x hx).1
  have h3 := flat_len (f := fun (i : Nat) => fig xs (hiOf xs - (i : Int))) (fun i => fig_len _ _) (List.range (hiOf xs - loOf xs + 1).toNat)
  rw [List.length_range] at h3
  have e : (noteS xs).length = (noteL xs).length := by
    show (noteL xs).toArray.size = _
    simp
  rw [e]
  unfold noteL
  unfold hiOf loOf at *
  omega
/-- -1, 0 or 1 as the first row is less, the same or greater -/
def spOrder (K : PySem.W.Frag) (c : Addr) : Sp := fun vs H Q E => ∃ (p q : Addr) (xs ys : List Int), vs = [.ref p, .ref q] ∧ SqL K H p (xs.map V.int) ∧ SqL K H q (ys.map V.int) ∧ (xs.length ≤ 1000 ∧ ys.length ≤ 1000) ∧
  (IsRow xs ∧ IsRow ys → ∀ H', Same H H' → Q (.int (lex xs ys)) H') ∧ (¬ (IsRow xs ∧ IsRow ys) → ∀ H', Same H H' → E (.ref c) none H')
def spSpoil18 : Sp := fun vs H Q _ => ∃ (p : Addr) (xs : List Int) (way c : Int), vs = [.ref p, .int way, .int c] ∧ H p = some (li xs) ∧ (IsRow xs ∧ xs.length ≤ 20 ∧ 1 ≤ way ∧ way ≤ 5) ∧
  ∀ r H', Same H H' → ∀ ys, H' r = some (li ys) → (¬ IsRow ys ∧ ys.length ≤ 1000) → Q (.ref r) H'
def Ok18 (which : Int) (xs ys : List Int) : Prop := IsRow xs ∧ (1 ≤ which ∧ which ≤ 3 → IsRow ys)
def spCalled (K : PySem.W.Frag) (c : Addr) : Sp := fun vs H Q E => ∃ (p q : Addr) (xs ys : List Int) (which : Int), vs = [.int which, .ref p, .ref q] ∧ SqL K H p (xs.map V.int) ∧ SqL K H q (ys.map V.int) ∧ (xs.length ≤ 1000 ∧ ys.length ≤ 1000 ∧ 0 ≤ which ∧ which ≤ 4) ∧
  (Ok18 which xs ys → ∀ H', Same H H' → Q .non H') ∧ (¬ Ok18 which xs ys → ∀ H', Same H H' → E (.ref c) none H')
def spTold18 (K : PySem.W.Frag) : Sp := fun vs H Q _ => ∃ (p q : Addr) (xs ys : List Int) (which : Int), vs = [.int which, .ref p, .ref q] ∧ SqL K H p (xs.map V.int) ∧ SqL K H q (ys.map V.int) ∧ (xs.length ≤ 1000 ∧ ys.length ≤ 1000 ∧ 0 ≤ which ∧ which ≤ 4) ∧
  (Ok18 which xs ys → ∀ H', Same H H' → Q (.int 0) H') ∧ (¬ Ok18 which xs ys → ∀ H', Same H H' → Q (.int 1) H')
def spRow18 (K : PySem.W.Frag) : Sp := fun vs H Q _ => ∃ (a : Addr) (ns : List Int) (f : Int), vs = [.ref a, .int f] ∧ SqL K H a (ns.map V.int) ∧ 0 ≤ f ∧
  ∀ r H', Same H H' → H r = none → ∀ xs, H' r = some (li xs) → (IsRow xs ∧ xs.length ≤ 20) → Q (.ref r) H'
theorem pick3 {H : Hp} {P : List Int → Prop} {c : Int} {p q r : Addr} {xs ys zs : List Int} (h1 : H p = some (li xs)) (h2 : H q = some (li ys)) (h3 : H r = some (li zs)) (p1 : P xs) (p2 : P ys) (p3 : P zs) : ∃ a ws, atI [V.ref p, V.ref q, V.ref r] (c % 3) = some (.ref a) ∧ H a = some (li ws) ∧ P ws := by
  have h : c % 3 = 0 ∨ c % 3 = 1 ∨ c % 3 = 2 := by omega
  rcases h with h | h | h <;> rw [h]
  · exact ⟨p, xs, at0, h1, p1⟩
  · exact ⟨q, ys, at1, h2, p2⟩
  · exact ⟨r, zs, at2, h3, p3⟩
theorem eqI_F {i j : Int} (h : i ≠ j) : decide (V.int i = V.int j) = false := decide_eq_false fun z => h (by injection z)
/-! squares -/
def sqN (a b : Int) : Nm := (a * a + b * b, 2 * a * b + b * b)
theorem sq_mul (a b : Int) : sqN a b = mul (a, b) (a, b) := by
  apply Prod.ext <;> simp only [sqN, mul] <;> grind
theorem sgn_val (a b : Int) : sgn a b = 1 ∨ sgn a b = 0 ∨ sgn a b = -1 := by
  unfold sgn
  generalize (if 0 < nrm a b then 2 * a + b else b) = g
  split
  · exact .inr (.inl rfl)
  · split
    · exact .inl rfl
    · exact .inr (.inr rfl)
theorem sq_sgn (x : Nm) : ¬ sgnN (mul x x) < 0 := by
  unfold sgnN mul
  have h := sgn_mul x.1 x.2 x.1 x.2
  dsimp only at h ⊢
  rw [h]
  rcases sgn_val x.1 x.2 with e | e | e <;> rw [e] <;> decide
theorem sgn_nn_add {x y : Nm} (hx : ¬ sgnN x < 0) (hy : ¬ sgnN y < 0) : ¬ sgnN (add x y) < 0 := by
  have nn : ∀ z : Nm, ¬ sgnN z < 0 → Le (0, 0) z := by
    intro z hz
    rcases lt_tri (0, 0) z with h | h | h
    · exact .inl h
    · exact .inr h
    · have := sgn_of_gt h
      rw [show z.1 - ((0 : Int), (0 : Int)).1 = z.1 by simp, show z.2 - ((0 : Int), (0 : Int)).2 = z.2 by simp] at this
      exact absurd (by unfold sgnN; rw [this]; decide) hz
  have h := (nn x hx).add (nn y hy)
  rw [add_zero] at h
  exact sgn_nn h
theorem sgn_nn_mul {x y : Nm} (hx : ¬ sgnN x < 0) (hy : ¬ sgnN y < 0) : ¬ sgnN (mul x y) < 0 := by
  have h := sgn_mul x.1 x.2 y.1 y.2
  unfold sgnN at hx hy ⊢
  simp only [mul]
  rw [h]
  rcases sgn_val x.1 x.2 with e | e | e
  · rw [e, Int.one_mul]; exact hy
  · rw [e, Int.zero_mul]; decide
  · rw [e] at hx; exact absurd (by decide) hx
/-- within n of nought -/
theorem mulI {x y : Int} {m n : Nat} (hx : x.natAbs ≤ m) (hy : y.natAbs ≤ n) : (x * y).natAbs ≤ m * n := by
  rw [Int.natAbs_mul]
  exact Nat.mul_le_mul hx hy
theorem sq_small {a b : Int} (ha : a.natAbs ≤ 300) (hb : b.natAbs ≤ 300) : (sqN a b).1.natAbs ≤ 270000 ∧ (sqN a b).2.natAbs ≤ 270000 := by
  have h1 := mulI ha ha
  have h2 := mulI hb hb
  have h3 := mulI ha hb
  have e : 2 * a * b = 2 * (a * b) := by rw [Int.mul_assoc]
  simp only [sqN]
  rw [e]
  generalize a * a = u at *
  generalize b * b = v at *
  generalize a * b = w at *
  omega
theorem sq_mid {x y : Nm} (h1 : x.1.natAbs ≤ 270000 ∧ x.2.natAbs ≤ 270000) (h2 : y.1.natAbs ≤ 270000 ∧ y.2.natAbs ≤ 270000) : Mid12 x ∧ Mid12 (add x y) ∧ Mid12 (mul x y) := by
  have m1 := mulI h1.1 h2.1
  have m2 := mulI h1.2 h2.2
  have m3 := mulI h1.1 h2.2
  have m4 := mulI h1.2 h2.1
  refine ⟨⟨by omega, by omega⟩, ⟨by simp only [add]; omega, by simp only [add]; omega⟩, ⟨?_, ?_⟩⟩ <;> simp only [mul] <;> omega
theorem small_bdN {x : Nm} (h : x.1.natAbs ≤ 270000 ∧ x.2.natAbs ≤ 270000) : BdN 20 x := ⟨by unfold Bd; omega, by unfold Bd; omega⟩
def spSq : Sp := fun vs H Q _ => ∃ a b : Int, vs = [.int a, .int b] ∧ (a.natAbs ≤ 300 ∧ b.natAbs ≤ 300) ∧ ∀ r H', Same H H' → H' r = some (tw (sqN a b)) → Q (.ref r) H'
theorem ord_sgn {xs ys : List Int} {x y : Nm} (hx : IsRow xs ∧ val xs = x) (hy : IsRow ys ∧ val ys = y) : lex xs ys = sgnN (sub x y) := by
  rw [← hx.2, ← hy.2]
  exact (lex_sgn xs ys hx.1.1 hy.1.1).symm
theorem row_clean {x : Nm} {xs ys : List Int} {R : Prop} (h : Gap xs ∧ val xs = x ∧ R) (h' : IsRow ys ∧ val ys = x) : xs = ys := val_inj h.1 h'.1.1 (h.2.1.trans h'.2.symm)
end L2

set_option Elab.async false
set_option linter.all false
set_option maxRecDepth 100000
/-! list comprehensions over ints: [elt for x in iter if ..] -/
namespace L2
open PySem PySem.Spec PyProof.Rows Gold
/-- in the block, at the item a: e comes to v, and nothing that is there changes -/
def QV (X : Cx) (sc : Scope) (cl : List (Str × Addr)) (x : Str) (s₁ : Shared) (e : Expr) (a : Int) (v : V) : Prop :=
  ∀ C t s₂ m₂ E', s₂.heap.Ns C m₂ → m₂ x = some (.int a t) → (∀ b o, s₁.heap.get? b = some o → s₂.heap.get? b = some o) →
    wpAny (model X.prog X.w) X.A (eval e (compEnvC sc cl C X.env)) (fun y s₃ => RelV v y ∧ Keeps s₂ s₃) E' s₂
def QT (X : Cx) (sc : Scope) (cl : List (Str × Addr)) (x : Str) (s₁ : Shared) (e : Expr) (a : Int) (b : Bool) : Prop :=
  ∀ C t s₂ m₂ E' wh, s₂.heap.Ns C m₂ → m₂ x = some (.int a t) → (∀ b o, s₁.heap.get? b = some o → s₂.heap.get? b = some o) →
    wpAny (model X.prog X.w) X.A (isTrue e (compEnvC sc cl C X.env) wh) (fun ok s₃ => ok = b ∧ Keeps s₂ s₃) E' s₂
def QTs (X : Cx) (sc : Scope) (cl : List (Str × Addr)) (x : Str) (s₁ : Shared) (ifs : List Expr) (a : Int) (b : Bool) : Prop :=
  ∀ C t s₂ m₂ E', s₂.heap.Ns C m₂ → m₂ x = some (.int a t) → (∀ b o, s₁.heap.get? b = some o → s₂.heap.get? b = some o) →
    wpAny (model X.prog X.w) X.A (forIn ifs true fun c r => if r = true then do let ok ← isTrue c (compEnvC sc cl C X.env) (eval c (compEnvC sc cl C X.env)); pure (ForInStep.yield ok) else pure (ForInStep.yield r)) (fun ok s₃ => ok = b ∧ Keeps s₂ s₃) E' s₂
theorem kpR (s : Shared) : Keeps s s := ⟨s.heap, s.toks, rfl, fun _ _ e => e⟩
theorem kpK (s : Shared) (t : Nat) : Keeps s { s with toks := t } := ⟨s.heap, t, rfl, fun _ _ e => e⟩
theorem kpT {s s1 s2 : Shared} (a : Keeps s s1) (b : Keeps s1 s2) : Keeps s s2 := by
  obtain ⟨h, t, rfl, k⟩ := a
  obtain ⟨h2, t2, rfl, k2⟩ := b
  exact ⟨h2, t2, rfl, fun b o e => k2 b o (k b o e)⟩
theorem kpH {s s1 : Shared} (a : Keeps s s1) : ∀ b o, s.heap.get? b = some o → s1.heap.get? b = some o := by
  obtain ⟨h, t, rfl, k⟩ := a
  exact k
section
variable {X : Cx} {sc : Scope} {cl : List (Str × Addr)} {x : Str} {s₁ : Shared} {a : Int} {e e' : Expr} {pos : Pos}
theorem ns_up {h h' : Heap} {C : Addr} {m : Str → Option Value} (hn : h.Ns C m) (k : ∀ b o, h.get? b = some o → h'.get? b = some o) : h'.Ns C m := hn.at' fun o e => k _ o e
theorem qts_nil : QTs X sc cl x s₁ [] a true := fun _ _ _ _ _ _ _ _ => wpAny_tests_nil ⟨rfl, kpR _⟩
theorem qts_one {b : Bool} (h : QT X sc cl x s₁ e a b) : QTs X sc cl x s₁ [e] a b := fun C t s₂ m₂ E' h1 h2 h3 => wpAny_tests_one (h C t s₂ m₂ E' _ h1 h2 h3)
/-- the item -/
theorem qv_item (hk : sc.kind = .function) (hx : sc.names.lookup x = some .local) (hd : (x == ("__debug__" : Str)) = false := by decide) : QV X sc cl x s₁ (.Name x pos) a (.int a) := fun C t s₂ m₂ E' h1 h2 h3 =>
  wpAny_Name (wpAny_loadName_local (by simp [compEnvC, relabel, hk]) (lookup_relabel_local hx) h1 h2 ⟨⟨t, rfl⟩, kpR _⟩) hd
/-- a name of the def around -/
theorem qv_cap {pins : List (Addr × Obj)} {σ : St} {H : Hp} {i : Nat} {n : Str} {v : V} {c : Addr} (I : Inv X pins σ H s₁) (hi : X.N[i]? = some n) (hσ : σ[i]? = some (some v)) (hkX : X.env.kindOf n = some .cell) (hk : sc.kind = .function)
    (hl : ∀ C, (compEnvC sc cl C X.env).kindOf n = some .cell) (hc : cl.lookup n = some c) (hcX : X.env.cells.lookup n = some c) (hd : (n == ("__debug__" : Str)) = false := by decide) : QV X sc cl x s₁ (.Name n pos) a v := fun C t s₂ m₂ E' h1 h2 h3 => by
  obtain ⟨m, hn, hl'⟩ := I.loc
  obtain ⟨u, r, q⟩ := hl' i n v hi hσ (.inr (.inl hkX))
  rcases q with ⟨k, _⟩ | ⟨_, c', e, z⟩
  · rw [hkX] at k; cases k
  · rw [hcX] at e; cases e
    obtain ⟨o, ho, hd'⟩ := z
    exact wpAny_Name (wpAny_loadName_cell (by simp [compEnvC, relabel, hk]) (hl C) hc ⟨o, h3 _ _ ho, hd'⟩ ⟨r, kpR _⟩) hd
theorem qv_int {i : Int} {j : Nat} : QV X sc cl x s₁ (.Constant (.int i) j pos) a (.int i) := fun C t s₂ m₂ E' h1 h2 h3 => wpAny_Constant_int ⟨⟨_, rfl⟩, kpK _ _⟩
theorem qv_str {i : Str} {j : Nat} : QV X sc cl x s₁ (.Constant (.str i) j pos) a (.str i) := fun C t s₂ m₂ E' h1 h2 h3 => Calls.Constant_str ⟨⟨_, rfl⟩, kpK _ _⟩
/-- two parts, then what is done with them -/
theorem qv_two {v v' : V} (h : QV X sc cl x s₁ e a v) (h' : QV X sc cl x s₁ e' a v') {f : Value → Value → Sem Value} {C : Addr} {t : Tok} {s₂ : Shared} {m₂ : Str → Option Value} {E' : Value → Shared → Prop} {Q : Value → Shared → Prop} (h1 : s₂.heap.Ns C m₂) (h2 : m₂ x = some (.int a t))
    (h3 : ∀ b o, s₁.heap.get? b = some o → s₂.heap.get? b = some o) (hf : ∀ u u' s', RelV v u → RelV v' u' → Keeps s₂ s' → wpAny (model X.prog X.w) X.A (f u u') Q E' s') :
    wpAny (model X.prog X.w) X.A (eval e (compEnvC sc cl C X.env)) (fun u s3 => wpAny (model X.prog X.w) X.A (eval e' (compEnvC sc cl C X.env)) (fun u' s4 => wpAny (model X.prog X.w) X.A (f u u') Q E' s4) E' s3) E' s₂ :=
  thn (h C t s₂ m₂ E' h1 h2 h3) fun u s3 ⟨r, k⟩ => thn (h' C t s3 m₂ E' (ns_up h1 (kpH k)) h2 fun b o q => kpH k b o (h3 b o q)) fun u' s4 ⟨r', k'⟩ => hf u u' s4 r r' (kpT k k')
theorem qv_add {i j : Int} (h : QV X sc cl x s₁ e a (.int i)) (h' : QV X sc cl x s₁ e' a (.int j)) : QV X sc cl x s₁ (.BinOp e .Add e' pos) a (.int (i + j)) := fun C t s₂ m₂ E' h1 h2 h3 =>
  wpAny_BinOp (qv_two h h' h1 h2 h3 fun u u' s' ⟨t1, r⟩ ⟨t2, r'⟩ k => by subst r r'; exact add_int ⟨⟨_, rfl⟩, kpT k (kpK _ _)⟩)
theorem qv_sub {i j : Int} (h : QV X sc cl x s₁ e a (.int i)) (h' : QV X sc cl x s₁ e' a (.int j)) : QV X sc cl x s₁ (.BinOp e .Sub e' pos) a (.int (i - j)) := fun C t s₂ m₂ E' h1 h2 h3 =>
  wpAny_BinOp (qv_two h h' h1 h2 h3 fun u u' s' ⟨t1, r⟩ ⟨t2, r'⟩ k => by subst r r'; exact sub_int ⟨⟨_, rfl⟩, kpT k (kpK _ _)⟩)
theorem qv_neg {i : Int} (h : QV X sc cl x s₁ e a (.int i)) : QV X sc cl x s₁ (.UnaryOp .USub e pos) a (.int (-i)) := fun C t s₂ m₂ E' h1 h2 h3 =>
  UnaryOp_ (thn (h C t s₂ m₂ E' h1 h2 h3) fun u s3 ⟨⟨t1, r⟩, k⟩ => by subst r; exact neg_int ⟨⟨_, rfl⟩, kpT k (kpK _ _)⟩)
theorem qt_lt {i j : Int} (h : QV X sc cl x s₁ e a (.int i)) (h' : QV X sc cl x s₁ e' a (.int j)) : QT X sc cl x s₁ (.Compare e [.Lt] [e'] pos) a (decide (i < j)) := fun C t s₂ m₂ E' wh h1 h2 h3 =>
  wpAny_isTrue_Compare1 (qv_two h h' h1 h2 h3 fun u u' s' ⟨t1, r⟩ ⟨t2, r'⟩ k => by subst r r'; exact lt_int (wpAny_truthy_bool ⟨rfl, k⟩)) (nomark _)
theorem qt_gt {i j : Int} (h : QV X sc cl x s₁ e a (.int i)) (h' : QV X sc cl x s₁ e' a (.int j)) : QT X sc cl x s₁ (.Compare e [.Gt] [e'] pos) a (decide (j < i)) := fun C t s₂ m₂ E' wh h1 h2 h3 =>
  wpAny_isTrue_Compare1 (qv_two h h' h1 h2 h3 fun u u' s' ⟨t1, r⟩ ⟨t2, r'⟩ k => by subst r r'; exact gt_int (wpAny_truthy_bool ⟨rfl, k⟩)) (nomark _)
theorem qt_eqI {i j : Int} (h : QV X sc cl x s₁ e a (.int i)) (h' : QV X sc cl x s₁ e' a (.int j)) : QT X sc cl x s₁ (.Compare e [.Eq] [e'] pos) a (i == j) := fun C t s₂ m₂ E' wh h1 h2 h3 =>
  wpAny_isTrue_Compare1 (qv_two h h' h1 h2 h3 fun u u' s' ⟨t1, r⟩ ⟨t2, r'⟩ k => by subst r r'; exact eq_int (wpAny_truthy_bool ⟨rfl, k⟩)) (nomark _)
theorem qt_eqS {i j : Str} (h : QV X sc cl x s₁ e a (.str i)) (h' : QV X sc cl x s₁ e' a (.str j)) : QT X sc cl x s₁ (.Compare e [.Eq] [e'] pos) a (i == j) := fun C t s₂ m₂ E' wh h1 h2 h3 =>
  wpAny_isTrue_Compare1 (qv_two h h' h1 h2 h3 fun u u' s' ⟨t1, r⟩ ⟨t2, r'⟩ k => by subst r r'; exact eq_str (wpAny_truthy_bool ⟨rfl, k⟩)) (nomark _)
theorem qt_or {b b' : Bool} {rest : List Expr} (h : QT X sc cl x s₁ e a b) (h' : b = false → QT X sc cl x s₁ (.BoolOp .Or (e' :: rest) pos) a b') : QT X sc cl x s₁ (.BoolOp .Or (e :: e' :: rest) pos) a (b || b') := fun C t s₂ m₂ E' wh h1 h2 h3 => by
  refine isTrue_or (thn (h C t s₂ m₂ E' _ h1 h2 h3) fun c s3 ⟨r, k⟩ => ?_)
  subst r
  cases c with
  | true => exact ⟨rfl, k⟩
  | false => exact thn (h' rfl C t s3 m₂ E' wh (ns_up h1 (kpH k)) h2 fun b o q => kpH k b o (h3 b o q)) fun c s4 ⟨r, k'⟩ => ⟨by simpa using r, kpT k k'⟩
theorem qt_or1 {b : Bool} (h : QT X sc cl x s₁ e a b) : QT X sc cl x s₁ (.BoolOp .Or [e] pos) a b := fun C t s₂ m₂ E' wh h1 h2 h3 => by
  refine isTrue_or (thn (h C t s₂ m₂ E' _ h1 h2 h3) fun c s3 ⟨r, k⟩ => ?_)
  subst r
  cases c with
  | true => exact ⟨rfl, k⟩
  | false => exact isTrue_or_nil ⟨rfl, k⟩
end
section
variable {X : Cx} {sc : Scope} {cl : List (Str × Addr)} {x : Str} {s₁ : Shared} {a : Int} {e e' : Expr} {pos p : Pos} {pins : List (Addr × Obj)} {σ : St} {H : Hp}
theorem PlainL.up {h h' : Heap} {l : Addr} {its : Array Value} (pl : PlainL h l its) (k : ∀ b o, h.get? b = some o → h'.get? b = some o) : PlainL h' l its := by
  obtain ⟨o, n, e, r⟩ := pl
  exact ⟨o, n, k _ _ e, r⟩
theorem qv_ix {xs : List V} {l : Addr} {i : Int} {v : V} (I : Inv X pins σ H s₁) (hq : SqL X.K H l xs) (he : atI xs i = some v) (h : QV X sc cl x s₁ e a (.ref l)) (h' : QV X sc cl x s₁ e' a (.int i)) (hs : PlainIx e') : QV X sc cl x s₁ (.Subscript e e' pos) a v := fun C t s₂ m₂ E' g1 g2 g3 => by
  refine Subscript_ (qv_two (f := subscriptTail e e') h h' g1 g2 g3 fun u u' s' r ⟨t2, r'⟩ k => ?_)
  cases r
  subst r'
  obtain ⟨its, r, pl0, hz⟩ := I.list hq
  have pl := PlainL.up pl0 fun b o q => kpH k b o (g3 b o q)
  obtain ⟨j, h1, h2, h3, h4, h5⟩ := atI_get he
  obtain ⟨w, ew, rw'⟩ := r.get h2
  have hl := r.length
  have hn := line63
  have fin : RelV v w ∧ Keeps s₂ s' := ⟨rw', k⟩
  by_cases h0 : 0 ≤ i
  · have hj : i.toNat = j := by
      rw [seqIndex_of h0 h5] at h1
      exact Option.some.inj h1
    exact item_listR pl.isList h0 (by omega) (by rw [hj]; simpa using ew) fin (hs _ _)
  · have hj : (i + (its.toArray.size : Int)).toNat = j := by
      rw [seqIndex_neg (by omega) h4] at h1
      rw [List.size_toArray, ← hl]
      exact Option.some.inj h1
    exact subscriptTail_builtinR (x := w) pl.isList.typeIs slot_list_getitem.lookup
      (wpAny_getItem_list_neg (Q := fun r s' => r = w ∧ (RelV v r ∧ Keeps s₂ s')) pl.isList (by omega) (by rw [List.size_toArray] <;> omega) (by omega) (by rw [hj]; simpa using ew) ⟨rfl, fin⟩) (hs _ _)
/-- a built-in name in the block -/
theorem qv_blt {C : Addr} {n : Str} {u : Value} {Q : Value → Shared → Prop} {E' : Value → Shared → Prop} {s₂ : Shared} (I : Inv X pins σ H s₁) (hk : sc.kind = .function) (hg : (compEnvC sc cl C X.env).kindOf n = some .globalImplicit) (hm : X.mg n = none) (hv : bootBuiltins n = some u)
    (g3 : ∀ b o, s₁.heap.get? b = some o → s₂.heap.get? b = some o) (h : Q u s₂) (hn : n ≠ "__name__" := by decide) (hd : (n == ("__debug__" : Str)) = false := by decide) : wpAny (model X.prog X.w) X.A (eval (.Name n pos) (compEnvC sc cl C X.env)) Q E' s₂ := by
  obtain ⟨mb, h1, h2⟩ := I.mod.blt
  have up : ∀ b o, X.base.get? b = some o → s₂.heap.get? b = some o := fun b o q => g3 b o (I.bk b o q)
  exact Calls.Name_function_global (by simp [compEnvC, relabel, hk]) hg (Calls.loadGlobal_builtin (by show s₂.heap.Ns X.env.globals _; rw [I.ok.glob]; exact I.mod.glob.keeps up) hm (by show s₂.heap.Ns X.env.builtins _; rw [I.ok.blt]; exact h1.keeps up) ((h2 n hn).trans hv) h) hd
theorem qv_call1 {id : String} {n : Str} {v v' : V} (I : Inv X pins σ H s₁) (hk : sc.kind = .function) (hg : ∀ C, (compEnvC sc cl C X.env).kindOf n = some .globalImplicit) (hm : X.mg n = none) (hv : bootBuiltins n = some (.builtin id)) (h : QV X sc cl x s₁ e a v)
    (hc : ∀ u s' (E' : Value → Shared → Prop) (Q : Value → Shared → Prop), RelV v u → (∀ b o, s₁.heap.get? b = some o → s'.heap.get? b = some o) → (∀ y s'', RelV v' y → Keeps s' s'' → Q y s'') → wpAny (model X.prog X.w) X.A (call (.builtin id) [u]) Q E' s')
    (hs : ∀ C, starEach [e] (compEnvC sc cl C X.env) = [(false, eval e (compEnvC sc cl C X.env))] := by intro _; rfl) (hn : n ≠ "__name__" := by decide) (hd : (n == ("__debug__" : Str)) = false := by decide) : QV X sc cl x s₁ (.Call (.Name n p) [e] [] pos) a v' := fun C t s₂ m₂ E' g1 g2 g3 => by
  refine wpAny_Call_Name_kw (qv_blt I hk (hg C) hm hv g3 ?_ hn hd)
  refine PyProof.Rows.callWith_builtin1 ?_ (hs C) rfl
  rw [hs C]
  show wpAny _ _ (spliced ((false, eval e (compEnvC sc cl C X.env)) :: backTo pos [])) _ _ s₂
  refine Calls.spliced_cons (thn (h C t s₂ m₂ E' g1 g2 g3) fun u s3 ⟨r, k⟩ => Calls.spliced_nil ?_)
  exact hc u s3 E' _ r (fun b o q => kpH k b o (g3 b o q)) fun y s4 r' k' => ⟨r', kpT k k'⟩
theorem qv_len {xs : List V} {l : Addr} (I : Inv X pins σ H s₁) (hk : sc.kind = .function) (hg : ∀ C, (compEnvC sc cl C X.env).kindOf "len" = some .globalImplicit) (hm : X.mg "len" = none) (hq : SqL X.K H l xs) (h : QV X sc cl x s₁ e a (.ref l))
    (hs : ∀ C, starEach [e] (compEnvC sc cl C X.env) = [(false, eval e (compEnvC sc cl C X.env))] := by intro _; rfl) : QV X sc cl x s₁ (.Call (.Name "len" p) [e] [] pos) a (.int xs.length) := by
  refine qv_call1 I hk hg hm PySem.boot_len h (fun u s' E' Q r up q => ?_) hs
  cases r
  obtain ⟨its, r', pl0, hz⟩ := I.list hq
  have pl := PlainL.up pl0 up
  have hlen := r'.length
  have hn := line63
  exact Calls.call_len_list pl.isList (by simp only [List.size_toArray] <;> omega) (q _ _ ⟨s'.toks + 1, by rw [List.size_toArray, hlen]⟩ (kpK _ _))
end
/-! ### the comprehension -/
def pv' (p : Int → Bool) : Value → Bool
  | .int a _ => p a
  | _ => false
def Fv (f : Int → Int) (v y : Value) : Prop := ∃ a t u, v = Value.int a t ∧ y = Value.int (f a) u
theorem pair_vals {p : Int → Bool} {f : Int → Int} : ∀ {js : List Int} {vs ys : List Value}, Vals (js.map V.int) vs → Paired (Fv f) (vs.filter (pv' p)) ys → Vals (((js.filter p).map f).map V.int) ys
  | [], vs, ys, h, h2 => by
    cases h
    cases h2
    exact .nil
  | j :: js, vs, ys, h, h2 => by
    cases h with
    | cons r rest =>
      obtain ⟨t, rfl⟩ := r
      cases q : p j with
      | false =>
        rw [List.filter_cons_of_neg (by show ¬ p j = true; rw [q]; decide)] at h2
        rw [List.filter_cons_of_neg (by rw [q]; decide)]
        exact pair_vals rest h2
      | true =>
        rw [List.filter_cons_of_pos (p := pv' p) (show pv' p (Value.int j t) = true from q)] at h2
        rw [List.filter_cons_of_pos q]
        cases h2 with
        | cons r2 rest2 =>
          obtain ⟨a, t', u, e1, e2⟩ := r2
          cases e1
          exact .cons ⟨u, e2⟩ (pair_vals rest rest2)
section
variable {X : Cx} {sc : Scope} {cl : List (Str × Addr)} {x : Str} {elt iter : Expr} {ifs : List Expr} {pos px : Pos} {pins : List (Addr × Obj)} {σ : St} {H : Hp} {s₁ s₂ : Shared} {js : List Int} {p : Int → Bool} {f : Int → Int} {fp wr : List Addr} {P : Nat → Value → Prop}
theorem quiet_of (up : ∀ s₃ : Shared, (∀ b o, b ∉ wr → s₂.heap.get? b = some o → s₃.heap.get? b = some o) → ∀ b o, s₁.heap.get? b = some o → s₃.heap.get? b = some o) (hP : ∀ i v, P i v → ∃ j ∈ js, ∃ t, v = Value.int j t)
    (hq : ∀ j ∈ js, QTs X sc cl x s₁ ifs j (p j) ∧ (p j = true → QV X sc cl x s₁ elt j (.int (f j)))) : QuietOnC X.prog X.w X.A X.env sc cl x ifs elt wr P (pv' p) (Fv f) s₂ := by
  refine ⟨fun C i v s₃ m₃ E' _ hv hn hm hk _ => ?_, fun C i v s₃ m₃ E' _ hv hpv hn hm hk _ => ?_⟩
  · obtain ⟨j, hj, t, rfl⟩ := hP i v hv
    exact (hq j hj).1 C t s₃ m₃ E' hn hm (up s₃ hk)
  · obtain ⟨j, hj, t, rfl⟩ := hP i v hv
    exact thn ((hq j hj).2 hpv C t s₃ m₃ E' hn hm (up s₃ hk)) fun y s₄ ⟨⟨u, r⟩, k⟩ => ⟨⟨j, t, u, rfl, r⟩, k⟩
/-- what the reading of a comprehension over js asks -/
def tBlock (X : Cx) (sc : Scope) (cl : List (Str × Addr)) (x : Str) (ifs : List Expr) (elt : Expr) (p : Int → Bool) (f : Int → Int) (σ : St) (K : Addr → Hp → Prop) : List Int → Hp → Prop := fun js H1 =>
  js.length ≤ sizeLine ∧ (∀ pins s₁, Inv X pins σ H1 s₁ → ∀ j ∈ js, QTs X sc cl x s₁ ifs j (p j) ∧ (p j = true → QV X sc cl x s₁ elt j (.int (f j)))) ∧
    ∀ D H2, Same H1 H2 → H1 D = none → H2 D = some (li ((js.filter p).map f)) → K D H2
/-- a walk's source: the ints that it gives -/
abbrev TX := St → Hp → (List Int → Hp → Prop) → Prop
def PX (X : Cx) (iter : Expr) (t : TX) : Prop := ∀ (pins : List (Addr × Obj)) (s : Shared) (σ : St) (H : Hp) (R : List Int → Hp → Prop), Inv X pins σ H s → t σ H R →
  wpAny (model X.prog X.w) X.A (eval iter X.env) (fun xv s₁ => wpAny (model X.prog X.w) X.A (pyIter xv) (fun it s₂ => ∃ Ia fp wr n P St js H1 h2, it = .ref Ia ∧ Walks X.prog X.w X.A Ia fp wr n P St ∧ js.length = n ∧ St 0 s₂.heap ∧ (∀ b ∈ fp, b < s₂.heap.objs.size) ∧
    (∀ (i : Nat) v, P i v → ∃ j t, js[i]? = some j ∧ v = Value.int j t) ∧ Inv X pins σ H1 s₁ ∧ (∀ b o, s₁.heap.get? b = some o → b ∉ wr ∧ s₂.heap.get? b = some o) ∧ s₂ = { s₁ with heap := h2 } ∧ R js H1) X.xe s₁) X.xe s
theorem not_new {h : Heap} {b : Addr} {o : Obj} (e : h.get? b = some o) : b ∉ [h.objs.size] := fun z => by
  have e2 : b = h.objs.size := by simpa using z
  rw [e2] at e
  exact Nat.lt_irrefl _ (Heap.lt_size e)
theorem px_list {tl : TE} (hl : PE X iter tl) (hc : X.calm = true) : PX X iter (fun σ H R => tl σ H fun v H1 => ∃ (l : Addr) (js : List Int), v = .ref l ∧ SqL X.K H1 l (js.map V.int) ∧ R js H1) := by
  intro pins s σ H R I h
  refine thn (hl pins s σ H _ I h) fun xv s₁ ⟨v, H1, I1, r1, l, js, e, hS, hR⟩ => ?_
  subst e
  cases r1
  obtain ⟨its, r, pl, hz⟩ := I1.list hS
  have hlen := r.length
  rw [List.length_map] at hlen
  obtain ⟨o, n, eo, _⟩ := id pl
  have hlt : l < s₁.heap.objs.size := Heap.lt_size eo
  refine wpAny_pyIter_list pl.isList ⟨s₁.heap.objs.size, [s₁.heap.objs.size, l], [s₁.heap.objs.size], its.toArray.size, _, _, js, H1, _, rfl, Walks.list (I1.ok.hd hc) _ _ (Nat.ne_of_lt hlt) its.toArray, by simp [hlen], ⟨⟨_, Heap.get?_push_size _ rfl, rfl, rfl⟩, pl.isList.push _⟩, ?_, ?_, I1, fun b o e => ⟨not_new e, Heap.get?_push_of_some _ e⟩, rfl, hR⟩
  · intro b hb
    show b < (s₁.heap.push _).objs.size
    rw [Heap.size_push]
    simp only [List.mem_cons, List.mem_nil_iff, or_false] at hb
    rcases hb with rfl | rfl
    · exact Nat.lt_succ_self _
    · exact Nat.lt_succ_of_lt hlt
  · intro i v hv
    have hv' : its[i]? = some v := by simpa using hv
    have hi : i < js.length := by
      have := (List.getElem?_eq_some_iff.mp hv').1
      omega
    have hx : (js.map V.int)[i]? = some (.int js[i]) := by rw [List.getElem?_map, List.getElem?_eq_getElem hi]; rfl
    obtain ⟨u, hu, t, e⟩ := r.get hx
    rw [hv'] at hu
    cases hu
    exact ⟨js[i], t, List.getElem?_eq_getElem hi, e⟩
/-- 0, 1, .. -/
def upto (n : Nat) : List Int := (List.range n).map fun (i : Nat) => (i : Int)
theorem upto_get {n i : Nat} (h : i < n) : (upto n)[i]? = some (i : Int) := by
  unfold upto
  rw [List.getElem?_map, List.getElem?_range h]; rfl
theorem px_range {a : Expr} {ta : TA} {p : Pos} (hg : Gl X "range") (hm : X.mg "range" = none) (ha : PA X [a] ta) (hc : X.calm = true) (hs : starEach [a] X.env = [(false, eval a X.env)] := by rfl) :
    PX X (.Call (.Name "range" p) [a] [] pos) (fun σ H R => ta σ H fun vs H1 => ∃ j : Int, vs = [.int j] ∧ -(2 ^ 62) ≤ j ∧ j < 2 ^ 62 ∧ R (upto j.toNat) H1) := by
  intro pins s σ H R I h
  refine Call_ (ld_blt I hg hm boot_range (PyProof.Rows.callWith_type1 (thn (ha pos pins s σ H _ I h) fun us s1 ⟨vs, H1, I1, r1, q1⟩ => ?_) hs rfl))
  obtain ⟨j, e, q1, q2, q⟩ := q1
  subst e
  cases r1 with
  | cons r rr =>
    cases rr
    obtain ⟨t, rfl⟩ := r
    refine call_range_1 (wpAny_pyIter_range (IsRange.new ..) (small_one (by omega) (by omega) q1 q2) ?_)
    have hsz : Builtin.Range.rangeSize 0 j 1 = ((j.toNat : Nat) : Int) := by rw [rangeSize_one]; split <;> omega
    refine ⟨_, [_], [_], j.toNat, _, _, upto j.toNat, H1, _, rfl, (Walks.range (I1.ok.hd hc) _ 0 1 j.toNat).bound, by simp [upto], ?_, ?_, ?_, I1.kept (fun b o e => Heap.get?_push_of_some _ e), fun b o e => ⟨not_new e, Heap.get?_push_of_some _ e⟩, rfl, q⟩
    · show IsRangeIter _ _ (0 + ((0 : Nat) : Int) * 1) (((j.toNat : Nat) : Int) - ((0 : Nat) : Int)) 1
      rw [show (0 : Int) + ((0 : Nat) : Int) * 1 = 0 by simp, show ((j.toNat : Nat) : Int) - ((0 : Nat) : Int) = Builtin.Range.rangeSize 0 j 1 by rw [hsz]; simp]
      exact Heap.get?_push_size _ rfl
    · intro b hb
      rw [List.mem_singleton] at hb
      rw [hb]
      simp only [Heap.size_push]
      exact Nat.lt_succ_self _
    · rintro i v ⟨hi, t', rfl⟩
      exact ⟨(i : Int), t', upto_get hi, by simp⟩
theorem hok_none {P : Program} {w : World} {H : Hp} {h : Heap} {x : Addr} (ok : HOk P w H h) (hnew : h.get? x = none) : H x = none := by
  cases q : H x with
  | none => rfl
  | some u =>
    have z := ok x u q
    exfalso
    obtain ⟨o, ho⟩ : ∃ o, h.get? x = some o := by
      induction u with
      | lst xs => obtain ⟨_, _, _, _, e⟩ := z; exact ⟨_, e⟩
      | tup xs => obtain ⟨_, _, _, o, e, _⟩ := z; exact ⟨_, e⟩
      | dK kvs => obtain ⟨_, _, _, _, o, _, _, e, _⟩ := z; exact ⟨_, e⟩
      | dT kvs => obtain ⟨_, _, _, _, o, _, _, e, _⟩ := z; exact ⟨_, e⟩
      | set S n => obtain ⟨o, _, _, _, e, _⟩ := z; exact ⟨_, e⟩
      | ins C dx fs => obtain ⟨_, _, _, e, _⟩ := z; exact ⟨_, e⟩
      | own y => exact z
      | xd fs => obtain ⟨_, ⟨_, _, _, e, _⟩, _⟩ := z; exact ⟨_, e⟩
      | met f y => exact ⟨_, z⟩
      | rng lo hi => obtain ⟨_, _, _, e⟩ := z; exact ⟨_, e⟩
      | frz o u ih => exact ⟨_, z.1⟩
      | tbl ps => exact ⟨_, z⟩
      | ext φ => exact z.2.1
    rw [ho] at hnew
    cases hnew
theorem Inv.laid' {a : Addr} {o : HO} {t' : Nat} {h' : Heap} {s : Shared} (I : Inv X pins σ H s) (k : ∀ b u, s.heap.get? b = some u → h'.get? b = some u) (hp : s.heap.get? a = none) (new : ObjOk X.prog X.w (upd H a o) h' a o) :
    Inv X pins σ (upd H a o) { s with heap := h', toks := t' } := by
  have hn := hok_none I.hok hp
  have ne : ∀ b u, s.heap.get? b = some u → b ≠ a := fun b u q z => by rw [z, hp] at q; cases q
  refine I.un ⟨fun b u q _ _ _ => k b u q, fun b u q _ _ _ => ⟨u.slots, k b u q⟩, fun b u q n _ => by rw [upd_ne (ne b u q)]; exact n, fun b u q _ => ⟨u, k b u q⟩, fun b xs q => by rw [upd_ne (ne_of_none q hn)]; exact q,
    fun b u xs q => by rw [upd_ne (ne_of_none q hn)]; exact q, fun b ps q => ⟨#[], by rw [upd_ne (ne_of_none q hn), q]; simp⟩⟩ fun b u e => ?_
  by_cases hb : b = a
  · subst hb; rw [upd_same] at e; cases e; exact new
  · rw [upd_ne hb] at e
    exact (I.hok b u e).stay (fun c v _ q => k c v q) (fun c q => by rw [upd_ne (ne_of_none q hn)]; exact q) fun c xs q => by rw [upd_ne (ne_of_none q hn)]; exact q
/-- the new list is laid -/
theorem laid_comp {h' : Heap} {tk : Nat} {D : Addr} {ys : Array Value} {vs : List Value} (I : Inv X pins σ H s₁) (keep : ∀ b o, s₁.heap.get? b = some o → h'.get? b = some o) (hD : s₁.heap.get? D = none) (pl : h'.PlainList D ys) (hz : js.length ≤ sizeLine)
    (r : Vals (js.map V.int) vs) (hF : Paired (Fv f) (vs.filter (pv' p)) ys.toList) : Inv X pins σ (upd H D (li ((js.filter p).map f))) { s₁ with heap := h', toks := tk } := by
  obtain ⟨n, e⟩ := pl
  refine Inv.laid' I keep hD ⟨?_, ys.toList, n, pair_vals r hF, by simpa using e⟩
  rw [List.length_map, List.length_map]
  exact Nat.le_trans (List.length_filter_le ..) hz
theorem vals_of {n : Nat} {P : Nat → Value → Prop} (hP : ∀ (i : Nat) v, P i v → ∃ j t, js[i]? = some j ∧ v = Value.int j t) (hn : js.length = n) {vs : List Value} (hlen : vs.length = n) (h : ∀ j v, vs[j]? = some v → P j v) : Vals (js.map V.int) vs := by
  have aux : ∀ (vs : List Value) (js : List Int), js.length = vs.length → (∀ (i : Nat) v, vs[i]? = some v → ∃ j t, js[i]? = some j ∧ v = Value.int j t) → Vals (js.map V.int) vs := by
    intro vs
    induction vs with
    | nil =>
      intro js hl _
      have e : js = [] := List.length_eq_zero_iff.mp hl
      subst e
      exact .nil
    | cons v r ih =>
      intro js hl hh
      cases js with
      | nil => simp at hl
      | cons j js =>
        obtain ⟨j', t, e1, e2⟩ := hh 0 v rfl
        have e3 : j = j' := by simpa using e1
        subst e3
        refine .cons ⟨t, e2⟩ (ih js (by simpa using hl) fun i w hw => ?_)
        obtain ⟨j2, t2, e4, e5⟩ := hh (i + 1) w (by simpa using hw)
        exact ⟨j2, t2, by simpa using e4, e5⟩
  exact aux vs js (by omega) fun i v hv => hP i v (h i v hv)
theorem pe_comp {t : TX} (hi : PX X iter t) (hclos : closureFor sc X.env = pure cl) (hcell : ∀ y ∈ sc.names, y.2 ≠ .cell) (hkind : sc.kind = .function) (hnames : ∀ y ∈ sc.names, y.2 = .local → sc.names.lookup y.1 = some .local) (hx : sc.names.lookup x = some .local)
    (hs : ∀ v, foldedSetIterable iter X.env v = pure v := by intro _; rfl) :
    PE X (.ListComp elt [⟨.Name x px, iter, ifs, 0⟩] sc pos) (fun σ H Q => ∃ p f, t σ H (tBlock X sc cl x ifs elt p f σ fun D H2 => Q (.ref D) H2)) := by
  intro pins s σ H Q I h
  obtain ⟨p, f, h⟩ := h
  refine wpAny_ListComp_free (pv' p) (Fv f) hclos hcell hkind hnames hx (thn (hi pins s σ H _ I h) fun xv s₁ q => thn q fun it s₂ q => ?_) hs
  obtain ⟨Ia, fp, wr, n, P, St, js, H1, h2, rfl, W, hn, st, hfp, hP, I1, up, rfl, hz, hq, hK⟩ := q
  refine ⟨Ia, fp, wr, n, P, St, rfl, W, by omega, st, hfp, quiet_of (fun s₃ hk b o e => hk b o (up b o e).1 (up b o e).2) (fun i v hv => ?_) (hq pins s₁ I1), fun D h' tk ys vs hD hl hpl hlen hPs hF hk => ?_⟩
  · obtain ⟨j, t, e1, e2⟩ := hP i v hv
    exact ⟨j, List.mem_of_getElem? e1, t, e2⟩
  · have keep : ∀ b o, s₁.heap.get? b = some o → h'.get? b = some o := fun b o e => hk b o (up b o e).1 (up b o e).2
    have hD1 : s₁.heap.get? D = none := by
      cases e : s₁.heap.get? D with
      | none => rfl
      | some o => have := (up D o e).2; rw [hD] at this; cases this
    exact ⟨.ref D, _, (laid_comp I1 keep hD1 hpl hz (vals_of hP hn hlen hPs) hF : Inv X pins σ _ { s₁ with heap := h', toks := tk }), rfl, hK D _ (same_new (hok_none I1.hok hD1) _) (hok_none I1.hok hD1) upd_same⟩
/-- a frame that was made on the way goes -/
theorem Inv.drops {C : Addr} {h' : Heap} {t' : Nat} {s : Shared} (I : Inv X pins σ H s) (k : ∀ b o, b ≠ C → s.heap.get? b = some o → h'.get? b = some o) (hn : H C = none) (hL : C ≠ X.env.locals) (h0 : X.s₀.heap.get? C = none) (h2 : ∀ x c, X.env.cells.lookup x = some c → c ≠ C)
    (h3 : ∀ p ∈ X.pn ++ pins, p.1 ≠ C) : Inv X pins σ H { s with heap := h', toks := t' } := by
  have ne0 : ∀ b o, X.s₀.heap.get? b = some o → b ≠ C := fun b o e z => by rw [z, h0] at e; cases e
  have cellK : ∀ y c v, X.env.cells.lookup y = some c → s.heap.IsCell c v → h'.IsCell c v := fun y c v e ⟨o, ho, hd⟩ => ⟨o, k c o (h2 y c e) ho, hd⟩
  refine ⟨I.ok, I.os, I.bare, ⟨fun b o e n hb hx => k b o (ne0 b o e) (I.base.keep b o e n hb hx), fun b o e n hb hx => ?_, I.base.free, fun b o e hx => ?_, I.base.tups, I.base.frzs, I.base.tbls⟩, ?_, fun y c e => ?_, I.free, I.freeC, fun p hp => ?_, fun b u e => ?_, I.len⟩
  · obtain ⟨sl, e1⟩ := I.base.slot b o e n hb hx
    exact ⟨sl, k b _ (ne0 b o e) e1⟩
  · obtain ⟨o', e1⟩ := I.base.there b o e hx
    exact ⟨o', k b o' (ne0 b o e) e1⟩
  · obtain ⟨m, ⟨o, es, ep, ho, r⟩, hl⟩ := I.loc
    refine ⟨m, ⟨o, es, ep, k _ o (Ne.symm hL) ho, r⟩, fun i y v e1 e2 e3 => ?_⟩
    obtain ⟨u, r', q⟩ := hl i y v e1 e2 e3
    refine ⟨u, r', ?_⟩
    rcases q with q | ⟨q, c, e, z⟩
    · exact .inl q
    · exact .inr ⟨q, c, e, cellK y c _ e z⟩
  · obtain ⟨v, z⟩ := I.cell y c e
    exact ⟨v, cellK y c v e z⟩
  · obtain ⟨e, r⟩ := I.pin p hp
    exact ⟨k _ _ (h3 p hp) e, r⟩
  · refine (I.hok b u e).stay (fun c v hc q => k c v (fun z => ?_) q) (fun _ q => q) fun _ _ q => q
    rcases hc with hc | hc
    · rw [← hc, z, hn] at e; cases e
    · rw [z, hn] at hc; cases hc
/-- y = [..]: the list is stored within the block -/
theorem ps_setComp {t : TX} {i : Nat} {y : Str} {py spos : Pos} (hi : PX X iter t) (hN : X.N.Nodup) (hiy : X.N[i]? = some y) (hsw : swapsWith (.ListComp elt [⟨.Name x px, iter, ifs, 0⟩] sc pos) (some (.Name y py)) spos.line X.env = pure true) (hclos : closureFor sc X.env = pure cl)
    (hcell : ∀ y ∈ sc.names, y.2 ≠ .cell) (hkind : sc.kind = .function) (hnames : ∀ y ∈ sc.names, y.2 = .local → sc.names.lookup y.1 = some .local) (hx : sc.names.lookup x = some .local) (hex : X.ex = []) (hlo : X.env.scope.names.lookup y = some .local)
    (hs : ∀ v, foldedSetIterable iter X.env v = pure v := by intro _; rfl) :
    PS X (.Assign [.Name y py] (.ListComp elt [⟨.Name x px, iter, ifs, 0⟩] sc pos) spos) (fun D σ H => ∃ p f, t σ H (tBlock X sc cl x ifs elt p f σ fun l H2 => D.nx (σ.set i (some (.ref l))) H2)) := by
  intro pins s σ H D I h
  obtain ⟨p, f, h⟩ := h
  rw [exec_Assign_Name_used _ _ _ _ hsw]
  refine wpAny_bind (wpAny_standAt (wpAny_bind ?_))
  show wpAny _ X.A (do let _ ← comprehension (.ListComp elt [⟨.Name x px, iter, ifs, 0⟩] sc pos) sc X.env _ (newList []) false (eval iter X.env) (some (assign (.Name y py) X.env))) _ _ s
  refine wpAny_bind (thn (wpAny_comprehension_free (use := some (assign (.Name y py) X.env)) (Q := fun _ s' => SP X pins D .next s') rfl hs hclos hkind hnames (thn (hi pins s σ H _ I h) fun xv s₁ q => thn q fun it s₂ q => ?_)) fun _ s' hq => wpAny_pure (wpAny_pure hq))
  obtain ⟨Ia, fp, wr, n, P, St, js, H1, h2, rfl, W, hn, st, hfp, hP, I1, up, rfl, hz, hq, hK⟩ := q
  refine comp_block_walkC (RR := fun acc C => compPost (model X.prog X.w) X.A X.xe (some (assign (.Name y py) X.env)) (fun _ s' => SP X pins D .next s') acc C) W (by omega) (pv' p) (Fv f) hcell hkind hx st hfp (quiet_of (fun s₃ hk b o e => hk b o (up b o e).1 (up b o e).2) (fun i v hv => ?_) (hq pins s₁ I1)) ?_
  · obtain ⟨j, t, e1, e2⟩ := hP i v hv
    exact ⟨j, List.mem_of_getElem? e1, t, e2⟩
  intro L C h' tk m' ys vs hD hC hDC hnC hlD hplD hlen hPs hF hk
  have keep : ∀ b o, s₁.heap.get? b = some o → h'.get? b = some o := fun b o e => hk b o (up b o e).1 (up b o e).2
  have none1 : ∀ {b}, ({ s₁ with heap := h2 } : Shared).heap.get? b = none → s₁.heap.get? b = none := fun {b} e => by
    cases q : s₁.heap.get? b with
    | none => rfl
    | some o => have := (up b o q).2; rw [e] at this; cases this
  have hD1 := none1 hD
  have hC1 := none1 hC
  have nl := hok_none I1.hok hD1
  have nC := hok_none I1.hok hC1
  have I2 : Inv X pins σ _ { s₁ with heap := h', toks := tk } := laid_comp I1 keep hD1 hplD hz (vals_of hP hn hlen hPs) hF
  have CL : C ≠ X.env.locals := fun z => by
    obtain ⟨m, ⟨o, _, _, ho, _⟩, _⟩ := I1.loc
    rw [← z, hC1] at ho; cases ho
  have Cc : ∀ x c, X.env.cells.lookup x = some c → c ≠ C := fun x c e z => by
    obtain ⟨v, o, ho, _⟩ := I1.cell x c e
    rw [z, hC1] at ho; cases ho
  show wpAny _ X.A (assign (.Name y py) X.env (.ref L)) _ _ _
  refine wpAny_assign_Name (store_ok2 (v := .ref L) I2 hN hiy (.inl hlo) rfl (fun s' I3 hsb => ?_) (.inr hlo))
  obtain ⟨a, sb, ha⟩ := hsb
  have aC : C ≠ a := fun z => by
    rcases ha with rfl | ha
    · exact CL z
    · exact Cc _ _ ha z.symm
  refine ⟨m', hnC.at' fun o e => (sb.2 C aC).trans e, fun h'' sb' => ?_⟩
  refine ⟨_, _, Inv.drops (t' := s'.toks) I3 (fun b o hb e => (sb'.2 b hb).trans e) ?_ CL ?_ Cc fun q hq z => ?_, hK L _ (same_new nl _) nl upd_same⟩
  · rw [upd_ne (Ne.symm hDC)]; exact nC
  · cases q : X.s₀.heap.get? C with
    | none => rfl
    | some o =>
      obtain ⟨o', e1⟩ := I1.base.there C o q (by rw [hex]; exact fun z => nomatch z)
      rw [hC1] at e1; cases e1
  · obtain ⟨e, _⟩ := I1.pin q hq
    rw [z, hC1] at e; cases e
end
end L2

set_option Elab.async false
set_option linter.all false
set_option maxRecDepth 100000
namespace Gold
open L2 (cell)
theorem gap_le : ∀ (xs : List Int) (a : Int), Gap (a :: xs) → ∀ x ∈ xs, x + 2 ≤ a
  | [], _, _, x, h => by simp at h
  | b :: r, a, g, x, h => by
    rcases List.mem_cons.mp h with rfl | h
    · exact g.1
    · have := gap_le r b g.2 x h
      have := g.1
      omega
theorem gap_cons {a : Int} {xs : List Int} (h : Gap xs) (hb : ∀ x ∈ xs, x + 2 ≤ a) : Gap (a :: xs) := by
  cases xs with
  | nil => trivial
  | cons b r => exact ⟨hb b (List.mem_cons_self ..), h⟩
theorem gap_filter (p : Int → Bool) : ∀ (xs : List Int), Gap xs → Gap (xs.filter p)
  | [], _ => trivial
  | a :: r, g => by
    have ih := gap_filter p r g.tail
    cases q : p a with
    | false => rw [List.filter_cons_of_neg (by rw [q]; decide)]; exact ih
    | true =>
      rw [List.filter_cons_of_pos q]
      exact gap_cons ih fun x hx => gap_le r a g x (List.mem_filter.mp hx).1
theorem gap_join : ∀ (as bs : List Int), Gap as → Gap bs → (∀ a ∈ as, ∀ b ∈ bs, b + 2 ≤ a) → Gap (as ++ bs)
  | [], bs, _, h, _ => h
  | a :: r, bs, g, h, hb => by
    have ih := gap_join r bs g.tail h fun x hx y hy => hb x (List.mem_cons_of_mem _ hx) y hy
    refine gap_cons ih fun x hx => ?_
    rcases List.mem_append.mp hx with hx | hx
    · exact gap_le r a g x hx
    · exact hb a (List.mem_cons_self ..) x hx
/-- the last one, or 0 -/
def lastI (xs : List Int) : Int := xs.getLastD 0
theorem last_least : ∀ (xs : List Int), Gap xs → xs ≠ [] → ∀ x ∈ xs, lastI xs ≤ x
  | [a], _, _, x, h => by
    have e : x = a := by simpa using h
    rw [e]; exact Int.le_refl _
  | a :: b :: r, g, _, x, h => by
    have e : lastI (a :: b :: r) = lastI (b :: r) := by simp [lastI]
    rw [e]
    rcases List.mem_cons.mp h with rfl | h
    · have := last_least (b :: r) g.2 (by simp) b (List.mem_cons_self ..)
      have := g.1
      omega
    · exact last_least (b :: r) g.2 (by simp) x h
  | [], _, h, _, _ => absurd rfl h
end Gold
namespace L2
open PySem PySem.Spec PyProof.Rows Gold
theorem at_last {xs : List Int} (h : xs ≠ []) : atI (xs.map V.int) (-1) = some (.int (lastI xs)) := by
  have e : xs = xs.dropLast ++ [lastI xs] := by
    have := (List.dropLast_concat_getLast h).symm
    rw [show lastI xs = xs.getLast h by unfold lastI; rw [List.getLastD_eq_getLast?, List.getLast?_eq_some_getLast h]; rfl]
    exact this
  have q := atI_last (xs.dropLast.map V.int) (V.int (lastI xs))
  rw [show xs.dropLast.map V.int ++ [V.int (lastI xs)] = xs.map V.int by rw [show [V.int (lastI xs)] = [lastI xs].map V.int from rfl, ← List.map_append, ← e]] at q
  exact q
def lowP (bs : List Int) (j : Int) : Bool := ((((bs.map V.int).length : Nat) : Int) == 0) || decide (j < lastI bs - 1)
/-- a row that begins as another one -/
theorem begun_row {xs ys : List Int} {n : Int} (hx : IsRow xs) (hy : IsRow ys) : IsRow (cutI xs none (some n) ++ (ys.filter (lowP (cutI xs none (some n)))).map (fun j => j)) := by
  have hb : IsRow (cutI xs none (some n)) := by
    unfold cutI
    rw [show HT.sIx xs.length 0 none = 0 from rfl, List.drop_zero, Nat.sub_zero]
    exact ⟨gap_cut _ xs hx.1, fun x h => hx.2 x (List.mem_of_mem_take h)⟩
  generalize cutI xs none (some n) = bs at *
  rw [List.map_id']
  refine ⟨gap_join _ _ hb.1 (gap_filter _ ys hy.1) fun a ha b hbm => ?_, fun x h => ?_⟩
  · have h1 := (List.mem_filter.mp hbm).2
    have ne : bs ≠ [] := fun z => by rw [z] at ha; cases ha
    have h2 := last_least bs hb.1 ne a ha
    unfold lowP at h1
    rw [Bool.or_eq_true] at h1
    rcases h1 with h1 | h1
    · have h3 := beq_iff_eq.mp h1
      rw [List.length_map] at h3
      exact absurd (List.length_eq_zero_iff.mp (by omega)) ne
    · have := of_decide_eq_true h1
      omega
  · rcases List.mem_append.mp h with h | h
    · exact hb.2 x h
    · exact hy.2 x (List.mem_filter.mp h).1
theorem not_nil {bs : List Int} (h : ((((bs.map V.int).length : Nat) : Int) == 0) = false) : bs ≠ [] := fun z => by
  rw [z] at h; simp at h
theorem int_eq {i j : Int} {Q : VK} {H : Hp} (h : i = j) (q : Q (.int j) H) : Q (.int i) H := by rw [h]; exact q
theorem due_dec (n : Int) : ((if decide (0 < n) = true then 1 else 0) - (if decide (n < 0) = true then 1 else 0) : Int) = (if 0 < n then 1 else 0) - (if n < 0 then 1 else 0) := by
  by_cases h : 0 < n <;> by_cases h2 : n < 0 <;> simp [h, h2]
/-- the sign of the difference of two rows, reckoned by squares -/
def dueO (x y : Nm) : Int := due (x.1 - y.1) (x.2 - y.2)
theorem dueO_lex {xs ys : List Int} (hx : IsRow xs) (hy : IsRow ys) : dueO (val xs) (val ys) = lex xs ys := by
  unfold dueO
  rw [← sgn_due]
  exact lex_sgn xs ys hx.1 hy.1
def spDueO (K : PySem.W.Frag) : Sp := fun vs H Q _ => ∃ (p q : Addr) (xs ys : List Int), vs = [.ref p, .ref q] ∧ SqL K H p (xs.map V.int) ∧ SqL K H q (ys.map V.int) ∧ (IsRow xs ∧ IsRow ys) ∧ ∀ H', Same H H' → Q (.int (lex xs ys)) H'
theorem lex_self (xs : List Int) : lex xs xs = 0 := (lex_zero xs xs).mpr rfl
theorem lex_iff {xs ys : List Int} : decide (V.bl (decide (V.int (lex xs ys) = V.int 0)) = V.bl (if false = true then !decide (xs = ys) else decide (xs = ys))) = true := by
  apply decide_eq_true
  congr 1
  rw [if_neg Bool.false_ne_true]
  rcases Classical.em (xs = ys) with e | e
  · rw [decide_eq_true e, eqI ((lex_zero xs ys).mpr e)]
  · rw [decide_eq_false e, eqI_F fun z => e ((lex_zero xs ys).mp z)]
theorem pl_bd {a b : Int} (ha : Bd 401 a) (hb : Bd 401 b) : Bd 500 (2 * a + b) := by
  have h : Bd 2 (2 : Int) := by unfold Bd; decide
  exact (((h.mul ha).mono (by decide : 2 + 401 ≤ 450)).add (hb.mono (by decide))).mono (by decide)
theorem five_bd {b : Int} (hb : Bd 401 b) : Bd 500 (5 * b) := by
  have h : Bd 3 (5 : Int) := by unfold Bd; decide
  exact (h.mul hb).mono (by decide)
theorem abs_bd {n : Nat} {i : Int} (h : Bd n i) : Bd n (if i < 0 then -i else i) := by
  split
  · exact h.neg
  · exact h
theorem join_few {xs ys : List Int} {lo hi : Option Int} {p : Int → Bool} {f : Int → Int} (hx : IsRow xs) (hy : IsRow ys) : (cutI xs lo hi).length + ((ys.filter p).map f).length ≤ sizeLine := by
  have h1 := isRow_few hx
  have h2 := isRow_few hy
  have h3 := cut_le xs lo hi
  have h4 := List.length_filter_le p ys
  rw [List.length_map, PySem.sizeLine_eq]
  omega
/-! places that are cleaned -/
def spClean (K : PySem.W.Frag) : Sp := fun vs H Q _ => ∃ (p : Addr) (xs : List Int), vs = [.ref p] ∧ SqL K H p (xs.map V.int) ∧ (xs.length ≤ 100 ∧ ∀ x ∈ xs, -80 ≤ x ∧ x ≤ 80) ∧
  ∀ r H', Same H H' → H r = none → ∀ zs, H' r = some (li zs) → (Gap zs ∧ val zs = val xs ∧ zs.length ≤ 1000 ∧ ∀ x ∈ zs, -1000000 ≤ x ∧ x ≤ 1000000) → Q (.ref r) H'
def spPlaces (K : PySem.W.Frag) : Sp := fun vs H Q _ => ∃ (a : Addr) (ns : List Int), vs = [.ref a] ∧ SqL K H a (ns.map V.int) ∧ ∀ r H', Same H H' → H r = none → ∀ xs, H' r = some (li xs) → (xs.length ≤ 60 ∧ ∀ x ∈ xs, -80 ≤ x ∧ x ≤ 80) → Q (.ref r) H'
theorem upto_mem {n : Nat} {j : Int} (h : j ∈ upto n) : 0 ≤ j ∧ j < (n : Int) := by
  unfold upto at h
  obtain ⟨i, hi, rfl⟩ := List.mem_map.mp h
  have := List.mem_range.mp hi
  omega
/-- the places turned about -/
def turnF (xs : List Int) (j : Int) : Int := cell xs ((((xs.map V.int).length : Nat) : Int) - 1 - j)
theorem turn_rev (xs : List Int) : ((upto ((((xs.map V.int).length : Nat) : Int)).toNat).filter (fun _ => true)).map (turnF xs) = xs.reverse := by
  rw [show ∀ l : List Int, l.filter (fun _ => true) = l from fun l => List.filter_eq_self.mpr fun _ _ => rfl, Int.toNat_natCast, List.length_map]
  apply List.ext_getElem?
  intro i
  by_cases hi : i < xs.length
  · rw [List.getElem?_map, upto_get hi, List.getElem?_reverse hi]
    show some (turnF xs (i : Int)) = _
    unfold turnF
    rw [List.length_map]
    have := cell_get (xs := xs) (i := xs.length - 1 - i) (by omega)
    rw [this]
    congr 2
    omega
  · rw [List.getElem?_eq_none (by rw [List.length_map]; unfold upto; simp; omega), List.getElem?_eq_none (by simp; omega)]
theorem turn_at {xs : List Int} {j : Int} {n : Nat} (hn : n = ((((xs.map V.int).length : Nat) : Int)).toNat) (h : j ∈ upto n) : atI (xs.map V.int) ((((xs.map V.int).length : Nat) : Int) - 1 - j) = some (.int (turnF xs j)) := by
  have := upto_mem h
  rw [hn, Int.toNat_natCast] at this
  unfold turnF
  rw [List.length_map] at *
  exact get_at (by omega) (by omega)
def farP (j : Int) : Bool := decide (80 < j) || decide (j < -80)
theorem far_none {xs : List Int} {f : Int → Int} (h : ¬ (0 : Int) < ((((xs.filter farP).map f).map V.int).length : Nat)) : ∀ x ∈ xs, -80 ≤ x ∧ x ≤ 80 := by
  rw [List.length_map, List.length_map] at h
  have e : xs.filter farP = [] := List.length_eq_zero_iff.mp (by omega)
  intro x hx
  have q := List.filter_eq_nil_iff.mp e x hx
  unfold farP at q
  simp only [Bool.or_eq_true, decide_eq_true_eq, not_or] at q
  omega
theorem clean_few {xs : List Int} (h : Gap xs) (h2 : ∀ x ∈ xs, -80 ≤ x ∧ x ≤ 80) : xs.length ≤ 100 := by
  have aux : ∀ (n : Nat) (xs : List Int) (t : Int), xs.length = n → Gap (t :: xs) → (∀ x ∈ xs, -80 ≤ x) → -80 ≤ t → (2 * xs.length : Int) ≤ t + 80 := by
    intro n
    induction n with
    | zero => intro xs t e _ _ ht; rw [e]; omega
    | succ n ih =>
      intro xs t e hg hb ht
      cases xs with
      | nil => simp; omega
      | cons a r =>
        have h1 := ih r a (by simpa using e) hg.2 (fun x hx => hb x (List.mem_cons_of_mem _ hx)) (hb a (List.mem_cons_self ..))
        have h2 := hg.1
        rw [List.length_cons]
        omega
  cases xs with
  | nil => simp
  | cons a r =>
    have := aux r.length r a rfl h (fun x hx => (h2 x (List.mem_cons_of_mem _ hx)).1) (h2 a (List.mem_cons_self ..)).1
    have h3 := (h2 a (List.mem_cons_self ..)).2
    rw [List.length_cons]
    omega
theorem last_in {xs : List Int} (h : xs ≠ []) (hb : ∀ x ∈ xs, -80 ≤ x ∧ x ≤ 80) : -80 ≤ lastI xs ∧ lastI xs ≤ 80 := by
  refine hb _ ?_
  unfold lastI
  rw [List.getLastD_eq_getLast?, List.getLast?_eq_some_getLast h]
  exact List.getLast_mem h
theorem all_snoc {xs : List Int} {y : Int} (h : ∀ x ∈ xs, -80 ≤ x ∧ x ≤ 80) (hy : -80 ≤ y ∧ y ≤ 80) : ∀ x ∈ xs ++ [y], -80 ≤ x ∧ x ≤ 80 := fun x hx => by
  rcases List.mem_append.mp hx with hx | hx
  · exact h x hx
  · have e : x = y := by simpa using hx
    rw [e]; exact hy
end L2

set_option Elab.async false
set_option linter.all false
set_option maxRecDepth 100000
/-! texts; max and min of a list; ranges that go down -/
namespace L2
open PySem PySem.Spec PyProof.Rows Gold
/-! ### max, min -/
theorem best_max (g : Nat → Int) : ∀ k, g (argBest (fun i j => decide (g i > g j)) k) = ((List.range k).map fun i => g (i + 1)).foldl max (g 0)
  | 0 => rfl
  | k + 1 => by
    rw [List.range_succ, List.map_append, List.foldl_append, ← best_max g k]
    show g (if decide (g (k + 1) > g (argBest _ k)) then k + 1 else argBest _ k) = max _ (g (k + 1))
    split
    · rename_i h
      have := of_decide_eq_true h
      rw [Int.max_def, if_pos (by omega)]
    · rename_i h
      have h2 : ¬ g (k + 1) > g (argBest (fun i j => decide (g i > g j)) k) := fun z => h (decide_eq_true z)
      rw [Int.max_def]
      split <;> omega
theorem best_min (g : Nat → Int) : ∀ k, g (argBest (fun i j => decide (g i < g j)) k) = ((List.range k).map fun i => g (i + 1)).foldl min (g 0)
  | 0 => rfl
  | k + 1 => by
    rw [List.range_succ, List.map_append, List.foldl_append, ← best_min g k]
    show g (if decide (g (k + 1) < g (argBest _ k)) then k + 1 else argBest _ k) = min _ (g (k + 1))
    split
    · rename_i h
      have := of_decide_eq_true h
      rw [Int.min_def]
      split <;> omega
    · rename_i h
      have h2 : ¬ g (k + 1) < g (argBest (fun i j => decide (g i < g j)) k) := fun z => h (decide_eq_true z)
      rw [Int.min_def, if_pos (by omega)]
theorem range_items (x : Int) (xs : List Int) : (List.range xs.length).map (fun i => (x :: xs).getD (i + 1) 0) = xs := by
  apply List.ext_getElem?
  intro i
  by_cases h : i < xs.length
  · rw [List.getElem?_map, List.getElem?_range h]
    show some ((x :: xs).getD (i + 1) 0) = _
    rw [List.getD_eq_getElem?_getD, List.getElem?_cons_succ, List.getElem?_eq_getElem h]; rfl
  · rw [List.getElem?_eq_none (by simp; omega), List.getElem?_eq_none (by omega)]
section
variable {X : Cx}
theorem item_of {js : List Int} {its : List Value} (r : Vals (js.map V.int) its) {i : Nat} {v : Value} (h : its.toArray[i]? = some v) : ∃ t, v = Value.int (js.getD i 0) t := by
  have hv' : its[i]? = some v := by simpa using h
  have hl := r.length
  rw [List.length_map] at hl
  have hi : i < js.length := by
    have := (List.getElem?_eq_some_iff.mp hv').1
    omega
  have hx : (js.map V.int)[i]? = some (.int js[i]) := by rw [List.getElem?_map, List.getElem?_eq_getElem hi]; rfl
  obtain ⟨u, hu, t, e⟩ := r.get hx
  rw [hv'] at hu
  cases hu
  exact ⟨t, by rw [e, List.getD_eq_getElem?_getD, List.getElem?_eq_getElem hi]; rfl⟩
theorem call_maxL (hc : X.calm = true) : CallR X (.builtin "max") (fun vs H Q => ∃ (l : Addr) (x : Int) (xs : List Int), vs = [.ref l] ∧ SqL X.K H l ((x :: xs).map V.int) ∧ Q (.int (xs.foldl max x)) H) := by
  intro pins s σ H vs us Q I r h
  obtain ⟨l, x, xs, rfl, hS, q⟩ := h
  obtain ⟨u, rfl, rx⟩ := vals1 r
  cases rx
  obtain ⟨its, r', pl, hz⟩ := I.list hS
  have hlen := r'.length
  rw [List.length_map, List.length_cons] at hlen
  obtain ⟨o, n, eo, _⟩ := id pl
  have hlt : l < s.heap.objs.size := Heap.lt_size eo
  have hh : X.A.in1.handled = none := I.ok.hd hc
  refine call_max_walk (wpAny_pyIter_list pl.isList ⟨s.heap.objs.size, [s.heap.objs.size, l], [s.heap.objs.size], its.toArray.size, _, _, _, rfl, Walks.list hh _ _ (Nat.ne_of_lt hlt) its.toArray, ⟨⟨_, Heap.get?_push_size _ rfl, rfl, rfl⟩, pl.isList.push _⟩, ?_, by simp; omega, CmpOf.ints_gt (fun i => (x :: xs).getD i 0) (fun i v h => item_of r' h), fun v h' tk hv hk => ?_⟩)
  · intro b hb
    show b < (s.heap.push _).objs.size
    rw [Heap.size_push]
    simp only [List.mem_cons, List.mem_nil_iff, or_false] at hb
    rcases hb with rfl | rfl
    · exact Nat.lt_succ_self _
    · exact Nat.lt_succ_of_lt hlt
  · obtain ⟨t, rfl⟩ := item_of r' hv
    rw [best_max (fun i => (x :: xs).getD i 0)]
    have e : its.toArray.size - 1 = xs.length := by simp; omega
    rw [e, range_items]
    exact ⟨.int _, H, I.kept fun b o e => hk b o (not_new e) (Heap.get?_push_of_some _ e), ⟨t, rfl⟩, q⟩
theorem call_minL (hc : X.calm = true) : CallR X (.builtin "min") (fun vs H Q => ∃ (l : Addr) (x : Int) (xs : List Int), vs = [.ref l] ∧ SqL X.K H l ((x :: xs).map V.int) ∧ Q (.int (xs.foldl min x)) H) := by
  intro pins s σ H vs us Q I r h
  obtain ⟨l, x, xs, rfl, hS, q⟩ := h
  obtain ⟨u, rfl, rx⟩ := vals1 r
  cases rx
  obtain ⟨its, r', pl, hz⟩ := I.list hS
  have hlen := r'.length
  rw [List.length_map, List.length_cons] at hlen
  obtain ⟨o, n, eo, _⟩ := id pl
  have hlt : l < s.heap.objs.size := Heap.lt_size eo
  have hh : X.A.in1.handled = none := I.ok.hd hc
  refine call_min_walk (wpAny_pyIter_list pl.isList ⟨s.heap.objs.size, [s.heap.objs.size, l], [s.heap.objs.size], its.toArray.size, _, _, _, rfl, Walks.list hh _ _ (Nat.ne_of_lt hlt) its.toArray, ⟨⟨_, Heap.get?_push_size _ rfl, rfl, rfl⟩, pl.isList.push _⟩, ?_, by simp; omega, CmpOf.ints_lt (fun i => (x :: xs).getD i 0) (fun i v h => item_of r' h), fun v h' tk hv hk => ?_⟩)
  · intro b hb
    show b < (s.heap.push _).objs.size
    rw [Heap.size_push]
    simp only [List.mem_cons, List.mem_nil_iff, or_false] at hb
    rcases hb with rfl | rfl
    · exact Nat.lt_succ_self _
    · exact Nat.lt_succ_of_lt hlt
  · obtain ⟨t, rfl⟩ := item_of r' hv
    rw [best_min (fun i => (x :: xs).getD i 0)]
    have e : its.toArray.size - 1 = xs.length := by simp; omega
    rw [e, range_items]
    exact ⟨.int _, H, I.kept fun b o e => hk b o (not_new e) (Heap.get?_push_of_some _ e), ⟨t, rfl⟩, q⟩
end
/-! ### range(hi, lo, -1) -/
def Itd (hi : Int) (n : Nat) : It := ⟨fun i _ => i < n, fun i H x H' => H' = H ∧ x = .int (hi - i), fun i _ => n ≤ i⟩
theorem turn_down {P : Program} {w : World} {K : PySem.W.Frag} {tg : Expr} (it : Addr) (hi : Int) (n : Nat) : Turn P w K tg (Itd hi n) [it] it (fun i h => IsRangeIter h it (hi + (i : Nat) * (-1)) ((n : Int) - (i : Nat)) (-1)) where
  mem := by simp
  obj := fun i h st b hb => by
    have e : b = it := by simpa using hb
    subst e
    exact ⟨_, st, fun v z => by
      have z' : Data.fields _ = Data.cell v := z
      cases z'⟩
  keep := fun i h h' st k => k it (by simp) _ st
  item := by
    intro X hP hw hK hc i pins s σ H E I hf st hg
    subst hP hw hK
    obtain ⟨f0, f1, f2, f3, f4, f5⟩ := hf it (by simp)
    have W := Walks.range (prog := X.prog) (w := X.w) (I.ok.hd hc) it hi (-1) n
    refine W.item i s _ _ hg st fun v h' tk hv st' kk => ?_
    obtain ⟨t, rfl⟩ := hv
    have I1 : Inv X pins σ H { s with heap := h', toks := tk } := I.turned (fun b o hb e => kk b o (by simpa using hb) e) f0 f1 f3 f4 f5
    refine ⟨_, rfl, go_of (s := { s with heap := h', toks := tk }) (n := "range_iterator") st' rfl rfl (by decide) ⟨.int (hi - i), H, I1, ⟨t, ?_⟩, ⟨rfl, rfl⟩, st', fun b hb => (hf b hb).1⟩⟩
    rw [show hi + (i : Int) * (-1) = hi - i by omega]
  done := by
    intro X hP hw hK hc i pins s σ H E I hf st hg
    subst hP hw hK
    obtain ⟨f0, f1, f2, f3, f4, f5⟩ := hf it (by simp)
    exact wpAny_pyNext_range_end (I.ok.hd hc) st (by have : n ≤ i := hg; omega) fun h' eb => ⟨rfl, I.turned (t' := s.toks) (fun b o hb e => eb b o hb e) f0 f1 f3 f4 f5⟩
  self := fun _ _ _ _ _ st h => wpAny_pyIter_rangeiter st h
theorem size_down (a b : Int) : Builtin.Range.rangeSize a b (-1) = if a > b then a - b else 0 := by
  unfold Builtin.Range.rangeSize
  rw [if_neg (by decide), Int.neg_neg, Int.ediv_one]
  split <;> omega
section
variable {X : Cx} {tg : Expr}
def iDown (ta : TA) : TI := fun σ H R => ta σ H fun vs H1 => ∃ i j : Int, vs = [.int i, .int j, .int (-1)] ∧ (-(2 ^ 62) ≤ i ∧ i < 2 ^ 62 ∧ -(2 ^ 62) ≤ j ∧ j < 2 ^ 62) ∧ R (Itd i (i - j).toNat) H1
theorem pi_down {a b c : Expr} {ta : TA} {p pos : Pos} (hg : Gl X "range") (hm : X.mg "range" = none) (ha : PA X [a, b, c] ta) (hs : starEach [a, b, c] X.env = [(false, eval a X.env), (false, eval b X.env), (false, eval c X.env)] := by rfl) (hs2 : starEach [b, c] X.env = [(false, eval b X.env), (false, eval c X.env)] := by rfl) :
    PI X tg (.Call (.Name "range" p) [a, b, c] [] pos) (iDown ta) := by
  intro pins s σ H R I h
  refine Call_ (ld_blt I hg hm boot_range (PyProof.Rows.callWith_type1 (thn (ha pos pins s σ H _ I h) fun us s1 ⟨vs, H1, I1, r1, q1⟩ => ?_) (by rw [hs, hs2]) (by rw [hs2]; rfl)))
  obtain ⟨i, j, e, ⟨q1, q2, q3, q4⟩, q⟩ := q1
  subst e
  cases r1 with
  | cons r ra =>
    cases ra with
    | cons r' rb =>
      cases rb with
      | cons r'' rc =>
        cases rc
        obtain ⟨t, rfl⟩ := r
        obtain ⟨t', rfl⟩ := r'
        obtain ⟨t'', rfl⟩ := r''
        refine call_range_3 (by decide) ?_ (Or.inl (PyProof.noPylong_of_log2 (by decide +kernel)))
        refine wpAny_pyIter_range (IsRange.new ..) (PySem.W.small_down q1 q2 q3 q4) ?_
        have I2 : Inv X pins σ H1 { s1 with heap := s1.heap.push { cls := .type "range", data := .fields #[.int i t, .int j t', .int (-1) t''] }, toks := s1.toks } := I1.kept fun b o e => Heap.get?_push_of_some _ e
        refine ⟨_, [_], _, _, H1, rfl, I2.kept (t' := s1.toks) fun b o e => Heap.get?_push_of_some _ e, turn_down _ i (i - j).toNat, ?_, fun b hb => ?_, q⟩
        · have e1 : i + ((0 : Nat) : Int) * (-1) = i := by simp
          have e2 : (((i - j).toNat : Nat) : Int) - ((0 : Nat) : Int) = Builtin.Range.rangeSize i j (-1) := by rw [size_down]; split <;> omega
          show IsRangeIter _ _ (i + ((0 : Nat) : Int) * (-1)) ((((i - j).toNat : Nat) : Int) - ((0 : Nat) : Int)) (-1)
          rw [e1, e2]
          exact Heap.get?_push_size _ rfl
        · rw [List.mem_singleton] at hb
          subst hb
          exact I2.fpOk (Nat.le_refl _) (I2.hok.fresh (Nat.le_refl _))
end
theorem for_down {hi : Int} {n : Nat} {g : TG} {tb : TS} {D : Ends} {σ : St} {H : Hp} (Pv : Nat → St → Hp → Prop) (h0 : Pv 0 σ H)
    (hs : ∀ i σ H, i < n → Pv i σ H → g (.int (hi - i)) σ H fun σ2 H2 => tb { D with nx := Pv (i + 1), ct := Pv (i + 1), bk := D.nx } σ2 H2) (hd : ∀ σ H, Pv n σ H → D.nx σ H) :
    ∃ W : Nat → Nat → St → Hp → Prop, (∃ m, W 0 m σ H) ∧ ∀ i m σ H, W i m σ H →
      ((Itd hi n).stop i H ∧ D.nx σ H) ∨ ((Itd hi n).go i H ∧ ∃ N : St → Hp → Prop, (∀ σ' H', N σ' H' → ∃ m', m' < m ∧ W (i + 1) m' σ' H') ∧ ∀ x H', (Itd hi n).yld i H x H' → g x σ H' fun σ2 H2 => tb { D with nx := N, ct := N, bk := D.nx } σ2 H2) := by
  refine ⟨fun i m σ H => m = n - i ∧ i ≤ n ∧ Pv i σ H, ⟨n, by simp, Nat.zero_le _, h0⟩, ?_⟩
  rintro i m σ H ⟨rfl, hi', p⟩
  by_cases hlt : i < n
  · refine .inr ⟨hlt, Pv (i + 1), fun σ' H' p' => ⟨n - (i + 1), by omega, rfl, hlt, p'⟩, fun x H' y => ?_⟩
    obtain ⟨e, y⟩ := y
    subst e y
    exact hs i σ _ hlt p
  · have e : i = n := by omega
    subst e
    exact .inl ⟨Nat.le_refl _, hd σ H p⟩
/-! ### texts -/
def strOf (l : List Nat) : Str := ⟨l.toArray⟩
theorem str_cat (l m : List Nat) : strOf l ++ strOf m = strOf (l ++ m) := by
  show Str.append (strOf l) (strOf m) = _
  simp [Str.append, strOf]
theorem str_len (l : List Nat) : (strOf l).length = l.length := by simp [strOf, Str.length]
theorem str_empty : (Str.ofString "" : Str) = strOf [] := by decide +kernel
theorem str_point : (Str.ofString "." : Str) = strOf [46] := by decide +kernel
theorem str_0 : (Str.ofString "0" : Str) = strOf [48] := by decide +kernel
theorem str_1 : (Str.ofString "1" : Str) = strOf [49] := by decide +kernel
/-- the first figures -/
def figs (xs : List Int) (i : Nat) : List Nat := (List.range i).flatMap fun (k : Nat) => fig xs (hiOf xs - (k : Int))
theorem figs_next (xs : List Int) (i : Nat) : figs xs (i + 1) = figs xs i ++ fig xs (hiOf xs - (i : Int)) := by
  unfold figs
  rw [List.range_succ, List.flatMap_append, List.flatMap_cons, List.flatMap_nil, List.append_nil]
theorem figs_len (xs : List Int) (i : Nat) : (figs xs i).length ≤ 2 * i := by
  have := flat_len (f := fun (k : Nat) => fig xs (hiOf xs - (k : Int))) (fun k => fig_len _ _) (List.range i)
  rw [List.length_range] at this
  exact this
theorem figs_all (xs : List Int) : strOf (figs xs (hiOf xs - loOf xs + 1).toNat) = noteS xs := rfl
theorem in_int {x : Int} {xs : List Int} : inV (.int x) (xs.map V.int) = decide (x ∈ xs) := by
  unfold inV
  rw [List.any_map]
  rw [Bool.eq_iff_iff, List.any_eq_true, decide_eq_true_iff]
  constructor
  · rintro ⟨y, hy, e⟩
    have e2 : y = x := by simpa [eqV] using e
    rw [← e2]; exact hy
  · intro h
    exact ⟨x, h, by simp [eqV]⟩
theorem flat_ints (xs : List Int) : (xs.map V.int).all flatV = true := by
  rw [List.all_map]
  exact List.all_eq_true.mpr fun _ _ => rfl
theorem pickS {b : Bool} : atI [V.str (Str.ofString "0"), V.str (Str.ofString "1")] (if b = true then 1 else 0) = some (.str (strOf [if b = true then 49 else 48])) := by
  cases b
  · rw [if_neg (by decide), if_neg (by decide), ← str_0]; exact at0
  · rw [if_pos rfl, if_pos rfl, ← str_1]; exact at1
theorem kit_ss {K : PySem.W.Frag} : PySem.W.kitOne K (.type "str") (.type "str") = some true := rfl
theorem boot_str : bootBuiltins "str" = some (.type "str") := by decide +kernel
theorem neS {x : Str} : (!decide (V.str x = V.str x)) = false := by rw [decide_eq_true rfl]; rfl
def spText (K : PySem.W.Frag) : Sp := fun vs H Q _ => ∃ (p : Addr) (xs : List Int), vs = [.ref p] ∧ H p = some (li xs) ∧ (IsRow xs) ∧ ∀ H', Same H H' → Q (.str (noteS xs)) H'
def spSame16 (K : PySem.W.Frag) : Sp := fun vs H Q _ => ∃ (p q : Addr) (xs : List Int), vs = [.ref p, .ref q] ∧ H p = some (li xs) ∧ SqL K H q (xs.map V.int) ∧ xs.length ≤ 1000 ∧ Q (.bl true) H
theorem fig_at {xs : List Int} {p : Int} : fig xs p = (if p = -1 then [46] else []) ++ [if decide (p ∈ xs) = true then 49 else 48] := by
  unfold fig
  congr 2
  simp only [decide_eq_true_eq]
theorem hi_ge : ∀ (xs : List Int) (m : Int), m ≤ xs.foldl max m
  | [], m => Int.le_refl m
  | a :: r, m => Int.le_trans (by omega : m ≤ max m a) (hi_ge r (max m a))
theorem lo_ge : ∀ (xs : List Int) (m : Int), xs.foldl min m ≤ m
  | [], m => Int.le_refl m
  | a :: r, m => Int.le_trans (lo_ge r (min m a)) (by omega : min m a ≤ m)
theorem step_pt {xs : List Int} {i : Nat} {t : Str} (ht : t = strOf (figs xs i)) (h : xs.foldl max 0 - (i : Int) = -1) :
    t ++ Str.ofString "." ++ strOf [if (if false = true then !inV (V.int (xs.foldl max 0 - (i : Int))) (xs.map V.int) else inV (V.int (xs.foldl max 0 - (i : Int))) (xs.map V.int)) = true then 49 else 48] = strOf (figs xs (i + 1)) := by
  have e : fig xs (hiOf xs - (i : Int)) = [46] ++ [if decide (xs.foldl max 0 - (i : Int) ∈ xs) = true then 49 else 48] := by
    rw [fig_at, if_pos (show hiOf xs - (i : Int) = -1 from h)]; rfl
  rw [figs_next, e, ht, str_point, str_cat, str_cat, if_neg Bool.false_ne_true, in_int, List.append_assoc]
theorem step_no {xs : List Int} {i : Nat} {t : Str} (ht : t = strOf (figs xs i)) (h : ¬ xs.foldl max 0 - (i : Int) = -1) :
    t ++ strOf [if (if false = true then !inV (V.int (xs.foldl max 0 - (i : Int))) (xs.map V.int) else inV (V.int (xs.foldl max 0 - (i : Int))) (xs.map V.int)) = true then 49 else 48] = strOf (figs xs (i + 1)) := by
  have e : fig xs (hiOf xs - (i : Int)) = [if decide (xs.foldl max 0 - (i : Int) ∈ xs) = true then 49 else 48] := by
    rw [fig_at, if_neg (show ¬ hiOf xs - (i : Int) = -1 from h)]; rfl
  rw [figs_next, e, ht, str_cat, if_neg Bool.false_ne_true, in_int]
end L2

set_option Elab.async false
set_option linter.all false
set_option maxRecDepth 100000
namespace Gold
def fg (xs : List Int) (p : Int) : Nat := if p ∈ xs then 49 else 48
theorem fig_nn {xs : List Int} {p : Int} (h : p ≠ -1) : fig xs p = [fg xs p] := by unfold fig fg; rw [if_neg h]; rfl
theorem fig_m1 {xs : List Int} : fig xs (-1) = [46, fg xs (-1)] := by unfold fig fg; rw [if_pos rfl]; rfl
theorem fg_val (xs : List Int) (p : Int) : fg xs p = 48 ∨ fg xs p = 49 := by unfold fg; split <;> simp
theorem fg_in {xs : List Int} {p : Int} : fg xs p = 49 ↔ p ∈ xs := by unfold fg; split <;> simp_all
theorem flat_one {f : Nat → List Nat} {g : Nat → Nat} : ∀ (l : List Nat), (∀ i ∈ l, f i = [g i]) → l.flatMap f = l.map g
  | [], _ => rfl
  | a :: r, h => by
    rw [List.flatMap_cons, List.map_cons, h a (List.mem_cons_self ..), flat_one r fun i hi => h i (List.mem_cons_of_mem _ hi)]; rfl
/-- the figures ahead of the point, and behind it -/
def ahead (xs : List Int) (h : Nat) : List Nat := (List.range (h + 1)).map fun (k : Nat) => fg xs ((h : Int) - (k : Int))
def behindP (xs : List Int) (m : Nat) : List Nat := (List.range m).map fun (k : Nat) => fg xs (-1 - (k : Int))
theorem note_split (xs : List Int) (h m : Nat) (eh : hiOf xs = (h : Int)) (el : loOf xs = -(m : Int)) : noteL xs = ahead xs h ++ (if m = 0 then [] else 46 :: behindP xs m) := by
  unfold noteL
  rw [eh, el, show ((h : Int) - -(m : Int) + 1).toNat = (h + 1) + m by omega, List.range_add, List.flatMap_append]
  congr 1
  · exact flat_one _ fun i hi => fig_nn (by have := List.mem_range.mp hi; omega)
  · cases m with
    | zero => rfl
    | succ n =>
      rw [if_neg (by omega), List.range_succ_eq_map, List.map_cons, List.flatMap_cons]
      rw [show ((h : Int) - ((h + 1 + 0 : Nat) : Int)) = -1 by omega, fig_m1]
      unfold behindP
      rw [List.range_succ_eq_map, List.map_cons, List.map_map, List.map_map, List.flatMap_map]
      show 46 :: fg xs (-1) :: _ = 46 :: fg xs (-1 - ((0 : Nat) : Int)) :: _
      rw [show (-1 : Int) - ((0 : Nat) : Int) = -1 by simp]
      congr 2
      rw [flat_one (g := fun k => fg xs (-1 - ((k + 1 : Nat) : Int))) _ fun i _ => ?_]
      · rfl
      · show fig xs ((h : Int) - ((h + 1 + (i + 1) : Nat) : Int)) = _
        rw [fig_nn (by omega)]
        congr 2
        omega
theorem hi_mem : ∀ (xs : List Int) (m : Int), xs.foldl max m = m ∨ xs.foldl max m ∈ xs
  | [], m => .inl rfl
  | a :: r, m => by
    rcases hi_mem r (max m a) with h | h
    · rw [List.foldl_cons, h]
      rcases Int.le_total m a with z | z
      · rw [Int.max_eq_right z]; exact .inr (List.mem_cons_self ..)
      · rw [Int.max_eq_left z]; exact .inl rfl
    · exact .inr (List.mem_cons_of_mem _ h)
theorem lo_mem : ∀ (xs : List Int) (m : Int), xs.foldl min m = m ∨ xs.foldl min m ∈ xs
  | [], m => .inl rfl
  | a :: r, m => by
    rcases lo_mem r (min m a) with h | h
    · rw [List.foldl_cons, h]
      rcases Int.le_total m a with z | z
      · rw [Int.min_eq_left z]; exact .inl rfl
      · rw [Int.min_eq_right z]; exact .inr (List.mem_cons_self ..)
    · exact .inr (List.mem_cons_of_mem _ h)
theorem hi_up : ∀ (xs : List Int) (m : Int), ∀ x ∈ xs, x ≤ xs.foldl max m
  | a :: r, m, x, h => by
    rcases List.mem_cons.mp h with rfl | h
    · exact Int.le_trans (by omega : x ≤ max m x) (L2.hi_ge r (max m x))
    · exact hi_up r (max m a) x h
theorem lo_dn : ∀ (xs : List Int) (m : Int), ∀ x ∈ xs, xs.foldl min m ≤ x
  | a :: r, m, x, h => by
    rcases List.mem_cons.mp h with rfl | h
    · exact Int.le_trans (L2.lo_ge r (min m x)) (by omega : min m x ≤ x)
    · exact lo_dn r (min m a) x h
/-- the shape of a row's text -/
structure Shape (xs : List Int) (l : List Nat) (h m : Nat) : Prop where
  eq : l = ahead xs h ++ (if m = 0 then [] else 46 :: behindP xs m)
  top : h = 0 ∨ (h : Int) ∈ xs
  low : m = 0 ∨ -(m : Int) ∈ xs
  inr : ∀ x ∈ xs, -(m : Int) ≤ x ∧ x ≤ (h : Int)
theorem shape_of (xs : List Int) : ∃ h m, Shape xs (noteL xs) h m := by
  have h1 : 0 ≤ hiOf xs := L2.hi_ge xs 0
  have h2 : loOf xs ≤ 0 := L2.lo_ge xs 0
  obtain ⟨h, eh⟩ : ∃ h : Nat, hiOf xs = (h : Int) := ⟨(hiOf xs).toNat, by omega⟩
  obtain ⟨m, el⟩ : ∃ m : Nat, loOf xs = -(m : Int) := ⟨(-loOf xs).toNat, by omega⟩
  refine ⟨h, m, note_split xs h m eh el, ?_, ?_, fun x hx => ?_⟩
  · rcases hi_mem xs 0 with z | z
    · exact .inl (by have : hiOf xs = 0 := z; omega)
    · exact .inr (by rw [← eh]; exact z)
  · rcases lo_mem xs 0 with z | z
    · exact .inl (by have : loOf xs = 0 := z; omega)
    · exact .inr (by rw [← el]; exact z)
  · rw [← eh, ← el]
    exact ⟨lo_dn xs 0 x hx, hi_up xs 0 x hx⟩
theorem shape_note {xs : List Int} {l : List Nat} {h m : Nat} (S : Shape xs l h m) : l = noteL xs := by
  have eh : hiOf xs = (h : Int) := by
    have h1 := L2.hi_ge xs 0
    have h2 : hiOf xs ≤ (h : Int) := L2.hi_le xs 0 h (by omega) fun x hx => (S.inr x hx).2
    rcases S.top with z | z
    · have : 0 ≤ hiOf xs := h1
      omega
    · have : (h : Int) ≤ hiOf xs := hi_up xs 0 _ z
      omega
  have el : loOf xs = -(m : Int) := by
    have h1 : loOf xs ≤ 0 := L2.lo_ge xs 0
    have h2 : -(m : Int) ≤ loOf xs := L2.lo_le xs 0 (-(m : Int)) (by omega) fun x hx => (S.inr x hx).1
    rcases S.low with z | z
    · omega
    · have : loOf xs ≤ -(m : Int) := lo_dn xs 0 _ z
      omega
  rw [S.eq, note_split xs h m eh el]
section
variable {xs : List Int} {l : List Nat} {h m : Nat}
theorem ahead_get {k : Nat} (hk : k ≤ h) : (ahead xs h)[k]? = some (fg xs ((h : Int) - (k : Int))) := by
  unfold ahead
  rw [List.getElem?_map, List.getElem?_range (by omega)]; rfl
theorem behind_get {k : Nat} (hk : k < m) : (behindP xs m)[k]? = some (fg xs (-1 - (k : Int))) := by
  unfold behindP
  rw [List.getElem?_map, List.getElem?_range hk]; rfl
theorem ahead_len : (ahead xs h).length = h + 1 := by unfold ahead; simp
theorem behind_len : (behindP xs m).length = m := by unfold behindP; simp
theorem Shape.len (S : Shape xs l h m) : l.length = h + 1 + (if m = 0 then 0 else m + 1) := by
  rw [S.eq, List.length_append, ahead_len]
  split
  · simp
  · rw [List.length_cons, behind_len]
theorem Shape.get1 (S : Shape xs l h m) {k : Nat} (hk : k ≤ h) : l[k]? = some (fg xs ((h : Int) - (k : Int))) := by
  rw [S.eq, List.getElem?_append_left (by rw [ahead_len]; omega), ahead_get hk]
theorem Shape.get2 (S : Shape xs l h m) (hm : m ≠ 0) : l[h + 1]? = some 46 := by
  rw [S.eq, List.getElem?_append_right (by rw [ahead_len]; omega), ahead_len, if_neg hm, Nat.sub_self]; rfl
theorem Shape.get3 (S : Shape xs l h m) (hm : m ≠ 0) {k : Nat} (hk : k < m) : l[h + 2 + k]? = some (fg xs (-1 - (k : Int))) := by
  rw [S.eq, List.getElem?_append_right (by rw [ahead_len]; omega), ahead_len, if_neg hm, show h + 2 + k - (h + 1) = k + 1 by omega, List.getElem?_cons_succ, behind_get hk]
/-- each sign is a figure, but at the point's place -/
theorem Shape.sign (S : Shape xs l h m) {k c : Nat} (hk : l[k]? = some c) : (k = h + 1 ∧ m ≠ 0 ∧ c = 46) ∨ (k ≠ h + 1 ∧ (c = 48 ∨ c = 49)) := by
  have hl := (List.getElem?_eq_some_iff.mp hk).1
  have hlen := S.len
  by_cases h1 : k ≤ h
  · rw [S.get1 h1] at hk
    cases hk
    exact .inr ⟨by omega, fg_val _ _⟩
  · by_cases hm : m = 0
    · rw [if_pos hm] at hlen; omega
    · rw [if_neg hm] at hlen
      by_cases h2 : k = h + 1
      · rw [h2, S.get2 hm] at hk
        cases hk
        exact .inl ⟨h2, hm, rfl⟩
      · obtain ⟨j, rfl⟩ : ∃ j, k = h + 2 + j := ⟨k - (h + 2), by omega⟩
        rw [S.get3 hm (by omega)] at hk
        cases hk
        exact .inr ⟨h2, fg_val _ _⟩
end
end Gold

set_option Elab.async false
set_option linter.all false
set_option maxRecDepth 100000
/-! texts that a comprehension makes, str.join, str.partition, a comprehension over enumerate(text) -/
namespace L2
open PySem PySem.Spec PyProof.Rows Gold
/-! ### a comprehension whose items are texts -/
def FvS (f : Int → Str) (v y : Value) : Prop := ∃ a t u, v = Value.int a t ∧ y = Value.str (f a) u
theorem pair_valsS {p : Int → Bool} {f : Int → Str} : ∀ {js : List Int} {vs ys : List Value}, Vals (js.map V.int) vs → Paired (FvS f) (vs.filter (pv' p)) ys → Vals (((js.filter p).map f).map V.str) ys
  | [], vs, ys, h, h2 => by
    cases h
    cases h2
    exact .nil
  | j :: js, vs, ys, h, h2 => by
    cases h with
    | cons r rest =>
      obtain ⟨t, rfl⟩ := r
      cases q : p j with
      | false =>
        rw [List.filter_cons_of_neg (by show ¬ p j = true; rw [q]; decide)] at h2
        rw [List.filter_cons_of_neg (by rw [q]; decide)]
        exact pair_valsS rest h2
      | true =>
        rw [List.filter_cons_of_pos (p := pv' p) (show pv' p (Value.int j t) = true from q)] at h2
        rw [List.filter_cons_of_pos q]
        cases h2 with
        | cons r2 rest2 =>
          obtain ⟨a, t', u, e1, e2⟩ := r2
          cases e1
          exact .cons ⟨u, e2⟩ (pair_valsS rest rest2)
section
variable {X : Cx} {sc : Scope} {cl : List (Str × Addr)} {x : Str} {elt iter : Expr} {ifs : List Expr} {pos px : Pos} {pins : List (Addr × Obj)} {σ : St} {H : Hp} {s₁ s₂ : Shared} {js : List Int} {p : Int → Bool} {f : Int → Str} {fp wr : List Addr} {P : Nat → Value → Prop}
theorem quiet_ofS (up : ∀ s₃ : Shared, (∀ b o, b ∉ wr → s₂.heap.get? b = some o → s₃.heap.get? b = some o) → ∀ b o, s₁.heap.get? b = some o → s₃.heap.get? b = some o) (hP : ∀ i v, P i v → ∃ j ∈ js, ∃ t, v = Value.int j t)
    (hq : ∀ j ∈ js, QTs X sc cl x s₁ ifs j (p j) ∧ (p j = true → QV X sc cl x s₁ elt j (.str (f j)))) : QuietOnC X.prog X.w X.A X.env sc cl x ifs elt wr P (pv' p) (FvS f) s₂ := by
  refine ⟨fun C i v s₃ m₃ E' _ hv hn hm hk _ => ?_, fun C i v s₃ m₃ E' _ hv hpv hn hm hk _ => ?_⟩
  · obtain ⟨j, hj, t, rfl⟩ := hP i v hv
    exact (hq j hj).1 C t s₃ m₃ E' hn hm (up s₃ hk)
  · obtain ⟨j, hj, t, rfl⟩ := hP i v hv
    exact thn ((hq j hj).2 hpv C t s₃ m₃ E' hn hm (up s₃ hk)) fun y s₄ ⟨⟨u, r⟩, k⟩ => ⟨⟨j, t, u, rfl, r⟩, k⟩
def tBlockS (X : Cx) (sc : Scope) (cl : List (Str × Addr)) (x : Str) (ifs : List Expr) (elt : Expr) (p : Int → Bool) (f : Int → Str) (σ : St) (K : Addr → Hp → Prop) : List Int → Hp → Prop := fun js H1 =>
  js.length ≤ sizeLine ∧ (∀ pins s₁, Inv X pins σ H1 s₁ → ∀ j ∈ js, QTs X sc cl x s₁ ifs j (p j) ∧ (p j = true → QV X sc cl x s₁ elt j (.str (f j)))) ∧
    ∀ D H2, Same H1 H2 → H1 D = none → H2 D = some (.lst (((js.filter p).map f).map V.str)) → K D H2
theorem pe_compS {t : TX} (hi : PX X iter t) (hclos : closureFor sc X.env = pure cl) (hcell : ∀ y ∈ sc.names, y.2 ≠ .cell) (hkind : sc.kind = .function) (hnames : ∀ y ∈ sc.names, y.2 = .local → sc.names.lookup y.1 = some .local) (hx : sc.names.lookup x = some .local)
    (hs : ∀ v, foldedSetIterable iter X.env v = pure v := by intro _; rfl) :
    PE X (.ListComp elt [⟨.Name x px, iter, ifs, 0⟩] sc pos) (fun σ H Q => ∃ p f, t σ H (tBlockS X sc cl x ifs elt p f σ fun D H2 => Q (.ref D) H2)) := by
  intro pins s σ H Q I h
  obtain ⟨p, f, h⟩ := h
  refine wpAny_ListComp_free (pv' p) (FvS f) hclos hcell hkind hnames hx (thn (hi pins s σ H _ I h) fun xv s₁ q => thn q fun it s₂ q => ?_) hs
  obtain ⟨Ia, fp, wr, n, P, St, js, H1, h2, rfl, W, hn, st, hfp, hP, I1, up, rfl, hz, hq, hK⟩ := q
  refine ⟨Ia, fp, wr, n, P, St, rfl, W, by omega, st, hfp, quiet_ofS (fun s₃ hk b o e => hk b o (up b o e).1 (up b o e).2) (fun i v hv => ?_) (hq pins s₁ I1), fun D h' tk ys vs hD hl hpl hlen hPs hF hk => ?_⟩
  · obtain ⟨j, t, e1, e2⟩ := hP i v hv
    exact ⟨j, List.mem_of_getElem? e1, t, e2⟩
  · have keep : ∀ b o, s₁.heap.get? b = some o → h'.get? b = some o := fun b o e => hk b o (up b o e).1 (up b o e).2
    have hD1 : s₁.heap.get? D = none := by
      cases e : s₁.heap.get? D with
      | none => rfl
      | some o => have := (up D o e).2; rw [hD] at this; cases this
    have J : Inv X pins σ (upd H1 D (.lst (((js.filter p).map f).map V.str))) { s₁ with heap := h', toks := tk } := by
      obtain ⟨n', e⟩ := hpl
      refine Inv.laid' I1 keep hD1 ⟨?_, ys.toList, n', pair_valsS (vals_of hP hn hlen hPs) hF, by simpa using e⟩
      rw [List.length_map, List.length_map]
      exact Nat.le_trans (List.length_filter_le ..) hz
    exact ⟨.ref D, _, J, rfl, hK D _ (same_new (hok_none I1.hok hD1) _) (hok_none I1.hok hD1) upd_same⟩
/-- hi, hi - 1, .. -/
def downto (hi : Int) (n : Nat) : List Int := (List.range n).map fun (i : Nat) => hi - (i : Int)
theorem downto_get {hi : Int} {n i : Nat} (h : i < n) : (downto hi n)[i]? = some (hi - (i : Int)) := by
  unfold downto
  rw [List.getElem?_map, List.getElem?_range h]; rfl
theorem px_down {a b c : Expr} {ta : TA} {p : Pos} (hg : Gl X "range") (hm : X.mg "range" = none) (ha : PA X [a, b, c] ta) (hc : X.calm = true) (hs : starEach [a, b, c] X.env = [(false, eval a X.env), (false, eval b X.env), (false, eval c X.env)] := by rfl) (hs2 : starEach [b, c] X.env = [(false, eval b X.env), (false, eval c X.env)] := by rfl) :
    PX X (.Call (.Name "range" p) [a, b, c] [] pos) (fun σ H R => ta σ H fun vs H1 => ∃ i j : Int, vs = [.int i, .int j, .int (-1)] ∧ (-(2 ^ 62) ≤ i ∧ i < 2 ^ 62 ∧ -(2 ^ 62) ≤ j ∧ j < 2 ^ 62) ∧ R (downto i (i - j).toNat) H1) := by
  intro pins s σ H R I h
  refine Call_ (ld_blt I hg hm boot_range (PyProof.Rows.callWith_type1 (thn (ha pos pins s σ H _ I h) fun us s1 ⟨vs, H1, I1, r1, q1⟩ => ?_) (by rw [hs, hs2]) (by rw [hs2]; rfl)))
  obtain ⟨i, j, e, ⟨q1, q2, q3, q4⟩, q⟩ := q1
  subst e
  cases r1 with
  | cons r ra =>
    cases ra with
    | cons r' rb =>
      cases rb with
      | cons r'' rc =>
        cases rc
        obtain ⟨t, rfl⟩ := r
        obtain ⟨t', rfl⟩ := r'
        obtain ⟨t'', rfl⟩ := r''
        refine call_range_3 (by decide) ?_ (Or.inl (PyProof.noPylong_of_log2 (by decide +kernel)))
        refine wpAny_pyIter_range (IsRange.new ..) (PySem.W.small_down q1 q2 q3 q4) ?_
        have hsz : Builtin.Range.rangeSize i j (-1) = (((i - j).toNat : Nat) : Int) := by rw [size_down]; split <;> omega
        refine ⟨_, [_], [_], (i - j).toNat, _, _, downto i (i - j).toNat, H1, _, rfl, (Walks.range (I1.ok.hd hc) _ i (-1) (i - j).toNat).bound, by simp [downto], ?_, ?_, ?_, I1.kept (fun b o e => Heap.get?_push_of_some _ e), fun b o e => ⟨not_new e, Heap.get?_push_of_some _ e⟩, rfl, q⟩
        · show IsRangeIter _ _ (i + ((0 : Nat) : Int) * (-1)) ((((i - j).toNat : Nat) : Int) - ((0 : Nat) : Int)) (-1)
          rw [show i + ((0 : Nat) : Int) * (-1) = i by simp, show (((i - j).toNat : Nat) : Int) - ((0 : Nat) : Int) = Builtin.Range.rangeSize i j (-1) by rw [hsz]; simp]
          exact Heap.get?_push_size _ rfl
        · intro b hb
          rw [List.mem_singleton] at hb
          rw [hb]
          simp only [Heap.size_push]
          exact Nat.lt_succ_self _
        · rintro k v ⟨hk, t', rfl⟩
          exact ⟨i - (k : Int), t', downto_get hk, by congr 1; omega⟩
end
section
variable {X : Cx} {sc : Scope} {cl : List (Str × Addr)} {x : Str} {s₁ : Shared} {a : Int} {e e' e'' : Expr} {pos p : Pos} {pins : List (Addr × Obj)} {σ : St} {H : Hp}
/-- a if c else b -/
theorem qv_if {b : Bool} {v v' : V} (hc : QT X sc cl x s₁ e a b) (h : QV X sc cl x s₁ e' a v) (h' : QV X sc cl x s₁ e'' a v') : QV X sc cl x s₁ (.IfExp e e' e'' pos) a (if b = true then v else v') := fun C t s₂ m₂ E' g1 g2 g3 => by
  refine wpAny_IfExp (thn (hc C t s₂ m₂ E' _ g1 g2 g3) fun c s3 ⟨r, k⟩ => ?_)
  subst r
  cases c with
  | true => exact thn (h C t s3 m₂ E' (ns_up g1 (kpH k)) g2 fun b o q => kpH k b o (g3 b o q)) fun u s4 ⟨r, k'⟩ => ⟨r, kpT k k'⟩
  | false => exact thn (h' C t s3 m₂ E' (ns_up g1 (kpH k)) g2 fun b o q => kpH k b o (g3 b o q)) fun u s4 ⟨r, k'⟩ => ⟨r, kpT k k'⟩
theorem qv_as {v v' : V} (h : QV X sc cl x s₁ e a v) (he : v = v') : QV X sc cl x s₁ e a v' := he ▸ h
/-- i in a list of ints -/
theorem qt_in {xs : List Int} {l : Addr} {i : Int} (I : Inv X pins σ H s₁) (hq : SqL X.K H l (xs.map V.int)) (h : QV X sc cl x s₁ e a (.int i)) (h' : QV X sc cl x s₁ e' a (.ref l))
    (hm : behindInMarks .In e' = false := by with_unfolding_all rfl) : QT X sc cl x s₁ (.Compare e [.In] [e'] pos) a (inV (.int i) (xs.map V.int)) := fun C t s₂ m₂ E' wh g1 g2 g3 => by
  refine wpAny_isTrue_Compare1 (qv_two h h' g1 g2 g3 fun u u' s' r r' k => ?_) hm
  cases r'
  obtain ⟨its, rv, pl0, hz⟩ := I.list hq
  have pl := PlainL.up pl0 fun b o q => kpH k b o (g3 b o q)
  refine SeqAt.in_listAt (eqU (.int i)) pl.isList (fun w hw => mem_eqAt r rfl rv (flat_ints xs) w (by simpa using hw)) (wpAny_truthy_bool ⟨?_, k⟩)
  rw [show its.toArray.any (eqU (.int i)) = its.any (eqU (.int i)) by simp, any_eqU rv (flat_ints xs)]
  rfl
end
/-! ### str.join, str.partition -/
theorem strs_are : ∀ {ts : List Str} {its : List Value}, Vals (ts.map V.str) its → StrsAre its ts
  | [], _, h => by cases h; exact .nil
  | y :: r, _, h => by
    cases h with
    | cons r1 rest =>
      obtain ⟨t, rfl⟩ := r1
      exact .cons y t (strs_are rest)
theorem mt_join {X : Cx} : MtR X "str.join" (fun x xs H Q => ∃ (sep : Str) (p : Addr) (ts : List Str), x = .str sep ∧ xs = [.ref p] ∧ SqL X.K H p (ts.map V.str) ∧ ((ts.map (·.length)).sum + ts.length * sep.length ≤ 16777216) ∧ Q (.str (Str.join sep ts)) H) := by
  intro pins s σ H x xs v us Q I r1 r2 h
  obtain ⟨sep, p, ts, rfl, rfl, hS, hok, q⟩ := h
  obtain ⟨t, rfl⟩ := r1
  obtain ⟨u, rfl, ru⟩ := vals1 r2
  cases ru
  obtain ⟨its, rv, pl, hz⟩ := I.list hS
  exact join_list pl.isList (by simpa using strs_are rv) hok fun t' k => ⟨.str _, H, I.tok _, ⟨t', rfl⟩, by rw [show Txt.join sep ts = Str.join sep ts from StrLaws.glued_eq_join sep ts]; exact q⟩
theorem mt_part {X : Cx} : MtR X "str.partition" (fun x xs H Q => ∃ (a b : Str), x = .str a ∧ xs = [.str b] ∧ ((b.length == 0) = false ∧ a.length ≤ sizeLine) ∧
    ∀ p H2, Same H H2 → H p = none → H2 p = some (.tup [.str (Txt.partition a b).1, .str (Txt.partition a b).2.1, .str (Txt.partition a b).2.2]) → Q (.ref p) H2) := by
  intro pins s σ H x xs v us Q I r1 r2 h
  obtain ⟨a, b, rfl, rfl, ⟨hb, hsz⟩, q⟩ := h
  obtain ⟨t, rfl⟩ := r1
  obtain ⟨u, rfl, ru⟩ := vals1 r2
  obtain ⟨t', rfl⟩ := ru
  have fin : ∀ {ta tb tc : Tok} {k : Nat}, EP X pins σ Q (.ref s.heap.objs.size) { s with heap := s.heap.push { cls := .type "tuple", data := .seq [.str (Txt.partition a b).1 ta, .str (Txt.partition a b).2.1 tb, .str (Txt.partition a b).2.2 tc].toArray }, toks := k } := fun {ta tb tc k} =>
    ⟨.ref s.heap.objs.size, upd H s.heap.objs.size (.tup [.str (Txt.partition a b).1, .str (Txt.partition a b).2.1, .str (Txt.partition a b).2.2]),
      I.laid (t' := k) (fun b u e => Heap.get?_push_of_some _ e) (Nat.le_refl _) ⟨small3, _, .cons ⟨ta, rfl⟩ (.cons ⟨tb, rfl⟩ (.cons ⟨tc, rfl⟩ .nil)), ⟨_, Heap.get?_push_size _ rfl, rfl, _, rfl⟩⟩, rfl, q _ _ (same_new I.fresh _) I.fresh upd_same⟩
  refine call_meets F.slot_str_partition (typeIs_str _ _ _) F.entry_str_partition (F.args_str_partition_2 _ _) (meets_str_partition a b t t' hb hsz) ?_
  have fin' := @fin
  unfold Txt.partition at fin'
  revert fin'
  cases Builtin.Str.occurrences a b 0 a.length 1 with
  | nil => intro fin'; exact fin'
  | cons i r => intro fin'; exact fin'
/-! ### [.. for a, b in enumerate(text) if ..] -/
section
variable {prog : Program} {w : World} {A : Around} {E : Value → Shared → Prop} {env : Env}
theorem comp_block_pair {elt iter c : Expr} {a b : Str} {pa pb tp : Pos} {kk : Nat} {scope : Scope} {cl : List (Str × Addr)} {pos : Pos} {s₂ : Shared} {I : Addr} {fp wr : List Addr} {n : Nat} {Pt : Nat → Array Value → Prop} {St : Nat → Heap → Prop} {Mid : Nat → Addr → Heap → Prop}
    (W : WalksT prog w A I fp wr n Pt St Mid) (hsz : n ≤ sizeLine) (hh : A.handled = none) (p : Nat → Bool) (F : Nat → Value → Prop) {RR : Value → Addr → Result → Shared → Prop}
    (hcell : ∀ y ∈ scope.names, y.2 ≠ .cell) (hkind : scope.kind = .function) (ha : scope.names.lookup a = some .local) (hb : scope.names.lookup b = some .local) (hab : a ≠ b) (hst : St 0 s₂.heap) (hfp : ∀ d ∈ fp, d < s₂.heap.objs.size)
    (h2 : ∀ i vals, Pt i vals → ∃ x y, vals = #[x, y])
    (tests : ∀ C i x y s₃ m₃ E', i < n → Pt i #[x, y] → s₃.heap.Ns C m₃ → m₃ a = some x → m₃ b = some y → (∀ d o, d ∉ wr → s₂.heap.get? d = some o → s₃.heap.get? d = some o) →
      wpAny (model prog w) A (isTrue c (compEnvC scope cl C env) (eval c (compEnvC scope cl C env))) (fun ok s₄ => ok = p i ∧ Keeps s₃ s₄) E' s₃)
    (eltq : ∀ C i x y s₃ m₃ E', i < n → Pt i #[x, y] → p i = true → s₃.heap.Ns C m₃ → m₃ a = some x → m₃ b = some y → (∀ d o, d ∉ wr → s₂.heap.get? d = some o → s₃.heap.get? d = some o) →
      wpAny (model prog w) A (eval elt (compEnvC scope cl C env)) (fun v s₄ => F i v ∧ Keeps s₃ s₄) E' s₃)
    (hRR : ∀ D C h' tk m' ys, s₂.heap.get? D = none → s₂.heap.get? C = none → D ≠ C → h'.Ns C m' → h'.PlainList D ys → Paired F ((List.range n).filter p) ys.toList → (∀ d o, d ∉ wr → s₂.heap.get? d = some o → h'.get? d = some o) →
      RR (.ref D) C (.ok .next) { s₂ with heap := h', toks := tk }) :
    wpAny (model prog w) A (newList []) (fun acc s₃ => wpAny (model prog w) A (newFunctionEnv scope env.globals cl [] env.qual none .none (some env)) (fun cenv s₄ =>
      codeAny (model prog w) A (.compStart (.ListComp elt [⟨.Tuple [.Name a pa, .Name b pb] kk tp, iter, [c], 0⟩] scope pos) 0 (.ref I) acc { cenv with scope := relabel scope env }) (RR acc cenv.locals) s₄) E s₃) E s₂ := by
  refine wpAny_newObj_type (wpAny_newFunctionEnv hcell (by intro y hy; simp at hy) (fun h₁ hns₁ hsb₁ => ?_) hkind)
  dsimp only at hns₁ hsb₁ ⊢
  generalize hH2 : s₂.heap.push { cls := .type "list", dict := none, data := .seq ([] : List Value).toArray } = H2 at hns₁ hsb₁ ⊢
  have hC : H2.objs.size = s₂.heap.objs.size + 1 := by rw [← hH2, Heap.size_push]
  have hDC : s₂.heap.objs.size ≠ H2.objs.size := by rw [hC]; exact Nat.ne_of_lt (Nat.lt_succ_self _)
  have below : ∀ b, b < s₂.heap.objs.size → b ≠ H2.objs.size ∧ b ≠ s₂.heap.objs.size := fun b hb => ⟨by rw [hC]; exact Nat.ne_of_lt (Nat.lt_succ_of_lt hb), Nat.ne_of_lt hb⟩
  have hDf : s₂.heap.objs.size ∉ fp := fun hm => Nat.lt_irrefl _ (hfp _ hm)
  have hCf : H2.objs.size ∉ fp := fun hm => by have := hfp _ hm; rw [hC] at this; exact Nat.lt_irrefl _ (Nat.lt_of_succ_lt this)
  have old : ∀ b o, s₂.heap.get? b = some o → h₁.get? b = some o := fun b o e => hsb₁.extBut b o (below b (Heap.lt_size e)).1 (Heap.get?_push_of_some _ (hH2 ▸ Heap.get?_push_of_some _ e))
  have hacc : h₁.PlainList s₂.heap.objs.size #[] := ⟨_, hsb₁.extBut _ _ hDC (Heap.get?_push_of_some _ (hH2 ▸ Heap.get?_push_size _ rfl))⟩
  have hst₁ : St 0 h₁ := W.frame _ _ _ hst fun b _ o e => old b o e
  have fresh : ∀ a, s₂.heap.objs.size ≤ a → s₂.heap.get? a = none := fun a ha => by
    cases e : s₂.heap.get? a with
    | none => rfl
    | some o' => exact absurd (Heap.lt_size e) (Nat.not_lt.mpr ha)
  have loop : ∀ s₃ : Shared, s₃ = { s₂ with heap := h₁, toks := s₂.toks + ([] : List (Str × Value)).length } →
      codeAny (model prog w) A (.compLoop (.ListComp elt [⟨.Tuple [.Name a pa, .Name b pb] kk tp, iter, [c], 0⟩] scope pos) 0 (.ref I) (.ref s₂.heap.objs.size) (compEnvC scope cl H2.objs.size env))
        (RR (.ref s₂.heap.objs.size) H2.objs.size) s₃ := by
    rintro s₃ rfl
    refine PySem.W.kct_loop (fun k s' => ∃ h' tk i ys m', s' = { s₂ with heap := h', toks := tk } ∧ i ≤ n ∧ k = n + 1 - i ∧ St i h' ∧ h'.Ns H2.objs.size m' ∧ h'.PlainList s₂.heap.objs.size ys ∧ Paired F ((List.range i).filter p) ys.toList ∧ (∀ d o, d ∉ wr → s₂.heap.get? d = some o → h'.get? d = some o)) ?_ (n + 1)
      ⟨h₁, _, 0, #[], _, rfl, Nat.zero_le _, rfl, hst₁, hns₁, hacc, .nil, fun d o _ e => old d o e⟩
    rintro k s' ⟨h', tk, i, ys, m', rfl, hi, rfl, hst', hn', hacc', hF, hk⟩
    have hCw : H2.objs.size ∉ wr := fun h => hCf (W.sub _ h)
    have hDw : s₂.heap.objs.size ∉ wr := fun h => hDf (W.sub _ h)
    by_cases hlt : i < n
    · refine W.item i _ _ _ hlt hst' fun T vals h₂ tk₂ hPt hTn hT hMid hk₂ => ?_
      obtain ⟨x, y, rfl⟩ := h2 i vals hPt
      refine W.go _ _ _ i T _ _ _ hMid fun h₃ hst₃ hk₃ => ?_
      have hTw := W.apart _ _ _ hMid
      have ht : IsTup h₃ T #[x, y] := by
        obtain ⟨o, e, r⟩ := hT
        exact ⟨o, hk₃ _ _ hTw e, r⟩
      refine assign_Tuple_tuple hh ht rfl rfl fun h₅ he => ?_
      have he' : ∀ b o, h₃.get? b = some o → h₅.get? b = some o := fun b o e => he b o (Nat.ne_of_lt (Heap.lt_size e)) e
      refine assignInOrder_cons (wpAny_assign_Name (wpAny_storeName_local (lookup_relabel_local ha) (((hn'.at' fun o e => hk₂ _ o hCw e).at' fun o e => hk₃ _ o hCw e).at' fun o e => he' _ o e) (fun h₆ hn₆ hs₆ => ?_) (by simp [compEnvC, relabel, hkind])))
      refine assignInOrder_cons (wpAny_assign_Name (wpAny_storeName_local (lookup_relabel_local hb) hn₆ (fun h₇ hn₇ hs₇ => ?_) (by simp [compEnvC, relabel, hkind])))
      refine assignInOrder_nil ?_
      have up3 : ∀ d o, d ≠ H2.objs.size → h₃.get? d = some o → h₇.get? d = some o := fun d o hd e => hs₇.extBut d o hd (hs₆.extBut d o hd (he' d o e))
      have up : ∀ d o, d ≠ H2.objs.size → d ∉ wr → h'.get? d = some o → h₇.get? d = some o := fun d o hd hw e => up3 d o hd (hk₃ d o hw (hk₂ d o hw e))
      have hst₇ : St (i + 1) h₇ := W.frame _ _ _ hst₃ fun d hd o e => up3 d o (fun q => hCf (q ▸ hd)) e
      have keep7 : ∀ d o, d ∉ wr → s₂.heap.get? d = some o → h₇.get? d = some o := fun d o hd e => up d o (below d (Heap.lt_size e)).1 hd (hk d o hd e)
      refine wpAny_mono (tests H2.objs.size i x y _ _ _ hlt hPt hn₇ (by simp [hab]) (by simp) keep7) (fun ok s₄ h₄ => ?_) fun _ _ e => e
      obtain ⟨rfl, h₄, tk₄, rfl, hk₄⟩ := h₄
      have hst₄ : St (i + 1) h₄ := W.frame _ _ _ hst₇ fun d _ o e => hk₄ d o e
      have hacc₄ : h₄.PlainList s₂.heap.objs.size ys := hacc'.at fun o e => hk₄ _ o (up _ o hDC hDw e)
      have hn₄ := hn₇.keeps hk₄
      have keep4 : ∀ d o, d ∉ wr → s₂.heap.get? d = some o → h₄.get? d = some o := fun d o hd e => hk₄ d o (keep7 d o hd e)
      cases hp : p i with
      | false =>
        simp only [Bool.false_eq_true, if_false]
        refine ⟨n + 1 - (i + 1), by omega, h₄, tk₄, i + 1, ys, _, rfl, hlt, rfl, hst₄, hn₄, hacc₄, ?_, keep4⟩
        rw [List.range_succ, List.filter_append]
        simpa [hp] using hF
      | true =>
        simp only [if_true]
        refine wpAny_mono (eltq H2.objs.size i x y _ _ _ hlt hPt hp hn₄ (by simp [hab]) (by simp) keep4) (fun v s₅ h₅ => ?_) fun _ _ e => e
        obtain ⟨hFv, h₅, tk₅, rfl, hk₅⟩ := h₅
        have hys : ys.size ≤ sizeLine := by
          have e1 := hF.length
          have e2 : ((List.range i).filter p).length ≤ (List.range i).length := List.length_filter_le _ _
          rw [List.length_range] at e2
          have e4 : ys.toList.length = ys.size := by simp
          omega
        refine wpAny_list_append_plain (hsz := hys) (hacc₄.at fun o e => hk₅ _ o e) fun h₆ hl₆ hs₆ => ?_
        refine ⟨n + 1 - (i + 1), by omega, h₆, tk₅, i + 1, ys.push v, _, rfl, hlt, rfl, W.frame _ _ _ hst₄ fun d hd o e => hs₆.extBut d o (fun q => hDf (q ▸ hd)) (hk₅ d o e), (hn₄.keeps hk₅).sameBut hs₆ (Ne.symm hDC), hl₆, ?_, fun d o hd e => hs₆.extBut d o (below d (Heap.lt_size e)).2 (hk₅ d o (keep4 d o hd e))⟩
        rw [List.range_succ, List.filter_append]
        simpa [hp] using Paired.snoc hF hFv
    · have hin : i = n := by omega
      subst hin
      refine W.done _ _ _ hst' fun h₂ tk₂ hk₂ => ?_
      exact hRR _ _ h₂ tk₂ m' ys (fresh _ (Nat.le_refl _)) (fresh _ (by rw [hC]; exact Nat.le_succ _)) hDC (hn'.at' fun o e => hk₂ _ o hCw e) (hacc'.at fun o e => hk₂ _ o hDw e) hF fun d o hd e => hk₂ d o hd (hk d o hd e)
  exact codeAny_compStart_list (loop _ rfl) (W.self 0 _ _ _ hst₁ (loop _ rfl))
theorem draws_str {it : Addr} {x : Str} {t : Tok} {h' : Heap} (hh : A.handled = none) (hit : h'.IsStrIter it (strIterType x) x t 0) :
    ∃ St : Nat → Heap → Prop, Draws prog w A it [it] x.cps.size (fun i v => ∃ c u, x.cps[i]? = some c ∧ v = .str ⟨#[c]⟩ u) St ∧ St 0 h' := by
  cases ha : x.cps.all (· < 128)
  · exact ⟨_, Draws.strWide hh it x t, by simpa [strIterType, ha] using hit⟩
  · exact ⟨_, Draws.strAscii hh it x t, by simpa [strIterType, ha] using hit⟩
end
/-- in the block, at the place i with the sign ch -/
def QV2 (X : Cx) (sc : Scope) (cl : List (Str × Addr)) (a b : Str) (s₁ : Shared) (e : Expr) (i ch : Nat) (v : V) : Prop :=
  ∀ C t u s₂ m₂ E', s₂.heap.Ns C m₂ → m₂ a = some (.int (i : Int) t) → m₂ b = some (.str ⟨#[ch]⟩ u) → (∀ d o, s₁.heap.get? d = some o → s₂.heap.get? d = some o) →
    wpAny (model X.prog X.w) X.A (eval e (compEnvC sc cl C X.env)) (fun y s₃ => RelV v y ∧ Keeps s₂ s₃) E' s₂
def QT2 (X : Cx) (sc : Scope) (cl : List (Str × Addr)) (a b : Str) (s₁ : Shared) (e : Expr) (i ch : Nat) (r : Bool) : Prop :=
  ∀ C t u s₂ m₂ E' wh, s₂.heap.Ns C m₂ → m₂ a = some (.int (i : Int) t) → m₂ b = some (.str ⟨#[ch]⟩ u) → (∀ d o, s₁.heap.get? d = some o → s₂.heap.get? d = some o) →
    wpAny (model X.prog X.w) X.A (isTrue e (compEnvC sc cl C X.env) wh) (fun ok s₃ => ok = r ∧ Keeps s₂ s₃) E' s₂
section
variable {X : Cx} {sc : Scope} {cl : List (Str × Addr)} {a b : Str} {s₁ : Shared} {i ch : Nat} {e e' : Expr} {pos : Pos}
theorem qv2_a (hk : sc.kind = .function) (hx : sc.names.lookup a = some .local) (hd : (a == ("__debug__" : Str)) = false := by decide) : QV2 X sc cl a b s₁ (.Name a pos) i ch (.int (i : Int)) := fun C t u s₂ m₂ E' h1 h2 h3 h4 =>
  wpAny_Name (wpAny_loadName_local (by simp [compEnvC, relabel, hk]) (lookup_relabel_local hx) h1 h2 ⟨⟨t, rfl⟩, kpR _⟩) hd
theorem qv2_b (hk : sc.kind = .function) (hx : sc.names.lookup b = some .local) (hd : (b == ("__debug__" : Str)) = false := by decide) : QV2 X sc cl a b s₁ (.Name b pos) i ch (.str ⟨#[ch]⟩) := fun C t u s₂ m₂ E' h1 h2 h3 h4 =>
  wpAny_Name (wpAny_loadName_local (by simp [compEnvC, relabel, hk]) (lookup_relabel_local hx) h1 h3 ⟨⟨u, rfl⟩, kpR _⟩) hd
theorem qv2_str {z : Str} {j : Nat} : QV2 X sc cl a b s₁ (.Constant (.str z) j pos) i ch (.str z) := fun C t u s₂ m₂ E' h1 h2 h3 h4 => Calls.Constant_str ⟨⟨_, rfl⟩, kpK _ _⟩
theorem qv2_cap {pins : List (Addr × Obj)} {σ : St} {H : Hp} {k : Nat} {n : Str} {v : V} {c : Addr} (I : Inv X pins σ H s₁) (hi : X.N[k]? = some n) (hσ : σ[k]? = some (some v)) (hkX : X.env.kindOf n = some .cell) (hk : sc.kind = .function)
    (hl : ∀ C, (compEnvC sc cl C X.env).kindOf n = some .cell) (hc : cl.lookup n = some c) (hcX : X.env.cells.lookup n = some c) (hd : (n == ("__debug__" : Str)) = false := by decide) : QV2 X sc cl a b s₁ (.Name n pos) i ch v := fun C t u s₂ m₂ E' h1 h2 h3 h4 => by
  obtain ⟨m, hn, hl'⟩ := I.loc
  obtain ⟨u, r, q⟩ := hl' k n v hi hσ (.inr (.inl hkX))
  rcases q with ⟨k, _⟩ | ⟨_, c', e, z⟩
  · rw [hkX] at k; cases k
  · rw [hcX] at e; cases e
    obtain ⟨o, ho, hd'⟩ := z
    exact wpAny_Name (wpAny_loadName_cell (by simp [compEnvC, relabel, hk]) (hl C) hc ⟨o, h4 _ _ ho, hd'⟩ ⟨r, kpR _⟩) hd
theorem qv2_two {v v' : V} (h : QV2 X sc cl a b s₁ e i ch v) (h' : QV2 X sc cl a b s₁ e' i ch v') {f : Value → Value → Sem Value} {C : Addr} {t u : Tok} {s₂ : Shared} {m₂ : Str → Option Value} {E' : Value → Shared → Prop} {Q : Value → Shared → Prop} (h1 : s₂.heap.Ns C m₂) (h2 : m₂ a = some (.int (i : Int) t)) (h3 : m₂ b = some (.str ⟨#[ch]⟩ u))
    (h4 : ∀ d o, s₁.heap.get? d = some o → s₂.heap.get? d = some o) (hf : ∀ u u' s', RelV v u → RelV v' u' → Keeps s₂ s' → wpAny (model X.prog X.w) X.A (f u u') Q E' s') :
    wpAny (model X.prog X.w) X.A (eval e (compEnvC sc cl C X.env)) (fun u s3 => wpAny (model X.prog X.w) X.A (eval e' (compEnvC sc cl C X.env)) (fun u' s4 => wpAny (model X.prog X.w) X.A (f u u') Q E' s4) E' s3) E' s₂ :=
  thn (h C t u s₂ m₂ E' h1 h2 h3 h4) fun w1 s3 ⟨r, k⟩ => thn (h' C t u s3 m₂ E' (ns_up h1 (kpH k)) h2 h3 fun b o q => kpH k b o (h4 b o q)) fun u' s4 ⟨r', k'⟩ => hf w1 u' s4 r r' (kpT k k')
theorem qv2_sub {x y : Int} (h : QV2 X sc cl a b s₁ e i ch (.int x)) (h' : QV2 X sc cl a b s₁ e' i ch (.int y)) : QV2 X sc cl a b s₁ (.BinOp e .Sub e' pos) i ch (.int (x - y)) := fun C t u s₂ m₂ E' h1 h2 h3 h4 =>
  wpAny_BinOp (qv2_two h h' h1 h2 h3 h4 fun u u' s' ⟨t1, r⟩ ⟨t2, r'⟩ k => by subst r r'; exact sub_int ⟨⟨_, rfl⟩, kpT k (kpK _ _)⟩)
theorem qt2_eqS {x y : Str} (h : QV2 X sc cl a b s₁ e i ch (.str x)) (h' : QV2 X sc cl a b s₁ e' i ch (.str y)) : QT2 X sc cl a b s₁ (.Compare e [.Eq] [e'] pos) i ch (x == y) := fun C t u s₂ m₂ E' wh h1 h2 h3 h4 =>
  wpAny_isTrue_Compare1 (qv2_two h h' h1 h2 h3 h4 fun u u' s' ⟨t1, r⟩ ⟨t2, r'⟩ k => by subst r r'; exact eq_str (wpAny_truthy_bool ⟨rfl, k⟩)) (nomark _)
end
theorem paired_vals {f : Nat → Int} : ∀ {ks : List Nat} {ys : List Value}, Paired (fun i v => ∃ t, v = Value.int (f i) t) ks ys → Vals ((ks.map f).map V.int) ys
  | [], _, h => by cases h; exact .nil
  | k :: ks, _, h => by
    cases h with
    | cons r rest =>
      obtain ⟨t, rfl⟩ := r
      exact .cons ⟨t, rfl⟩ (paired_vals rest)
section
variable {X : Cx} {sc : Scope} {cl : List (Str × Addr)} {a b : Str} {elt txt c : Expr} {pos pa pb tp pp cpos : Pos} {kk : Nat}
theorem pe_compE {ta : TA} (hg : Gl X "enumerate") (hm : X.mg "enumerate" = none) (hta : PA X [txt] ta) (hc : X.calm = true) (hclos : closureFor sc X.env = pure cl) (hcell : ∀ y ∈ sc.names, y.2 ≠ .cell) (hkind : sc.kind = .function)
    (hnames : ∀ y ∈ sc.names, y.2 = .local → sc.names.lookup y.1 = some .local) (ha : sc.names.lookup a = some .local) (hb : sc.names.lookup b = some .local) (hab : a ≠ b)
    (hs : ∀ v, foldedSetIterable (.Call (.Name "enumerate" pp) [txt] [] cpos) X.env v = pure v := by intro _; rfl) (hst : starEach [txt] X.env = [(false, eval txt X.env)] := by rfl) :
    PE X (.ListComp elt [⟨.Tuple [.Name a pa, .Name b pb] kk tp, .Call (.Name "enumerate" pp) [txt] [] cpos, [c], 0⟩] sc pos) (fun σ H Q => ta σ H fun vs H1 => ∃ x : Str, vs = [.str x] ∧ x.length ≤ sizeLine ∧ ∃ (p : Nat → Bool) (f : Nat → Int),
      (∀ pins s₁, Inv X pins σ H1 s₁ → ∀ i ch, x.cps[i]? = some ch → QT2 X sc cl a b s₁ c i ch (p i) ∧ (p i = true → QV2 X sc cl a b s₁ elt i ch (.int (f i)))) ∧
      ∀ D H2, Same H1 H2 → H1 D = none → H2 D = some (li (((List.range x.cps.size).filter p).map f)) → Q (.ref D) H2) := by
  intro pins s σ H Q I h
  rw [eval_ListComp]
  refine wpAny_comprehension_free (use := none) rfl hs hclos hkind hnames ?_
  refine Call_ (ld_blt I hg hm boot_enumerate (PyProof.Rows.callWith_type1 (thn (hta cpos pins s σ H _ I h) fun us s1 ⟨vs, H1, I1, r1, q1⟩ => ?_) hst rfl))
  obtain ⟨x, rfl, hsz, p, f, hq, hK⟩ := q1
  obtain ⟨u, rfl, ru⟩ := vals1 r1
  obtain ⟨t, rfl⟩ := ru
  refine call_enumerate_str fun h' he hit hsz' hk => ?_
  have hh : X.A.handled = none := I.ok.hd hc
  obtain ⟨St, D, st0⟩ := draws_str (prog := X.prog) (w := X.w) (A := X.A.in1) (t := t) hh hit
  refine wpAny_pyIter_enum he ?_
  have W := WalksT.enumerateD (A := X.A) D (s1.heap.objs.size + 1) (Nat.succ_ne_self _) (fun hm => Nat.succ_ne_self _ (List.mem_singleton.mp hm)) (List.mem_singleton.mpr rfl)
  refine comp_block_pair (s₂ := { s1 with heap := h' }) (RR := fun acc C => compPost (model X.prog X.w) X.A X.xe none (EP X pins σ Q) acc C) W hsz hh p (fun i v => ∃ t, v = Value.int (f i) t) hcell hkind ha hb hab ⟨⟨_, he⟩, st0⟩ (fun d hd => ?_) (fun i vals hP => ?_) (fun C i v y s₃ m₃ E' hi hP hn ma mb hk3 => ?_) (fun C i v y s₃ m₃ E' hi hP hp hn ma mb hk3 => ?_) ?_
  · show d < h'.objs.size
    rw [hsz']
    simp only [List.mem_cons, List.not_mem_nil, or_false] at hd
    rcases hd with rfl | rfl
    · exact Nat.lt_succ_self _
    · exact Nat.lt_succ_of_lt (Nat.lt_succ_self _)
  · obtain ⟨t, x, _, e⟩ := hP
    exact ⟨_, _, e⟩
  · obtain ⟨t', v', ⟨ch, u', hch, rfl⟩, e⟩ := hP
    obtain ⟨rfl, rfl⟩ : v = .int (i : Int) t' ∧ y = .str ⟨#[ch]⟩ u' := by
      have := congrArg Array.toList e
      simpa using this
    have keep : ∀ d o, s1.heap.get? d = some o → s₃.heap.get? d = some o := fun d o e => hk3 d o (fun hm => ?_) (hk d o e)
    exact (hq pins s1 I1 i ch hch).1 C t' u' s₃ m₃ E' _ hn ma mb keep
    have := Heap.lt_size e
    simp only [List.mem_cons, List.not_mem_nil, or_false] at hm
    rcases hm with rfl | rfl
    · exact absurd this (Nat.not_lt.mpr (Nat.le_succ _))
    · exact absurd this (Nat.lt_irrefl _)
  · obtain ⟨t', v', ⟨ch, u', hch, rfl⟩, e⟩ := hP
    obtain ⟨rfl, rfl⟩ : v = .int (i : Int) t' ∧ y = .str ⟨#[ch]⟩ u' := by
      have := congrArg Array.toList e
      simpa using this
    have keep : ∀ d o, s1.heap.get? d = some o → s₃.heap.get? d = some o := fun d o e => hk3 d o (fun hm => ?_) (hk d o e)
    exact thn ((hq pins s1 I1 i ch hch).2 hp C t' u' s₃ m₃ E' hn ma mb keep) fun y s₄ ⟨⟨t2, r⟩, k⟩ => ⟨⟨t2, r⟩, k⟩
    have := Heap.lt_size e
    simp only [List.mem_cons, List.not_mem_nil, or_false] at hm
    rcases hm with rfl | rfl
    · exact absurd this (Nat.not_lt.mpr (Nat.le_succ _))
    · exact absurd this (Nat.lt_irrefl _)
  · intro D C h'' tk m' ys hD hC hDC hnC hpl hF hkk
    refine ⟨m', hnC, fun h3 hs3 => ?_⟩
    have none1 : ∀ {d}, h'.get? d = none → s1.heap.get? d = none := fun {d} e => by
      cases q : s1.heap.get? d with
      | none => rfl
      | some o => have := hk d o q; rw [e] at this; cases this
    have hD1 := none1 hD
    have keep : ∀ d o, s1.heap.get? d = some o → h3.get? d = some o := fun d o e => hs3.extBut d o (by rintro rfl; rw [none1 hC] at e; cases e) (hkk d o (fun hm => by
      have := Heap.lt_size e
      simp only [List.mem_cons, List.not_mem_nil, or_false] at hm
      rcases hm with rfl | rfl
      · exact absurd this (Nat.not_lt.mpr (Nat.le_succ _))
      · exact absurd this (Nat.lt_irrefl _)) (hk d o e))
    have J : Inv X pins σ (upd H1 D (li (((List.range x.cps.size).filter p).map f))) { s1 with heap := h3, toks := tk } := by
      obtain ⟨n', e⟩ := hpl.extBut hs3.extBut hDC
      refine Inv.laid' I1 keep hD1 ⟨?_, ys.toList, n', paired_vals hF, by simpa using e⟩
      rw [List.length_map, List.length_map]
      have := List.length_filter_le p (List.range x.cps.size)
      rw [List.length_range] at this
      exact Nat.le_trans this hsz
    exact ⟨.ref D, _, J, rfl, hK D _ (same_new (hok_none I1.hok hD1) _) (hok_none I1.hok hD1) upd_same⟩
end
end L2

set_option Elab.async false
set_option linter.all false
set_option maxRecDepth 100000
namespace Gold
/-! the places that a note tells -/
theorem dec_ext : ∀ (xs ys : List Int), xs.Pairwise (· > ·) → ys.Pairwise (· > ·) → (∀ z, z ∈ xs ↔ z ∈ ys) → xs = ys
  | [], [], _, _, _ => rfl
  | [], y :: r, _, _, h => absurd ((h y).mpr (List.mem_cons_self ..)) (by simp)
  | x :: r, [], _, _, h => absurd ((h x).mp (List.mem_cons_self ..)) (by simp)
  | x :: r, y :: q, hx, hy, h => by
    rw [List.pairwise_cons] at hx hy
    have e : x = y := by
      rcases List.mem_cons.mp ((h x).mp (List.mem_cons_self ..)) with e | e
      · exact e
      · have h1 := hy.1 x e
        rcases List.mem_cons.mp ((h y).mpr (List.mem_cons_self ..)) with e2 | e2
        · exact e2.symm
        · have h2 := hx.1 y e2
          omega
    subst e
    congr 1
    refine dec_ext r q hx.2 hy.2 fun z => ⟨fun hz => ?_, fun hz => ?_⟩
    · rcases List.mem_cons.mp ((h z).mp (List.mem_cons_of_mem _ hz)) with e | e
      · have := hx.1 z hz; omega
      · exact e
    · rcases List.mem_cons.mp ((h z).mpr (List.mem_cons_of_mem _ hz)) with e | e
      · have := hy.1 z hz; omega
      · exact e
theorem gap_pair : ∀ (xs : List Int), Gap xs → xs.Pairwise (· > ·)
  | [], _ => .nil
  | a :: r, h => List.pairwise_cons.mpr ⟨fun y hy => by have := gap_desc r a h y hy; omega, gap_pair r h.tail⟩
def figL (xs : List Int) (g : Int) (n : Nat) : List Nat := (List.range n).map fun (k : Nat) => fg xs (g - (k : Int))
/-- the text ahead of the first point, and what is behind it -/
def Cut (l a b : List Nat) : Prop := (46 ∉ l ∧ a = l ∧ b = []) ∨ (46 ∉ a ∧ l = a ++ 46 :: b)
def placesL (a b : List Nat) : List Int := ((List.range (a ++ b).length).filter fun i => (a ++ b)[i]? == some 49).map fun (i : Nat) => ((a.length : Int) - 1) - (i : Int)
theorem cut_uniq : ∀ (a c b d : List Nat), 46 ∉ a → 46 ∉ c → a ++ 46 :: b = c ++ 46 :: d → a = c ∧ b = d
  | [], [], b, d, _, _, h => ⟨rfl, by simpa using h⟩
  | [], y :: c, b, d, _, hc, h => by
    have e : 46 = y := by simpa using congrArg List.head? h
    exact absurd (e ▸ List.mem_cons_self ..) hc
  | x :: a, [], b, d, ha, _, h => by
    have e : x = 46 := by simpa using congrArg List.head? h
    exact absurd (e ▸ List.mem_cons_self ..) ha
  | x :: a, y :: c, b, d, ha, hc, h => by
    have e : x = y ∧ a ++ 46 :: b = c ++ 46 :: d := by simpa using h
    have := cut_uniq a c b d (fun z => ha (List.mem_cons_of_mem _ z)) (fun z => hc (List.mem_cons_of_mem _ z)) e.2
    exact ⟨by rw [e.1, this.1], this.2⟩
theorem figL_pt {xs : List Int} {g : Int} {n : Nat} : 46 ∉ figL xs g n := fun h => by
  unfold figL at h
  obtain ⟨k, _, e⟩ := List.mem_map.mp h
  rcases fg_val xs (g - (k : Int)) with z | z <;> omega
theorem ahead_fig (xs : List Int) (h : Nat) : ahead xs h = figL xs (h : Int) (h + 1) := rfl
theorem behind_fig (xs : List Int) (m : Nat) : behindP xs m = figL xs (-1) m := rfl
theorem fig_join (xs : List Int) (h m : Nat) : ahead xs h ++ behindP xs m = figL xs (h : Int) (h + 1 + m) := by
  rw [ahead_fig, behind_fig]
  unfold figL
  rw [show List.range (h + 1 + m) = List.range (h + 1) ++ (List.range m).map (h + 1 + ·) from List.range_add, List.map_append, List.map_map]
  congr 1
  apply List.map_congr_left
  intro k _
  show fg xs (-1 - (k : Int)) = fg xs ((h : Int) - ((h + 1 + k : Nat) : Int))
  congr 1
  omega
theorem note_cut {xs : List Int} {a b : List Nat} (hc : Cut (noteL xs) a b) : ∃ h m, Shape xs (noteL xs) h m ∧ a ++ b = figL xs (h : Int) (h + 1 + m) ∧ a.length = h + 1 := by
  obtain ⟨h, m, S⟩ := shape_of xs
  refine ⟨h, m, S, ?_⟩
  have e := S.eq
  rcases hc with ⟨h1, rfl, rfl⟩ | ⟨h1, h2⟩
  · have hm : m = 0 := by
      rcases Nat.eq_zero_or_pos m with z | z
      · exact z
      · exfalso
        apply h1
        rw [e, if_neg (by omega)]
        simp
    subst hm
    rw [if_pos rfl, List.append_nil] at e
    rw [List.append_nil, e, ahead_len]
    exact ⟨rfl, rfl⟩
  · by_cases hm : m = 0
    · rw [if_pos hm, List.append_nil] at e
      exfalso
      apply figL_pt (xs := xs) (g := (h : Int)) (n := h + 1)
      rw [← ahead_fig, ← e, h2]
      simp
    · rw [if_neg hm] at e
      have := cut_uniq a (ahead xs h) b (behindP xs m) h1 (by rw [ahead_fig]; exact figL_pt) (by rw [← h2, e])
      rw [this.1, this.2, fig_join, ahead_len]
      exact ⟨rfl, rfl⟩
theorem read_note {xs : List Int} {a b : List Nat} (hg : Gap xs) (hc : Cut (noteL xs) a b) : placesL a b = xs := by
  obtain ⟨h, m, S, e, hl⟩ := note_cut hc
  unfold placesL
  rw [e, hl]
  have ge : ∀ i, i < h + 1 + m → (figL xs (h : Int) (h + 1 + m))[i]? = some (fg xs ((h : Int) - (i : Int))) := fun i hi => by
    unfold figL
    rw [List.getElem?_map, List.getElem?_range hi]; rfl
  have len : (figL xs (h : Int) (h + 1 + m)).length = h + 1 + m := by unfold figL; simp
  rw [len]
  apply dec_ext
  · rw [List.pairwise_map]
    exact (List.pairwise_lt_range.filter _).imp (fun {i j} hij => by omega)
  · exact gap_pair xs hg
  · intro z
    rw [List.mem_map]
    constructor
    · rintro ⟨i, hi, rfl⟩
      rw [List.mem_filter, List.mem_range] at hi
      have := hi.2
      rw [ge i hi.1] at this
      have e49 : fg xs ((h : Int) - (i : Int)) = 49 := by simpa using this
      have hin := fg_in.mp e49
      rw [show (((h + 1 : Nat) : Int) - 1) - (i : Int) = (h : Int) - (i : Int) by omega]
      exact hin
    · intro hz
      have r := S.inr z hz
      refine ⟨((h : Int) - z).toNat, ?_, by omega⟩
      rw [List.mem_filter, List.mem_range]
      refine ⟨by omega, ?_⟩
      rw [ge _ (by omega), show (h : Int) - ((((h : Int) - z).toNat : Nat) : Int) = z by omega, fg_in.mpr hz]
      rfl
end Gold
namespace L2
open PySem PySem.Spec PyProof.Rows Gold PySem.Builtin PySem.Builtin.Str
theorem str_list (t : Str) : t = strOf t.cps.toList := by
  cases t with
  | mk a => simp [strOf]
theorem part_split (l : List Nat) : ∃ a b sep, Txt.partition (strOf l) (Str.ofString ".") = (strOf a, sep, strOf b) ∧ Cut l a b := by
  rw [str_point]
  have hx : (strOf l).cps.toList = l := by simp [strOf]
  have hle : (strOf l).length = l.length := str_len l
  unfold Txt.partition
  rcases StrLaws.occ_head (strOf l) ⟨#[46]⟩ 1 (Nat.le_refl 1) with ⟨h0, hn⟩ | ⟨i, r, h0, hi, hn⟩
  · refine ⟨l, [], Str.empty, ?_, .inl ⟨fun hm => ?_, rfl, rfl⟩⟩
    · show (match occurrences (strOf l) ⟨#[46]⟩ 0 (strOf l).length 1 with | i :: _ => _ | [] => _) = _
      rw [h0]; rfl
    · obtain ⟨j, hj⟩ := List.getElem?_of_mem hm
      exact hn j ((StrLaws.subAt_one (strOf l) 46 j).mpr (by rw [hx]; exact hj))
  · have hm := (StrLaws.subAt_one (strOf l) 46 i).mp hi
    rw [hx] at hm
    have hil := (List.getElem?_eq_some_iff.mp hm).1
    refine ⟨l.take i, l.drop (i + 1), ⟨#[46]⟩, ?_, .inr ⟨fun h46 => ?_, ?_⟩⟩
    · show (match occurrences (strOf l) ⟨#[46]⟩ 0 (strOf l).length 1 with | i :: _ => _ | [] => _) = _
      rw [h0]
      show (strSub (strOf l) 0 i, _, strSub (strOf l) (i + 1) (strOf l).length) = _
      have e1 : strSub (strOf l) 0 i = strOf (l.take i) := by
        rw [str_list (strSub (strOf l) 0 i), StrLaws.strSub_toList, hx]; simp
      have e2 : strSub (strOf l) (i + 1) (strOf l).length = strOf (l.drop (i + 1)) := by
        rw [str_list (strSub (strOf l) (i + 1) (strOf l).length), StrLaws.strSub_toList, hx, hle]
        rw [List.take_of_length_le (by simp)]
      rw [e1, e2]; rfl
    · obtain ⟨j, hj⟩ := List.getElem?_of_mem h46
      have hji : j < i := by
        have := (List.getElem?_eq_some_iff.mp hj).1
        rw [List.length_take] at this
        omega
      rw [List.getElem?_take_of_lt hji] at hj
      exact hn j hji ((StrLaws.subAt_one (strOf l) 46 j).mpr (by rw [hx]; exact hj))
    · have e46 := (List.getElem?_eq_some_iff.mp hm).2
      rw [← e46, List.getElem_cons_drop, List.take_append_drop]
/-! the figures of a row -/
theorem join_ones' : ∀ (ls : List Nat), Str.join (strOf []) (ls.map fun c => strOf [c]) = strOf ls
  | [] => by simp [Str.join, strOf]; rfl
  | [c] => rfl
  | c :: d :: r => by
    show strOf [c] ++ strOf [] ++ Str.join (strOf []) ((d :: r).map fun c => strOf [c]) = _
    rw [join_ones' (d :: r), str_cat, str_cat]; rfl
theorem fig_list (xs : List Int) (g : Int) (n : Nat) : ((downto g n).filter fun _ => true).map (fun j => strOf [fg xs j]) = (figL xs g n).map fun c => strOf [c] := by
  rw [List.filter_eq_self.mpr (fun _ _ => rfl)]
  unfold downto figL
  rw [List.map_map, List.map_map]
  rfl
theorem join_figs (xs : List Int) (g : Int) (n : Nat) : Str.join (Str.ofString "") (((downto g n).filter fun _ => true).map fun j => strOf [fg xs j]) = strOf (figL xs g n) := by
  rw [fig_list, str_empty, join_ones']
theorem figs_ok (xs : List Int) (g : Int) {n : Nat} (hn : n ≤ 1000) : ((((downto g n).filter fun _ => true).map fun j => strOf [fg xs j]).map (·.length)).sum + (((downto g n).filter fun _ => true).map fun j => strOf [fg xs j]).length * (Str.ofString "").length ≤ 16777216 := by
  rw [fig_list, str_empty, List.map_map, str_len]
  have e : ((figL xs g n).map ((·.length) ∘ fun c => strOf [c])).sum = (figL xs g n).length := by
    generalize figL xs g n = l
    induction l with
    | nil => rfl
    | cons a r ih =>
      rw [List.map_cons, List.sum_cons, ih, List.length_cons]
      show (strOf [a]).length + r.length = r.length + 1
      rw [str_len]; simp; omega
  rw [e]
  have : (figL xs g n).length = n := by unfold figL; simp
  rw [this]
  simp
  omega
theorem fig_as {xs : List Int} {j : Int} : (if inV (.int j) (xs.map V.int) = true then V.str (Str.ofString "1") else V.str (Str.ofString "0")) = V.str (strOf [fg xs j]) := by
  rw [in_int, str_0, str_1]
  unfold fg
  by_cases h : j ∈ xs
  · rw [if_pos (decide_eq_true h), if_pos h]
  · rw [if_neg (by simp [h]), if_neg h]
theorem downto_len (g : Int) (n : Nat) : (downto g n).length = n := by unfold downto; simp
def spFig (K : PySem.W.Frag) : Sp := fun vs H Q _ => ∃ (p : Addr) (xs : List Int) (g l : Int), vs = [.ref p, .int g, .int l] ∧ SqL K H p (xs.map V.int) ∧ (-200 ≤ l ∧ l ≤ 200 ∧ -200 ≤ g ∧ g ≤ 200) ∧ ∀ H', Same H H' → Q (.str (strOf (figL xs g (g - (l - 1)).toNat))) H'
section
variable {X : Cx}
def rCatS (K : PySem.W.Frag) : R2 := fun x y H Q => ∃ (l b : Addr) (xs ys : List Int), x = .ref l ∧ y = .ref b ∧ SqL K H l (xs.map V.int) ∧ SqL K H b (ys.map V.int) ∧ xs.length + ys.length ≤ sizeLine ∧ ∀ p H2, Same H H2 → H p = none → H2 p = some (li (xs ++ ys)) → Q (.ref p) H2
/-- lists that are only read, put together -/
theorem op_catS : OpR X (binaryOp .Add) (rCatS X.K) := by
  intro pins s σ H x y v u Q I rx ry h
  obtain ⟨l, b, xs, ys, rfl, rfl, h1, h2, hz, q⟩ := h
  cases rx
  cases ry
  obtain ⟨its, r, pl, _⟩ := I.list h1
  obtain ⟨its2, r2, pl2, _⟩ := I.list h2
  have hl := r.length
  have hl2 := r2.length
  rw [List.length_map] at hl hl2
  obtain ⟨⟨cls, dd, data, sl⟩, ho, hc, n, hd⟩ := pl.isList
  obtain ⟨⟨cls2, dd2, data2, sl2⟩, ho2, hc2, n2, hd2⟩ := pl2.isList
  simp only at hc hd hc2 hd2
  subst hc hd hc2 hd2
  have e : its.toArray ++ its2.toArray = (its ++ its2).toArray := by simp
  refine concat_meets ⟨_, ho, rfl⟩ ⟨_, ho2, rfl⟩ noFill_list_add seq_list_add PySem.F.slot_list_add PySem.F.entry_list_add (PySem.F.args_list_add_2 _ _) (list_addW l b its.toArray its2.toArray n n2 dd dd2 sl sl2 (by simp; omega)) ⟨ho, ho2, ?_⟩
  rw [e]
  exact ⟨.ref _, _, I.lnew (t' := s.toks) (r.append r2) (by rw [List.length_append, List.length_map, List.length_map]; exact hz), rfl, q _ _ (same_new I.fresh _) I.fresh (by rw [upd_same, li, List.map_append])⟩
theorem foldl_max_snoc : ∀ (xs : List Int) (m : Int), (xs ++ [0]).foldl max m = max (xs.foldl max m) 0
  | [], m => rfl
  | a :: r, m => foldl_max_snoc r (max m a)
theorem foldl_min_snoc : ∀ (xs : List Int) (m : Int), (xs ++ [0]).foldl min m = min (xs.foldl min m) 0
  | [], m => rfl
  | a :: r, m => foldl_min_snoc r (min m a)
theorem foldl_max_init : ∀ (r : List Int) (a m : Int), r.foldl max (max m a) = max m (r.foldl max a)
  | [], _, _ => rfl
  | b :: r, a, m => by
    show r.foldl max (max (max m a) b) = max m (r.foldl max (max a b))
    rw [show max (max m a) b = max m (max a b) by omega]
    exact foldl_max_init r (max a b) m
theorem foldl_min_init : ∀ (r : List Int) (a m : Int), r.foldl min (min m a) = min m (r.foldl min a)
  | [], _, _ => rfl
  | b :: r, a, m => by
    show r.foldl min (min (min m a) b) = min m (r.foldl min (min a b))
    rw [show min (min m a) b = min m (min a b) by omega]
    exact foldl_min_init r (min a b) m
theorem call_maxN (hc : X.calm = true) : CallR X (.builtin "max") (fun vs H Q => ∃ (l : Addr) (xs : List Int), vs = [.ref l] ∧ SqL X.K H l ((xs ++ [0]).map V.int) ∧ Q (.int (xs.foldl max 0)) H) := by
  intro pins s σ H vs us Q I r h
  obtain ⟨l, xs, rfl, hS, q⟩ := h
  cases xs with
  | nil => exact call_maxL hc pins s σ H _ us Q I r ⟨l, 0, [], rfl, hS, q⟩
  | cons a rr =>
    refine call_maxL hc pins s σ H _ us Q I r ⟨l, a, rr ++ [0], rfl, by rw [← List.cons_append]; exact hS, ?_⟩
    have e : (rr ++ [0]).foldl max a = (a :: rr).foldl max 0 := by
      rw [foldl_max_snoc]
      show max (rr.foldl max a) 0 = rr.foldl max (max 0 a)
      rw [foldl_max_init]; omega
    rw [e]; exact q
theorem call_minN (hc : X.calm = true) : CallR X (.builtin "min") (fun vs H Q => ∃ (l : Addr) (xs : List Int), vs = [.ref l] ∧ SqL X.K H l ((xs ++ [0]).map V.int) ∧ Q (.int (xs.foldl min 0)) H) := by
  intro pins s σ H vs us Q I r h
  obtain ⟨l, xs, rfl, hS, q⟩ := h
  cases xs with
  | nil => exact call_minL hc pins s σ H _ us Q I r ⟨l, 0, [], rfl, hS, q⟩
  | cons a rr =>
    refine call_minL hc pins s σ H _ us Q I r ⟨l, a, rr ++ [0], rfl, by rw [← List.cons_append]; exact hS, ?_⟩
    have e : (rr ++ [0]).foldl min a = (a :: rr).foldl min 0 := by
      rw [foldl_min_snoc]
      show min (rr.foldl min a) 0 = rr.foldl min (min 0 a)
      rw [foldl_min_init]; omega
    rw [e]; exact q
end
theorem shown_T {xs : List Int} (h : xs.foldl min 0 = 0) : strOf (figL xs (xs.foldl max 0) (xs.foldl max 0 - (0 - 1)).toNat) = noteS xs := by
  have h1 : 0 ≤ xs.foldl max 0 := hi_ge xs 0
  obtain ⟨n, en⟩ : ∃ n : Nat, hiOf xs = (n : Int) := ⟨(hiOf xs).toNat, by unfold hiOf; omega⟩
  have e := note_split xs n 0 en (by show xs.foldl min 0 = _; omega)
  rw [if_pos rfl, List.append_nil, ahead_fig] at e
  unfold noteS
  rw [e]
  have en' : xs.foldl max 0 = (n : Int) := en
  rw [en', show ((n : Int) - (0 - 1)).toNat = n + 1 by omega]
  rfl
theorem shown_F {xs : List Int} (h : ¬ xs.foldl min 0 = 0) : strOf (figL xs (xs.foldl max 0) (xs.foldl max 0 - (0 - 1)).toNat) ++ Str.ofString "." ++ strOf (figL xs (-1) (-1 - (xs.foldl min 0 - 1)).toNat) = noteS xs := by
  have h1 : 0 ≤ xs.foldl max 0 := hi_ge xs 0
  have h2 : xs.foldl min 0 ≤ 0 := lo_ge xs 0
  obtain ⟨n, en⟩ : ∃ n : Nat, hiOf xs = (n : Int) := ⟨(hiOf xs).toNat, by unfold hiOf; omega⟩
  obtain ⟨m, em⟩ : ∃ m : Nat, loOf xs = -(m : Int) := ⟨(-(loOf xs)).toNat, by unfold loOf; omega⟩
  have e := note_split xs n m en em
  have en' : xs.foldl max 0 = (n : Int) := en
  have em' : xs.foldl min 0 = -(m : Int) := em
  rw [if_neg (by omega), ahead_fig, behind_fig] at e
  rw [str_point, str_cat, str_cat, en', em', show ((n : Int) - (0 - 1)).toNat = n + 1 by omega, show (-1 - (-(m : Int) - 1)).toNat = m by omega]
  unfold noteS
  rw [e, List.append_assoc]
  rfl
/-- a text in, the places of its 1 out -/
def spPlacesT : Sp := fun vs H Q _ => ∃ l : List Nat, vs = [.str (strOf l)] ∧ l.length ≤ 400 ∧ ∀ r H', Same H H' → H r = none → ∀ a b, Cut l a b → H' r = some (li (placesL a b)) → Q (.ref r) H'
theorem places_len (a b : List Nat) : (placesL a b).length ≤ a.length + b.length := by
  unfold placesL
  rw [List.length_map]
  have := List.length_filter_le (fun i => (a ++ b)[i]? == some 49) (List.range (a ++ b).length)
  rw [List.length_range] at this
  rw [← List.length_append]
  exact this
theorem cut_len {l a b : List Nat} (h : Cut l a b) : a.length + b.length ≤ l.length := by
  rcases h with ⟨_, rfl, rfl⟩ | ⟨_, rfl⟩
  · simp
  · simp
theorem ch_eq {l : List Nat} {i ch : Nat} (h : l[i]? = some ch) : ((⟨#[ch]⟩ : Str) == Str.ofString "1") = (l[i]? == some 49) := by
  rw [h, str_1]
  show ((strOf [ch]) == strOf [49]) = _
  rw [Bool.eq_iff_iff, beq_iff_eq, beq_iff_eq]
  constructor
  · intro e
    have := congrArg (fun s : Str => s.cps.toList) e
    simp [strOf] at this
    rw [this]
  · intro e
    injection e with e
    rw [e]
theorem ch_at {a b : List Nat} {i ch : Nat} (h : (strOf a ++ strOf b).cps[i]? = some ch) : ((⟨#[ch]⟩ : Str) == Str.ofString "1") = ((a ++ b)[i]? == some 49) := ch_eq (by
  rw [str_cat] at h
  simpa [strOf] using h)
theorem qt2_as {X : Cx} {sc : Scope} {cl : List (Str × Addr)} {a b : Str} {s₁ : Shared} {i ch : Nat} {e : Expr} {r r' : Bool} (h : QT2 X sc cl a b s₁ e i ch r) (he : r = r') : QT2 X sc cl a b s₁ e i ch r' := he ▸ h
theorem places_eq (a b : List Nat) : ((List.range (strOf a ++ strOf b).cps.size).filter fun i => (a ++ b)[i]? == some 49).map (fun (i : Nat) => (((strOf a).length : Nat) : Int) - 1 - (i : Int)) = placesL a b := by
  unfold placesL
  rw [str_cat, str_len]
  have e : (strOf (a ++ b)).cps.size = (a ++ b).length := str_len (a ++ b)
  rw [e]
theorem bl_str {x y : Str} {Q : VK} {H : Hp} (h : x = y) (q : Q (.str y) H) : Q (.str x) H := by rw [h]; exact q
theorem figL_len (xs : List Int) (g : Int) (n : Nat) : (figL xs g n).length = n := by unfold figL; simp
theorem fig_few1 {xs : List Int} {g : Int} {n : Nat} (h : n ≤ 1000) : (strOf (figL xs g n)).length + (Str.ofString ".").length ≤ sizeLine := by
  rw [str_point, str_len, str_len, figL_len, PySem.sizeLine_eq]
  simp; omega
theorem fig_few2 {xs : List Int} {g g' : Int} {n n' : Nat} (h : n ≤ 1000) (h' : n' ≤ 1000) : (strOf (figL xs g n) ++ Str.ofString ".").length + (strOf (figL xs g' n')).length ≤ sizeLine := by
  rw [str_point, str_cat, str_len, str_len, List.length_append, figL_len, figL_len, PySem.sizeLine_eq]
  simp; omega
theorem strOf_inj {a b : List Nat} (h : strOf a = strOf b) : a = b := by
  have := congrArg (fun s : Str => s.cps.toList) h
  simpa [strOf] using this
theorem read_of {l a b : List Nat} {xs : List Int} (e : strOf l = noteS xs) (hc : Cut l a b) (hg : Gap xs) : placesL a b = xs := by
  have e2 : l = noteL xs := strOf_inj e
  rw [e2] at hc
  exact read_note hg hc
theorem places_few {l a b : List Nat} (hc : Cut l a b) (hl : l.length ≤ 400) : (placesL a b).length ≤ 1000 := by
  have h1 := places_len a b
  have h2 := cut_len hc
  omega
theorem strne_T {x y : Str} (h : (!decide (V.str x = V.str y)) = true) : x ≠ y := fun e => by rw [decide_eq_true (by rw [e])] at h; cases h
theorem strne_F {x y : Str} (h : ¬ (!decide (V.str x = V.str y)) = true) : x = y := by
  rcases Classical.em (x = y) with e | e
  · exact e
  · exact absurd (by rw [decide_eq_false (fun z => e (by injection z))]; rfl) h
end L2

set_option Elab.async false
set_option linter.all false
set_option maxRecDepth 100000
namespace L2
open PySem PySem.Spec PyProof.Rows Gold
section
variable {X : Cx}
/-- t[lo:hi] -/
def rSlS : V → Option Int → Option Int → Hp → VK → Prop := fun x lo hi H Q => ∃ z : Str, x = .str z ∧ z.length ≤ sizeLine ∧ Q (.str (Txt.slice z lo hi)) H
theorem sl_str : SlR X rSlS := by
  intro pins s σ H x v vl vu lo hi sl Q I rx hs pl pu h
  obtain ⟨z, rfl, hz, q⟩ := h
  obtain ⟨t, rfl⟩ := rx
  refine ⟨"str", _, F.slot_str_getitem.lookup, typeIs_str _ _ _, ?_⟩
  have fin : ∀ t' k, EP X pins σ Q (.str (Txt.slice z lo hi) t') { s with toks := k } := fun t' k => ⟨.str _, H, I.tok _, ⟨t', rfl⟩, q⟩
  cases pl with
  | none =>
    cases pu with
    | none => exact wpAny_getItem_str_slice (l := none) (u := none) (st := none) hs rfl (post_val_or_str ⟨Nat.le_trans (Txt.slice_le z _ _) hz, fin⟩)
    | int j u => exact wpAny_getItem_str_slice (l := none) (u := some (j, u)) (st := none) hs rfl (post_val_or_str ⟨Nat.le_trans (Txt.slice_le z _ _) hz, fin⟩)
  | int i u =>
    cases pu with
    | none => exact wpAny_getItem_str_slice (l := some (i, u)) (u := none) (st := none) hs rfl (post_val_or_str ⟨Nat.le_trans (Txt.slice_le z _ _) hz, fin⟩)
    | int j u' => exact wpAny_getItem_str_slice (l := some (i, u)) (u := some (j, u')) (st := none) hs rfl (post_val_or_str ⟨Nat.le_trans (Txt.slice_le z _ _) hz, fin⟩)
end
theorem slice_any (l : List Nat) (lo hi : Option Int) : ∃ m, Txt.slice (strOf l) lo hi = strOf m ∧ m.length ≤ l.length := by
  refine ⟨_, str_list _, ?_⟩
  have := Txt.slice_le (strOf l) lo hi
  rw [str_len] at this
  have e : (Txt.slice (strOf l) lo hi).cps.toList.length = (Txt.slice (strOf l) lo hi).length := by simp [Str.length]
  omega
theorem cut_to {l : List Nat} {k : Int} (h0 : 0 ≤ k) (h : k ≤ (l.length : Int)) : Txt.slice (strOf l) none (some k) = strOf (l.take k.toNat) := by
  have hx : (strOf l).cps.toList = l := by simp [strOf]
  have := StrLaws.sliceText_to (x := strOf l) (j := k) ⟨h0, by rw [hx]; exact h⟩
  rw [hx] at this
  refine Eq.trans ?_ (this.trans ?_)
  · rfl
  · simp [strOf]
theorem cut_from {l : List Nat} {k : Int} (h0 : 0 ≤ k) : Txt.slice (strOf l) (some k) none = strOf (l.drop k.toNat) := by
  have hx : (strOf l).cps.toList = l := by simp [strOf]
  by_cases h : k ≤ (l.length : Int)
  · have := StrLaws.sliceText_from (x := strOf l) (i := k) ⟨h0, by rw [hx]; exact h⟩
    rw [hx] at this
    refine Eq.trans ?_ (this.trans ?_)
    · rfl
    · rw [List.take_of_length_le (by rw [List.length_drop]; omega)]; rfl
  · have e : Txt.slice (strOf l) (some k) none = Txt.slice (strOf l) (some (l.length : Int)) none := by
      have hs : Builtin.Str.strSliceIndices (some k) none 1 (strOf l).length = Builtin.Str.strSliceIndices (some (l.length : Int)) none 1 (strOf l).length := by
        rw [str_len]
        simp only [Builtin.Str.strSliceIndices]
        have e1 : max 0 (min (if k < 0 then k + (l.length : Int) else k) (l.length : Int)) = max 0 (min (if (l.length : Int) < 0 then (l.length : Int) + (l.length : Int) else (l.length : Int)) (l.length : Int)) := by split <;> split <;> omega
        simp only [show (1 : Int) > 0 from by decide, if_true]
        rw [e1]
      show StrLaws.sliceText _ _ _ = StrLaws.sliceText _ _ _
      unfold StrLaws.sliceText
      rw [hs]
    rw [e]
    have := StrLaws.sliceText_from (x := strOf l) (i := (l.length : Int)) ⟨by omega, by rw [hx]; omega⟩
    rw [hx] at this
    refine Eq.trans ?_ (this.trans ?_)
    · rfl
    · rw [show l.drop k.toNat = [] from List.drop_of_length_le (by omega)]
      simp [strOf]
section
variable {X : Cx} {sc : Scope} {cl : List (Str × Addr)} {x : Str} {s₁ : Shared} {a : Int} {e e' : Expr} {pos p p1 p2 : Pos} {pins : List (Addr × Obj)} {σ : St} {H : Hp}
/-- t[i] in a block -/
theorem qv_ixS {z : Str} {i : Int} {c : Nat} (hz : z.length ≤ sizeLine) (he : atI z.cps.toList i = some c) (h : QV X sc cl x s₁ e a (.str z)) (h' : QV X sc cl x s₁ e' a (.int i)) (hs : PlainIx e') : QV X sc cl x s₁ (.Subscript e e' pos) a (.str ⟨#[c]⟩) := fun C t s₂ m₂ E' g1 g2 g3 => by
  refine Subscript_ (qv_two (f := subscriptTail e e') h h' g1 g2 g3 fun u u' s' ⟨t1, r⟩ ⟨t2, r'⟩ k => ?_)
  subst r r'
  obtain ⟨j, h1, h2, h3, h4, h5⟩ := atI_get he
  have hl : z.cps.toList.length = z.length := by simp [Str.length]
  rw [hl] at h1 h4 h5
  have hn := line63
  exact tail_any (typeIs_str s' z t1) slot_str_getitem.lookup (getItem_str (c := c) (by
    have e1 : decide (i < -(2 ^ 63 : Int)) = false := decide_eq_false (by omega)
    have e2 : decide (i ≥ 2 ^ 63) = false := decide_eq_false (by omega)
    rw [e1, e2, Bool.or_false]) (by rw [h1]; simpa using h2) ⟨⟨_, rfl⟩, kpT k (kpK _ _)⟩) (hs _ _)
theorem qt_as {b b' : Bool} (h : QT X sc cl x s₁ e a b) (he : b = b') : QT X sc cl x s₁ e a b' := he ▸ h
/-- isinstance(x, bool) of an int -/
theorem qv_noBool (I : Inv X pins σ H s₁) (hk : sc.kind = .function) (hg : ∀ C, (compEnvC sc cl C X.env).kindOf "isinstance" = some .globalImplicit) (hg2 : ∀ C, (compEnvC sc cl C X.env).kindOf "bool" = some .globalImplicit) (hm : X.mg "isinstance" = none) (hm2 : X.mg "bool" = none)
    (hx : sc.names.lookup x = some .local) (hd : (x == ("__debug__" : Str)) = false := by decide)
    (hs : ∀ C, starEach [Expr.Name x p1, .Name "bool" p2] (compEnvC sc cl C X.env) = [(false, eval (.Name x p1) (compEnvC sc cl C X.env)), (false, eval (.Name "bool" p2) (compEnvC sc cl C X.env))] := by intro _; rfl)
    (hs2 : ∀ C, starEach [Expr.Name "bool" p2] (compEnvC sc cl C X.env) = [(false, eval (.Name "bool" p2) (compEnvC sc cl C X.env))] := by intro _; rfl) :
    QV X sc cl x s₁ (.Call (.Name "isinstance" p) [.Name x p1, .Name "bool" p2] [] pos) a (.bl false) := fun C t s₂ m₂ E' g1 g2 g3 => by
  refine wpAny_Call_Name_kw (qv_blt I hk (hg C) hm PyProof.Rows.boot_isinstance g3 ?_)
  refine PyProof.Rows.callWith_builtin1 ?_ (by rw [hs C, hs2 C]) (by rw [hs2 C]; rfl)
  rw [hs C]
  show wpAny _ _ (spliced ((false, eval (.Name x p1) (compEnvC sc cl C X.env)) :: (false, eval (.Name "bool" p2) (compEnvC sc cl C X.env)) :: [])) _ _ s₂
  refine Calls.spliced_cons (thn (qv_item (X := X) (s₁ := s₁) hk hx hd C t s₂ m₂ E' g1 g2 g3) fun u s3 ⟨r, k⟩ => Calls.spliced_cons (qv_blt I hk (hg2 C) hm2 boot_bool (fun b o q => kpH k b o (g3 b o q)) (Calls.spliced_nil ?_)))
  obtain ⟨t1, rfl⟩ := r
  have kin : X.K.In s3.heap := I.ok.mod.kin.keeps fun b o q => kpH k b o (g3 b o (I.bk b o q))
  exact PySem.W.kia_one PySem.W.kitx_int kin True.intro kit_ib (fun z => nomatch z) fun tk => ⟨rfl, kpT k (kpK _ _)⟩
theorem qt_noBool (I : Inv X pins σ H s₁) (hk : sc.kind = .function) (hg : ∀ C, (compEnvC sc cl C X.env).kindOf "isinstance" = some .globalImplicit) (hg2 : ∀ C, (compEnvC sc cl C X.env).kindOf "bool" = some .globalImplicit) (hm : X.mg "isinstance" = none) (hm2 : X.mg "bool" = none)
    (hx : sc.names.lookup x = some .local) (hd : (x == ("__debug__" : Str)) = false := by decide)
    (hs : ∀ C, starEach [Expr.Name x p1, .Name "bool" p2] (compEnvC sc cl C X.env) = [(false, eval (.Name x p1) (compEnvC sc cl C X.env)), (false, eval (.Name "bool" p2) (compEnvC sc cl C X.env))] := by intro _; rfl)
    (hs2 : ∀ C, starEach [Expr.Name "bool" p2] (compEnvC sc cl C X.env) = [(false, eval (.Name "bool" p2) (compEnvC sc cl C X.env))] := by intro _; rfl) :
    QTs X sc cl x s₁ [.Call (.Name "isinstance" p) [.Name x p1, .Name "bool" p2] [] pos] a false := fun C t s₂ m₂ E' g1 g2 g3 => by
  refine wpAny_tests_one ?_
  refine isTrue_plain (thn (qv_noBool (p1 := p1) (p2 := p2) (p := p) (pos := pos) I hk hg hg2 hm hm2 hx hd hs hs2 C t s₂ m₂ E' g1 g2 g3) fun v s3 ⟨r, k⟩ => ?_) rfl
  cases r
  exact wpAny_truthy_bool ⟨rfl, k⟩
end
end L2

set_option Elab.async false
set_option linter.all false
set_option maxRecDepth 100000
namespace Gold
/-! a text looked through sign by sign -/
def Fig (c : Nat) : Prop := c = 48 ∨ c = 49
structure PInv (l : List Nat) (i : Nat) (pt : Int) (a b : List Nat) : Prop where
  fig : ∀ c ∈ a ++ b, Fig c
  cut : (pt = (l.length : Int) ∧ l.take i = a ∧ b = []) ∨ (pt = (a.length : Int) ∧ a.length < i ∧ l.take i = a ++ 46 :: b)
theorem PInv.start (l : List Nat) : PInv l 0 (l.length : Int) [] [] := ⟨by simp, .inl ⟨rfl, by simp, rfl⟩⟩
theorem take_up {l : List Nat} {i c : Nat} (h : l[i]? = some c) : l.take (i + 1) = l.take i ++ [c] := by
  rw [List.take_succ, h]; rfl
theorem PInv.point {l : List Nat} {i : Nat} {pt : Int} {a b : List Nat} (h : PInv l i pt a b) (hc : l[i]? = some 46) (hp : pt = (l.length : Int)) : PInv l (i + 1) (i : Int) a [] := by
  have hi := (List.getElem?_eq_some_iff.mp hc).1
  rcases h.cut with ⟨_, h2, rfl⟩ | ⟨h1, h2, _⟩
  · have hl : a.length = i := by rw [← h2, List.length_take]; omega
    exact ⟨h.fig, .inr ⟨by omega, by omega, by rw [take_up hc, h2]⟩⟩
  · omega
theorem PInv.figure {l : List Nat} {i c : Nat} {pt : Int} {a b : List Nat} (h : PInv l i pt a b) (hc : l[i]? = some c) (hf : Fig c) : ∃ a' b', PInv l (i + 1) pt a' b' := by
  rcases h.cut with ⟨h1, h2, rfl⟩ | ⟨h1, h2, h3⟩
  · refine ⟨a ++ [c], [], fun d hd => ?_, .inl ⟨h1, by rw [take_up hc, h2], rfl⟩⟩
    rw [List.append_nil] at hd
    rcases List.mem_append.mp hd with z | z
    · exact h.fig d (List.mem_append_left _ z)
    · rw [List.mem_singleton.mp z]; exact hf
  · refine ⟨a, b ++ [c], fun d hd => ?_, .inr ⟨h1, by omega, by rw [take_up hc, h3]; simp⟩⟩
    rw [← List.append_assoc] at hd
    rcases List.mem_append.mp hd with z | z
    · exact h.fig d z
    · rw [List.mem_singleton.mp z]; exact hf
/-- a sign that is none of them, or a second point -/
theorem PInv.bad {l : List Nat} {i c : Nat} {pt : Int} {a b : List Nat} (h : PInv l i pt a b) (hc : l[i]? = some c) (hf : ¬ Fig c) (hp : ¬ (c = 46 ∧ pt = (l.length : Int))) : ∀ xs, l ≠ noteL xs := by
  intro xs e
  obtain ⟨t, m, S⟩ := shape_of xs
  rw [← e] at S
  rcases S.sign hc with ⟨z1, z2, z3⟩ | ⟨_, z⟩
  · rcases h.cut with ⟨h1, _, _⟩ | ⟨h1, h2, h3⟩
    · exact hp ⟨z3, h1⟩
    · have h46 : l[a.length]? = some 46 := by
        have : (l.take i)[a.length]? = some 46 := by rw [h3, List.getElem?_append_right (Nat.le_refl _), Nat.sub_self]; rfl
        rwa [List.getElem?_take_of_lt h2] at this
      rcases S.sign h46 with ⟨w1, _, _⟩ | ⟨_, w⟩
      · omega
      · rcases w with w | w <;> omega
  · exact hf z
structure Looked (l : List Nat) (pt : Int) (a b : List Nat) : Prop where
  cut : Cut l a b
  pt : pt = (a.length : Int)
  fig : ∀ c ∈ a ++ b, Fig c
theorem PInv.fin {l : List Nat} {pt : Int} {a b : List Nat} (h : PInv l l.length pt a b) : Looked l pt a b := by
  have n46 : ∀ c ∈ a ++ b, c ≠ 46 := fun c hc => by rcases h.fig c hc with z | z <;> omega
  rcases h.cut with ⟨h1, h2, rfl⟩ | ⟨h1, h2, h3⟩
  · rw [List.take_length] at h2
    subst h2
    exact ⟨.inl ⟨fun z => n46 46 (by rw [List.append_nil]; exact z) rfl, rfl, rfl⟩, h1, h.fig⟩
  · rw [List.take_length] at h3
    exact ⟨.inr ⟨fun z => n46 46 (List.mem_append_left _ z) rfl, h3⟩, h1, h.fig⟩
section
variable {l a b : List Nat} {pt : Int}
theorem Looked.note (h : Looked l pt a b) {xs : List Int} (e : l = noteL xs) : ∃ t m, Shape xs l t m ∧ a.length = t + 1 ∧ a.length + b.length = t + 1 + m := by
  have hc := h.cut
  rw [e] at hc
  obtain ⟨t, m, S, e1, e2⟩ := note_cut hc
  rw [← e] at S
  refine ⟨t, m, S, e2, ?_⟩
  have := congrArg List.length e1
  rw [List.length_append] at this
  rw [this]
  unfold figL
  simp
theorem Looked.none1 (h : Looked l pt a b) (h1 : pt = 0) : ∀ xs, l ≠ noteL xs := fun xs e => by
  obtain ⟨t, m, S, e1, e2⟩ := h.note e
  have := h.pt
  omega
theorem Looked.none2 (h : Looked l pt a b) (h1 : pt = (l.length : Int) - 1) : ∀ xs, l ≠ noteL xs := fun xs e => by
  obtain ⟨t, m, S, e1, e2⟩ := h.note e
  have hp := h.pt
  have hl := S.len
  split at hl
  · omega
  · omega
theorem Looked.none3 (h : Looked l pt a b) (h1 : 1 < pt) (h2 : l[0]? = some 48) : ∀ xs, l ≠ noteL xs := fun xs e => by
  obtain ⟨t, m, S, e1, e2⟩ := h.note e
  have hp := h.pt
  have g := S.get1 (k := 0) (Nat.zero_le _)
  rw [h2] at g
  rcases S.top with z | z
  · omega
  · have : fg xs ((t : Int) - ((0 : Nat) : Int)) = 49 := fg_in.mpr (by simpa using z)
    rw [this] at g
    cases g
theorem Looked.none4 (h : Looked l pt a b) (h1 : pt < (l.length : Int)) (h2 : l[l.length - 1]? = some 48) : ∀ xs, l ≠ noteL xs := fun xs e => by
  obtain ⟨t, m, S, e1, e2⟩ := h.note e
  have hp := h.pt
  have hl := S.len
  by_cases hm : m = 0
  · rw [if_pos hm] at hl; omega
  · rw [if_neg hm] at hl
    have g := S.get3 hm (k := m - 1) (by omega)
    rw [show t + 2 + (m - 1) = l.length - 1 by omega, h2] at g
    rcases S.low with z | z
    · exact hm z
    · have : fg xs (-1 - ((m - 1 : Nat) : Int)) = 49 := fg_in.mpr (by rw [show -1 - ((m - 1 : Nat) : Int) = -(m : Int) by omega]; exact z)
      rw [this] at g
      cases g
theorem Looked.none5 (h : Looked l pt a b) (h1 : ¬ IsRow (placesL a b)) : ∀ xs, IsRow xs → l ≠ noteL xs := fun xs hx e => by
  have hc := h.cut
  rw [e] at hc
  rw [read_note hx.1 hc] at h1
  exact h1 hx
theorem places_mem {a b : List Nat} {z : Int} : z ∈ placesL a b ↔ ∃ i : Nat, (a ++ b)[i]? = some 49 ∧ z = (a.length : Int) - 1 - (i : Int) := by
  unfold placesL
  rw [List.mem_map]
  constructor
  · rintro ⟨i, hi, rfl⟩
    rw [List.mem_filter] at hi
    exact ⟨i, by simpa using hi.2, rfl⟩
  · rintro ⟨i, hi, rfl⟩
    refine ⟨i, ?_, rfl⟩
    rw [List.mem_filter, List.mem_range]
    exact ⟨(List.getElem?_eq_some_iff.mp hi).1, by rw [hi]; rfl⟩
theorem Looked.fgs (h : Looked l pt a b) {i : Nat} (hi : i < (a ++ b).length) : (a ++ b)[i]? = some (fg (placesL a b) ((a.length : Int) - 1 - (i : Int))) := by
  have hc : (a ++ b)[i]? = some (a ++ b)[i] := List.getElem?_eq_getElem hi
  rw [hc]
  congr 1
  rcases h.fig _ (List.getElem_mem hi) with z | z
  · have hn : ¬ ((a.length : Int) - 1 - (i : Int)) ∈ placesL a b := fun w => by
      obtain ⟨j, hj, e⟩ := places_mem.mp w
      have e2 : j = i := by omega
      subst e2
      rw [hc, z] at hj
      cases hj
    rw [z]
    unfold fg
    rw [if_neg hn]
  · rw [z]
    exact (fg_in.mpr (places_mem.mpr ⟨i, by rw [hc, z], rfl⟩)).symm
theorem Looked.done (h : Looked l pt a b) (h1 : ¬ pt = 0) (h2 : ¬ pt = (l.length : Int) - 1) (h3 : 1 < pt → l[0]? ≠ some 48) (h4 : pt < (l.length : Int) → l[l.length - 1]? ≠ some 48) : noteL (placesL a b) = l := by
  have hp := h.pt
  obtain ⟨t, et⟩ : ∃ t, a.length = t + 1 := ⟨a.length - 1, by omega⟩
  have et' : (a.length : Int) - 1 = (t : Int) := by omega
  have eab : a ++ b = figL (placesL a b) (t : Int) (t + 1 + b.length) := by
    apply List.ext_getElem?
    intro i
    by_cases hi : i < (a ++ b).length
    · rw [h.fgs hi, et']
      unfold figL
      rw [List.getElem?_map, List.getElem?_range (by rw [List.length_append] at hi; omega)]; rfl
    · rw [List.getElem?_eq_none (by omega), List.getElem?_eq_none (by unfold figL; rw [List.length_map, List.length_range]; rw [List.length_append] at hi; omega)]
  rw [← fig_join] at eab
  obtain ⟨ea, eb⟩ := List.append_inj eab (by rw [ahead_len]; exact et)
  have len0 : 0 < a.length := by omega
  symm
  refine shape_note (h := t) (m := b.length) ⟨?_, ?_, ?_, fun x hx => ?_⟩
  · rcases h.cut with ⟨_, e1, e2⟩ | ⟨_, e1⟩
    · rw [e2, if_pos (by rfl), List.append_nil, ← e1]
      rw [e2] at ea
      exact ea
    · have hb : b.length ≠ 0 := fun z => by
        apply h2
        rw [e1, List.length_append, List.length_cons]
        omega
      rw [if_neg hb, ← ea, ← eb]
      exact e1
  · rcases Nat.eq_zero_or_pos t with z | z
    · exact .inl z
    · right
      have l0 : l[0]? = (a ++ b)[0]? := by
        have a0 : ∀ q : List Nat, (a ++ q)[0]? = a[0]? := fun q => List.getElem?_append_left len0
        rcases h.cut with ⟨_, e1, e2⟩ | ⟨_, e1⟩
        · rw [e2, List.append_nil, e1]
        · rw [e1, a0, a0]
      have g := h.fgs (i := 0) (by rw [List.length_append]; omega)
      have n48 := h3 (by omega)
      rw [l0, g] at n48
      rcases fg_val (placesL a b) ((a.length : Int) - 1 - ((0 : Nat) : Int)) with w | w
      · rw [w] at n48; exact absurd rfl n48
      · have := fg_in.mp w
        rw [et'] at this
        simpa using this
  · rcases Nat.eq_zero_or_pos b.length with z | z
    · exact .inl z
    · right
      rcases h.cut with ⟨_, _, e2⟩ | ⟨_, e1⟩
      · rw [e2] at z; simp at z
      · have ll : l.length = a.length + 1 + b.length := by rw [e1, List.length_append, List.length_cons]; omega
        have g := h.fgs (i := t + b.length) (by rw [List.length_append]; omega)
        have el : l[l.length - 1]? = (a ++ b)[t + b.length]? := by
          rw [ll, e1, List.getElem?_append_right (by omega), List.getElem?_append_right (by omega)]
          rw [show a.length + 1 + b.length - 1 - a.length = (t + b.length - a.length) + 1 by omega, List.getElem?_cons_succ]
        have n48 := h4 (by omega)
        rw [el, g] at n48
        rcases fg_val (placesL a b) ((a.length : Int) - 1 - ((t + b.length : Nat) : Int)) with w | w
        · rw [w] at n48; exact absurd rfl n48
        · have := fg_in.mp w
          rw [show (a.length : Int) - 1 - ((t + b.length : Nat) : Int) = -(b.length : Int) by omega] at this
          exact this
  · obtain ⟨i, hi, rfl⟩ := places_mem.mp hx
    have := (List.getElem?_eq_some_iff.mp hi).1
    rw [List.length_append] at this
    omega
theorem Looked.marks (h : Looked l pt a b) : l.take pt.toNat ++ l.drop (pt + 1).toNat = a ++ b := by
  rw [h.pt, show ((a.length : Int) + 1).toNat = a.length + 1 by omega, Int.toNat_natCast]
  rcases h.cut with ⟨_, e1, e2⟩ | ⟨_, e1⟩
  · rw [e2, e1, List.take_length, List.drop_of_length_le (by omega)]
  · rw [e1, List.take_left, List.drop_append, List.drop_of_length_le (by omega)]
    rw [show a.length + 1 - a.length = 1 by omega]
    rfl
end
end Gold
namespace Gold
theorem Looked.le {l a b : List Nat} {pt : Int} (h : Looked l pt a b) : 0 ≤ pt ∧ pt ≤ (l.length : Int) := by
  have hp := h.pt
  have := L2.cut_len h.cut
  omega
end Gold
namespace L2
open PySem PySem.Spec PyProof.Rows Gold
theorem sat {l : List Nat} {i c : Nat} (h : l[i]? = some c) : atI (strOf l).cps.toList (0 + (i : Int)) = some c := by
  rw [Int.zero_add]
  exact atI_nat (by simpa [strOf] using h)
theorem sat0 {l : List Nat} {c : Nat} (h : l[0]? = some c) : atI (strOf l).cps.toList 0 = some c := by
  have := sat h
  simpa using this
theorem sat_last {l : List Nat} {c : Nat} (h : l[l.length - 1]? = some c) : atI (strOf l).cps.toList (-1) = some c := by
  have hx : (strOf l).cps.toList = l := by simp [strOf]
  rw [hx]
  have hl := (List.getElem?_eq_some_iff.mp h).1
  unfold atI
  have e : ixN l.length (-1) = some (l.length - 1) := by
    unfold ixN
    simp
    omega
  rw [e]
  exact h
theorem at_ex {l : List Nat} {i : Int} (h0 : 0 ≤ i) (h : i < (l.length : Int)) : ∃ c, atI l i = some c := by
  have hi : i.toNat < l.length := by omega
  refine ⟨l[i.toNat], ?_⟩
  have := atI_nat (xs := l) (j := i.toNat) (List.getElem?_eq_getElem hi)
  rwa [show ((i.toNat : Nat) : Int) = i by omega] at this
theorem ch1 {c d : Nat} (h : (⟨#[c]⟩ : Str) = strOf [d]) : c = d := by
  have := congrArg (fun s : Str => s.cps.toList) h
  simpa [strOf] using this
theorem chT {c d : Nat} {s : Str} (h : decide (V.str ⟨#[c]⟩ = V.str s) = true) (hs : s = strOf [d]) : c = d := by
  have e := of_decide_eq_true h
  injection e with e
  rw [hs] at e
  exact ch1 e
theorem chF {c d : Nat} {s : Str} (h : ¬ decide (V.str ⟨#[c]⟩ = V.str s) = true) (hs : s = strOf [d]) : c ≠ d := fun e => h (decide_eq_true (by rw [hs, e]; rfl))
theorem chNT {c d : Nat} {s : Str} (h : (!decide (V.str ⟨#[c]⟩ = V.str s)) = true) (hs : s = strOf [d]) : c ≠ d := fun e => by
  rw [decide_eq_true (by rw [hs, e]; rfl)] at h
  cases h
theorem chNF {c d : Nat} {s : Str} (h : ¬ (!decide (V.str ⟨#[c]⟩ = V.str s)) = true) (hs : s = strOf [d]) : c = d := by
  rcases Classical.em (c = d) with e | e
  · exact e
  · refine absurd ?_ h
    rw [decide_eq_false (fun z => by injection z with z; rw [hs] at z; exact e (ch1 z))]
    rfl
theorem str_app_len (a b : Str) : (a ++ b).length = a.length + b.length := by
  rw [str_list a, str_list b, str_cat, str_len, str_len, str_len, List.length_append]
theorem one_len (c : Nat) : (⟨#[c]⟩ : Str).length = 1 := rfl
theorem str_any {t : Str} {Q : VK} {H : Hp} {n : Nat} (hQ : ∀ l : List Nat, l.length ≤ n → Q (.str (strOf l)) H) (h : t.length ≤ n) : Q (.str t) H := by
  have e := str_list t
  rw [e]
  exact hQ _ (by have := str_len t.cps.toList; rw [← e] at this; omega)
theorem ins1 {t : Str} {lo hi : Option Int} {c n : Nat} (h : t.length ≤ n) (hn : n ≤ 1000) : (Txt.slice t lo hi).length + (⟨#[c]⟩ : Str).length ≤ sizeLine := by
  have := Txt.slice_le t lo hi
  rw [one_len, PySem.sizeLine_eq]
  omega
theorem ins2 {t : Str} {lo hi lo' hi' : Option Int} {c n : Nat} (h : t.length ≤ n) (hn : n ≤ 1000) : (Txt.slice t lo hi ++ ⟨#[c]⟩).length + (Txt.slice t lo' hi').length ≤ sizeLine := by
  have := Txt.slice_le t lo hi
  have := Txt.slice_le t lo' hi'
  rw [str_app_len, one_len, PySem.sizeLine_eq]
  omega
theorem ins3 {t : Str} {lo hi lo' hi' : Option Int} {c n : Nat} (h : t.length ≤ n) (hn : n ≤ 190) : (Txt.slice t lo hi ++ ⟨#[c]⟩ ++ Txt.slice t lo' hi').length ≤ 400 := by
  have := Txt.slice_le t lo hi
  have := Txt.slice_le t lo' hi'
  rw [str_app_len, str_app_len, one_len]
  omega
theorem cat_few {l : List Nat} {lo hi lo' hi' : Option Int} (h : l.length ≤ 400) : (Txt.slice (strOf l) lo hi).length + (Txt.slice (strOf l) lo' hi').length ≤ sizeLine := by
  have := Txt.slice_le (strOf l) lo hi
  have := Txt.slice_le (strOf l) lo' hi'
  rw [str_len] at *
  rw [PySem.sizeLine_eq]
  omega
def spFigs : Sp := fun vs H Q _ => ∃ (c m : Int) (b : Bool), vs = [.int c, .int m, .bl b] ∧ (0 ≤ m ∧ m ≤ 100) ∧ ∀ l : List Nat, l.length ≤ m.toNat → Q (.str (strOf l)) H
def spText17 (K : PySem.W.Frag) : Sp := fun vs H Q _ => ∃ (a : Addr) (ns : List Int), vs = [.ref a] ∧ SqL K H a (ns.map V.int) ∧ ∀ l : List Nat, l.length ≤ 400 → Q (.str (strOf l)) H
def spPlaced : Sp := fun vs H Q _ => ∃ l : List Nat, vs = [.str (strOf l)] ∧ l.length ≤ 400 ∧ (∀ r H' xs, Same H H' → H r = none → H' r = some (li xs) → (IsRow xs ∧ noteL xs = l) → Q (.ref r) H') ∧ ((∀ xs, IsRow xs → l ≠ noteL xs) → ∀ H', Same H H' → Q .non H')
def spTold17 : Sp := fun vs H Q _ => ∃ t : Str, vs = [.str t] ∧ t.length ≤ 400 ∧ ((∃ xs, IsRow xs ∧ t = noteS xs ∧ ∀ r H', Same H H' → H r = none → H' r = some (li xs) → Q (.ref r) H') ∨ ((∀ xs, IsRow xs → t ≠ noteS xs) ∧ ∀ H', Same H H' → Q (.int 0) H'))
theorem mat {m : List Nat} {j : Int} (h : j ∈ upto ((((strOf m).length : Nat) : Int)).toNat) : atI (strOf m).cps.toList j = some (m.getD j.toNat 0) := by
  have hj := upto_mem h
  rw [Int.toNat_natCast, str_len] at hj
  have hx : (strOf m).cps.toList = m := by simp [strOf]
  rw [hx]
  have hi : j.toNat < m.length := by omega
  have := atI_nat (xs := m) (j := j.toNat) (List.getElem?_eq_getElem hi)
  rw [show ((j.toNat : Nat) : Int) = j by omega] at this
  rw [this, List.getD_eq_getElem?_getD, List.getElem?_eq_getElem hi]; rfl
theorem upto_places {l a b : List Nat} {pt : Int} (h : Looked l pt a b) : ((upto ((((strOf (a ++ b)).length : Nat) : Int)).toNat).filter fun j => ((⟨#[(a ++ b).getD j.toNat 0]⟩ : Str) == Str.ofString "1")).map (fun j => pt - 1 - j) = placesL a b := by
  unfold placesL upto
  rw [Int.toNat_natCast, str_len, List.filter_map, List.map_map, h.pt]
  have e : (List.range (a ++ b).length).filter ((fun j : Int => ((⟨#[(a ++ b).getD j.toNat 0]⟩ : Str) == Str.ofString "1")) ∘ fun (i : Nat) => (i : Int)) = (List.range (a ++ b).length).filter fun i => (a ++ b)[i]? == some 49 := by
    apply List.filter_congr
    intro i hi
    have hi' := List.mem_range.mp hi
    show ((⟨#[(a ++ b).getD ((i : Int)).toNat 0]⟩ : Str) == Str.ofString "1") = _
    rw [Int.toNat_natCast]
    exact ch_eq (by rw [List.getD_eq_getElem?_getD, List.getElem?_eq_getElem hi']; rfl)
  rw [e]
  rfl
theorem no_bools (xs : List Int) : ((xs.filter fun _ => false).map fun j : Int => j) = [] := by simp
theorem not_fig {c : Nat} (h1 : c ≠ 48) (h2 : c ≠ 49) : ¬ Fig c := fun z => z.elim h1 h2
theorem ne48 {l : List Nat} {i c : Nat} (h : l[i]? = some c) (h2 : c ≠ 48) : l[i]? ≠ some 48 := fun e => by
  rw [h] at e
  injection e with e
  exact h2 e
end L2

set_option Elab.async false
set_option linter.all false
set_option maxRecDepth 100000
set_option maxHeartbeats 4000000
namespace GP
open PySem L2 Gold
def top (i : Nat) : Stmt := PySem.Challenge.pw_goldplaces_k17_read_or_refused.main.body.getD i (.Pass ⟨0, 0, 0, 0⟩)
abbrev s_is_row : Stmt := top 8
theorem sc_is_row : FnScope ["places", "place", "ahead"] ["places"] (defScope s_is_row) := ⟨rfl, rfl, rfl, by decide +kernel, rfl, by decide +kernel, by decide +kernel⟩
abbrev s_shown : Stmt := top 10
theorem sc_shown : FnScope ["row", "greatest", "least", "whole"] ["row"] (defScope s_shown) := ⟨rfl, rfl, rfl, by decide +kernel, rfl, by decide +kernel, by decide +kernel⟩
abbrev s_read : Stmt := top 11
theorem sc_read : FnScope ["text", "row"] ["text"] (defScope s_read) := ⟨rfl, rfl, rfl, by decide +kernel, rfl, by decide +kernel, by decide +kernel⟩
abbrev s_figures : Stmt := top 12
theorem sc_figures : FnScope ["row", "greatest", "least"] ["row", "greatest", "least"] (defScope s_figures) := ⟨rfl, rfl, rfl, by decide +kernel, rfl, by decide +kernel, by decide +kernel⟩
abbrev s_places_told : Stmt := top 13
theorem sc_places_told : FnScope ["text", "parts", "greatest"] ["text"] (defScope s_places_told) := ⟨rfl, rfl, rfl, by decide +kernel, rfl, by decide +kernel, by decide +kernel⟩
abbrev s_law_cell_at : Stmt := top 15
theorem sc_law_cell_at : FnScope ["script", "k"] ["script", "k"] (defScope s_law_cell_at) := ⟨rfl, rfl, rfl, by decide +kernel, rfl, by decide +kernel, by decide +kernel⟩
abbrev s_law_figures : Stmt := top 16
theorem sc_law_figures : FnScope ["cell", "many", "plain", "text", "k"] ["cell", "many", "plain"] (defScope s_law_figures) := ⟨rfl, rfl, rfl, by decide +kernel, rfl, by decide +kernel, by decide +kernel⟩
abbrev s_law_text : Stmt := top 17
theorem sc_law_text : FnScope ["script", "many", "plain", "text", "place", "mark"] ["script"] (defScope s_law_text) := ⟨rfl, rfl, rfl, by decide +kernel, rfl, by decide +kernel, by decide +kernel⟩
abbrev s_law_places : Stmt := top 18
theorem sc_law_places : FnScope ["text", "point", "k", "marks", "row"] ["text"] (defScope s_law_places) := ⟨rfl, rfl, rfl, by decide +kernel, rfl, by decide +kernel, by decide +kernel⟩
abbrev s_law_told : Stmt := top 19
theorem sc_law_told : FnScope ["text", "e"] ["text"] (defScope s_law_told) := ⟨rfl, rfl, rfl, by decide +kernel, rfl, by decide +kernel, by decide +kernel⟩
abbrev s_law : Stmt := top 20
theorem sc_law : FnScope ["script", "text", "due", "found"] ["script"] (defScope s_law) := ⟨rfl, rfl, rfl, by decide +kernel, rfl, by decide +kernel, by decide +kernel⟩
structure Errs (K : PySem.W.Frag) (mg : Str → Option Value) (c_GoldError c_NoNumber c_NoRow c_NoNote : Addr) : Prop where
  GoldError : ErrCls K mg "GoldError" c_GoldError
  NoNumber : ErrCls K mg "NoNumber" c_NoNumber
  NoRow : ErrCls K mg "NoRow" c_NoRow
  NoNote : ErrCls K mg "NoNote" c_NoNote
  s_GoldError_GoldError : PySem.W.subIn K (.ref c_GoldError) (.ref c_GoldError) = some true
  s_GoldError_NoNumber : PySem.W.subIn K (.ref c_GoldError) (.ref c_NoNumber) = some false
  s_GoldError_NoRow : PySem.W.subIn K (.ref c_GoldError) (.ref c_NoRow) = some false
  s_GoldError_NoNote : PySem.W.subIn K (.ref c_GoldError) (.ref c_NoNote) = some false
  s_NoNumber_GoldError : PySem.W.subIn K (.ref c_NoNumber) (.ref c_GoldError) = some true
  s_NoNumber_NoNumber : PySem.W.subIn K (.ref c_NoNumber) (.ref c_NoNumber) = some true
  s_NoNumber_NoRow : PySem.W.subIn K (.ref c_NoNumber) (.ref c_NoRow) = some false
  s_NoNumber_NoNote : PySem.W.subIn K (.ref c_NoNumber) (.ref c_NoNote) = some false
  s_NoRow_GoldError : PySem.W.subIn K (.ref c_NoRow) (.ref c_GoldError) = some true
  s_NoRow_NoNumber : PySem.W.subIn K (.ref c_NoRow) (.ref c_NoNumber) = some false
  s_NoRow_NoRow : PySem.W.subIn K (.ref c_NoRow) (.ref c_NoRow) = some true
  s_NoRow_NoNote : PySem.W.subIn K (.ref c_NoRow) (.ref c_NoNote) = some false
  s_NoNote_GoldError : PySem.W.subIn K (.ref c_NoNote) (.ref c_GoldError) = some true
  s_NoNote_NoNumber : PySem.W.subIn K (.ref c_NoNote) (.ref c_NoNumber) = some false
  s_NoNote_NoRow : PySem.W.subIn K (.ref c_NoNote) (.ref c_NoRow) = some false
  s_NoNote_NoNote : PySem.W.subIn K (.ref c_NoNote) (.ref c_NoNote) = some true


theorem len_01 : (Str.ofString "01").cps.toList.length = 2 := by decide +kernel
theorem len_mark : (Str.ofString "01. \n-+_2xo").cps.toList.length = 11 := by decide +kernel
theorem zero_len : (Str.ofString "0").length = 1 := by decide +kernel
theorem point_len : (Str.ofString ".").length = 1 := by decide +kernel

theorem ok_is_row {P : Program} {w : World} {K : PySem.W.Frag} {mg : Str → Option Value} {base : Heap} {c_GoldError c_NoNumber c_NoRow c_NoNote : Addr} (EC : Errs K mg c_GoldError c_NoNumber c_NoRow c_NoNote) (F : Has K mg "is_row" s_is_row ["places"]) (b_zip : mg "zip" = none) {t_GREATEST_PLACE : Tok} (g_GREATEST_PLACE : mg "GREATEST_PLACE" = some (.int (80) t_GREATEST_PLACE)) {t_LEAST_PLACE : Tok} (g_LEAST_PLACE : mg "LEAST_PLACE" = some (.int (-80) t_LEAST_PLACE)) :
    OkF P w K mg base 1 "is_row" ["places"] (spLBg K isRowB) := by
  refine F.ok sc_is_row (fun vs H Q E h => ?_) (fun f cdv A outer s H vs Q E hr h => ?_)
  · obtain ⟨p, xs, rfl, hS, hl, hQ⟩ := h
    rfl
  obtain ⟨p, xs, rfl, hS, hl, hQ⟩ := h
  refine ⟨_, (pss_cons (ps_for PassesOwn.never rfl (pi_list (pv 0)) (pg_name (i := 1) sc_is_row.nd rfl (Or.inl rfl)) (pss_one (ps_if (PW.pt (pw_or (pt_cmpR op_gt (pv 1) (pe_glob (v := .int (80)) rfl g_GREATEST_PLACE ⟨_, rfl⟩) (nomark _)) (pw_or1 (pt_cmpR op_lt (pv 1) (pe_glob (v := .int (-80)) rfl g_LEAST_PLACE ⟨_, rfl⟩) (nomark _))))) (pss_one (ps_ret pe_bl)) pss_nil)))
    (pss_cons (ps_for PassesOwn.never rfl (pi_zip rfl b_zip (pa_cons (pv 0) (pa_cons (pe_slice sl_listI (pv 0) (po_some pe_int) po_none) pa_nil))) (pg_tup rfl (pgs_cons (pg_name (i := 2) sc_is_row.nd rfl (Or.inl rfl)) (pgs_cons (pg_name (i := 1) sc_is_row.nd rfl (Or.inl rfl)) pgs_nil))) (pss_one (ps_if (pt_cmpR op_lt (pe_op op_sub (pv 2) (pv 1)) pe_int (nomark _)) (pss_one (ps_ret pe_bl)) pss_nil)))
    (pss_one (ps_ret pe_bl)))), ?_⟩
  refine ⟨_, rfl, _, rfl, ⟨_, hS⟩, for_list (xs := xs.map V.int) (fun i σ H' => ∃ z1 z2, σ = [some (.ref p), z1, z2] ∧ H' = H ∧ ∀ x ∈ xs.take i, -80 ≤ x ∧ x ≤ 80) ?_ ?_ ?_ ?_⟩
  · exact ⟨_, _, rfl, rfl, (fun _ h => by simp at h)⟩
  · rintro i σ H' hi ⟨z1, z2, rfl, e0, hin⟩
    exact (by rw [e0]; exact hS)
  · rintro i v σ H' hv ⟨z1, z2, rfl, e0, hin⟩
    obtain ⟨y, rfl, hy⟩ := map_get hv
    subst e0
    refine ⟨_, rfl, _, _, rfl, rfl, _, rfl, ?_⟩
    refine ite2 (fun c1 => ?_) (fun c1 => ?_)
    · have c1 := dT c1
      refine if_T rfl ?_
      exact toF (isRow_F (by first | exact isRow_ends hy (by omega) | exact zip_bad hy hy2 (by omega))) (hQ _ (Same.refl _))
    · have c1 := dF c1
      refine ⟨_, rfl, _, _, rfl, rfl, _, rfl, ?_⟩
      refine ite2 (fun c2 => ?_) (fun c2 => ?_)
      · have c2 := dT c2
        exact toF (isRow_F (by first | exact isRow_ends hy (by omega) | exact zip_bad hy hy2 (by omega))) (hQ _ (Same.refl _))
      · have c2 := dF c2
        exact ⟨_, _, rfl, rfl, in_next hin hy (by omega) (by omega)⟩
  · rintro σ H' ⟨z1, z2, rfl, e0, hin⟩
    subst e0
    rw [List.length_map, List.take_length] at hin
    refine ⟨_, rfl, _, rfl, _, rfl, _, _, rfl, hS, fun p3 H4 s5 n6 e7 => ?_⟩
    have f8 := s5.seq hS
    refine ⟨_, _, rfl, ⟨_, f8⟩, ⟨_, SqL.of e7⟩, for_zip (xs := xs.map V.int) (ys := (xs.drop 1).map V.int) (fun i σ H' => ∃ z1 z2, σ = [some (.ref p), z1, z2] ∧ Same H4 H' ∧ Gap (xs.take (i + 1))) ?_ ?_ ?_ ?_ ?_⟩
    · exact ⟨_, _, rfl, Same.refl _, gap_one xs⟩
    · rintro i σ H' hi ⟨z1, z2, rfl, g0, hI⟩
      exact ⟨g0.seq f8, by have z := g0 _ _ e7; rw [cut_one] at z; exact SqL.of z⟩
    · rw [List.length_map, List.length_map, List.length_drop]
      omega
    · rintro i v u σ H' hv hu ⟨z1, z2, rfl, g0, hI⟩ T H'' g1 hT
      obtain ⟨y, rfl, hy⟩ := map_get hv
      obtain ⟨y2, rfl, hy2⟩ := map_get hu
      refine ⟨_, _, rfl, SqT.of hT, rfl, _, _, rfl, _, _, rfl, rfl, _, rfl, _, rfl, _, _, rfl, rfl, _, _, rfl, rfl, _, rfl, ?_⟩
      refine ite2 (fun c9 => ?_) (fun c9 => ?_)
      · have c9 := dT c9
        exact toF (isRow_F (by first | exact isRow_ends hy (by omega) | exact zip_bad hy hy2 (by omega))) (hQ _ ((s5.trans g0).trans g1))
      · have c9 := dF c9
        exact ⟨_, _, rfl, (g0.trans g1), zip_row hI hy hy2 (by assumption)⟩
    · rintro σ H' ⟨z1, z2, rfl, g0, hI⟩
      rw [List.length_map] at hI
      exact toT (isRow_T ⟨zip_all hI, hin⟩) (hQ _ (s5.trans g0))

theorem ok_shown {P : Program} {w : World} {K : PySem.W.Frag} {mg : Str → Option Value} {base : Heap} {c_GoldError c_NoNumber c_NoRow c_NoNote : Addr} (EC : Errs K mg c_GoldError c_NoNumber c_NoRow c_NoNote) (F : Has K mg "shown" s_shown ["row"]) (b_max : mg "max" = none) (b_min : mg "min" = none) (o_figures : OkF P w K mg base 1 "figures" ["row", "greatest", "least"] (spFig K)) (o_is_row : OkF P w K mg base 1 "is_row" ["places"] (spLBg K isRowB)) :
    OkE P w K mg base 2 "shown" ["row"] (spShown K c_NoRow) := by
  refine F.okE sc_shown (fun vs H Q E h => ?_) (fun f cdv A outer s H vs Q E hr h => ?_)
  · obtain ⟨p, xs, rfl, hS, hl, hQ, hE⟩ := h
    rfl
  obtain ⟨p, xs, rfl, hS, hl, hQ, hE⟩ := h
  refine ⟨_, (pss_cons (ps_if (pt_not (pt_val (pe_callO o_is_row hr (pa_cons (pv 0) pa_nil)))) (pss_one (ps_raise thr_of rfl EC.NoRow.bound EC.NoRow.exc (pa_cons pe_str pa_nil))) pss_nil)
    (PSs.nox (pss_cons (ps_set (i := 1) sc_shown.nd rfl (Or.inl rfl) (pe_callB (call_maxN rfl) rfl b_max PyProof.Rows.boot_max (pa_cons (pe_op op_catS (pv 0) (pe_lstN (pa_cons pe_int pa_nil))) pa_nil)))
    (pss_cons (ps_set (i := 2) sc_shown.nd rfl (Or.inl rfl) (pe_callB (call_minN rfl) rfl b_min PyProof.Rows.boot_min (pa_cons (pe_op op_catS (pv 0) (pe_lstN (pa_cons pe_int pa_nil))) pa_nil)))
    (pss_cons (ps_set (i := 3) sc_shown.nd rfl (Or.inl rfl) (pe_callO o_figures hr (pa_cons (pv 0) (pa_cons (pv 1) (pa_cons pe_int pa_nil)))))
    (pss_one (ps_ret (pe_ifExp (pt_cmpR op_eq (pv 2) pe_int (nomark _)) (pv 3) (pe_op op_add_str (pe_op op_add_str (pv 3) pe_str) (pe_callO o_figures hr (pa_cons (pv 0) (pa_cons (pe_un un_neg pe_int) (pa_cons (pv 2) pa_nil))))))))))))), ?_⟩
  refine ⟨_, rfl, _, _, rfl, hS, (by omega), fun H1 s2 => ?_⟩
  refine ⟨_, rfl, ?_⟩
  refine ite2 (fun c3 => ?_) (fun c3 => ?_)
  · have hn := isRow_not (by intro z; rw [z] at c3; cases c3)
    exact ⟨small1, hE hn _ s2⟩
  · have hR := isRow_of (by cases q : isRowB xs <;> first | rfl | exact absurd (by rw [q]; rfl) c3)
    have h1 := hi_le xs 0 80 (by decide) fun x hx => (hR.2 x hx).2
    have h2 := lo_le xs 0 (-80) (by decide) fun x hx => (hR.2 x hx).1
    have h3 : 0 ≤ xs.foldl max 0 := hi_ge xs 0
    have h4 : xs.foldl min 0 ≤ 0 := lo_ge xs 0
    refine ⟨_, rfl, small1, fun p4 H5 s6 n7 e8 => ?_⟩
    have f14 := s6.seq (s2.seq hS)
    refine ⟨_, _, _, [_], rfl, rfl, f14, SqL.of e8, (by simp only [List.length_cons, List.length_nil, PySem.sizeLine_eq]; omega), fun p9 H10 s11 n12 e13 => ?_⟩
    refine ⟨_, _, rfl, SqL.of e13, _, rfl, small1, fun p15 H16 s17 n18 e19 => ?_⟩
    have f25 := s17.seq (s11.seq f14)
    refine ⟨_, _, _, [_], rfl, rfl, f25, SqL.of e19, (by simp only [List.length_cons, List.length_nil, PySem.sizeLine_eq]; omega), fun p20 H21 s22 n23 e24 => ?_⟩
    have f26 := s22.seq f25
    refine ⟨_, _, rfl, SqL.of e24, _, rfl, _, rfl, _, _, _, _, rfl, f26, (by omega), fun H27 s28 => ?_⟩
    · refine ⟨_, rfl, rfl, _, rfl, ?_⟩
      refine ite2 (fun c29 => ?_) (fun c29 => ?_)
      · have c29 := dec_V c29
        refine ⟨_, rfl, ?_⟩
        exact bl_str (shown_T (by assumption)) (hQ hR _ (((((s2.trans s6).trans s11).trans s17).trans s22).trans s28))
      · have c29 := dec_nV c29
        have f30 := s28.seq f26
        refine ⟨_, rfl, _, _, rfl, rfl, (fig_few1 (by omega)), _, rfl, _, rfl, _, rfl, _, _, _, _, rfl, f30, (by omega), fun H31 s32 => ?_⟩
        · refine ⟨_, _, rfl, rfl, (fig_few2 (by omega) (by omega)), ?_⟩
          exact bl_str (shown_F (by assumption)) (hQ hR _ ((((((s2.trans s6).trans s11).trans s17).trans s22).trans s28).trans s32))

theorem ok_read {P : Program} {w : World} {K : PySem.W.Frag} {mg : Str → Option Value} {base : Heap} {c_GoldError c_NoNumber c_NoRow c_NoNote : Addr} (EC : Errs K mg c_GoldError c_NoNumber c_NoRow c_NoNote) (F : Has K mg "read" s_read ["text"]) (o_places_told : OkF P w K mg base 1 "places_told" ["text"] (spPlacesT)) (o_is_row : OkF P w K mg base 1 "is_row" ["places"] (spLBg K isRowB)) (o_shown : OkE P w K mg base 2 "shown" ["row"] (spShown K c_NoRow)) :
    OkE P w K mg base 3 "read" ["text"] (spRead c_NoNote) := by
  refine F.okE sc_read (fun vs H Q E h => ?_) (fun f cdv A outer s H vs Q E hr h => ?_)
  · obtain ⟨t, rfl, hl, hD⟩ := h
    rfl
  obtain ⟨t, rfl, hl, hD⟩ := h
  obtain ⟨l, rfl⟩ : ∃ l, t = strOf l := ⟨_, str_list t⟩
  rw [str_len] at hl
  refine ⟨_, (pss_cons (ps_set (i := 1) sc_read.nd rfl (Or.inl rfl) (pe_callO o_places_told hr (pa_cons (pv 0) pa_nil)))
    (pss_cons (ps_if (PW.pt (pw_or (pt_not (pt_val (pe_callO o_is_row hr (pa_cons (pv 1) pa_nil)))) (pw_or1 (pt_cmpR op_ne (pe_callE o_shown passE hr (pa_cons (pv 1) pa_nil)) (pv 0) (nomark _))))) (pss_one (ps_raise thr_of rfl EC.NoNote.bound EC.NoNote.exc (pa_cons pe_str pa_nil))) pss_nil)
    (PSs.nox (pss_one (ps_ret (pv 1)))))), ?_⟩
  refine ⟨_, rfl, _, rfl, hl, fun r1 H2 s3 n4 a5 b6 hc7 e8 => ?_⟩
  · refine ⟨_, rfl, _, _, rfl, SqL.of e8, (places_few hc7 hl), fun H9 s10 => ?_⟩
    refine ⟨_, rfl, ?_⟩
    refine ite2 (fun c11 => ?_) (fun c11 => ?_)
    · have hn := isRow_not (by intro z; rw [z] at c11; cases c11)
      refine if_T rfl ?_
      rcases hD with ⟨xs, hX, e, hQ⟩ | ⟨hno, hE⟩
      · exact absurd (by rw [read_of e hc7 hX.1]; exact hX) hn
      · exact ⟨small1, hE _ (s3.trans s10)⟩
    · have hR := isRow_of (by cases q : isRowB _ <;> first | rfl | exact absurd (by rw [q]; rfl) c11)
      have f12 := s10 _ _ e8
      refine ⟨_, rfl, _, _, rfl, SqL.of f12, (places_few hc7 hl), ⟨fun hR13 H14 s15 => ?_, fun hN16 H17 s18 => ?_⟩⟩
      · refine ⟨_, rfl, rfl, _, rfl, ?_⟩
        refine ite2 (fun c19 => ?_) (fun c19 => ?_)
        · rcases hD with ⟨xs, hX, e, hQ⟩ | ⟨hno, hE⟩
          · exact absurd (by rw [read_of e hc7 hX.1]; exact e.symm) (strne_T c19)
          · exact ⟨small1, hE _ ((s3.trans s10).trans s15)⟩
        · refine ⟨_, rfl, ?_⟩
          have f20 := s15 _ _ f12
          rcases hD with ⟨xs, hX, e, hQ⟩ | ⟨hno, hE⟩
          · exact hQ _ _ ((s3.trans s10).trans s15) n4 (by rw [← read_of e hc7 hX.1]; exact f20)
          · exact absurd (strne_F c19).symm (hno _ hR)
      · exact absurd hR hN16

theorem ok_figures {P : Program} {w : World} {K : PySem.W.Frag} {mg : Str → Option Value} {base : Heap} {c_GoldError c_NoNumber c_NoRow c_NoNote : Addr} (EC : Errs K mg c_GoldError c_NoNumber c_NoRow c_NoNote) (F : Has K mg "figures" s_figures ["row", "greatest", "least"]) (b_range : mg "range" = none) :
    OkF P w K mg base 1 "figures" ["row", "greatest", "least"] (spFig K) := by
  refine F.ok sc_figures (fun vs H Q E h => ?_) (fun f cdv A outer s H vs Q E hr h => ?_)
  · obtain ⟨p, xs, g, l, rfl, hS, hb, hQ⟩ := h
    rfl
  obtain ⟨p, xs, g, l, rfl, hS, hb, hQ⟩ := h
  refine ⟨_, (pss_one (ps_ret (pe_bm PySem.F.plainAttrs_str PySem.F.slot_str_join PySem.F.type_str_join mt_join pe_str (pa_cons (pe_compS (cl := [("row", s.heap.objs.size + 1)]) (px_down rfl b_range (pa_cons (pv 1) (pa_cons (pe_op op_sub (pv 2) pe_int) (pa_cons (pe_un un_neg pe_int) pa_nil))) rfl) rfl (by decide) rfl (by decide) rfl) pa_nil)))), ?_⟩
  refine ⟨rfl, (fun _ => true), (fun j => strOf [fg xs j]), _, rfl, _, rfl, _, _, rfl, rfl, _, rfl, _, _, rfl, (by omega), (by rw [downto_len, PySem.sizeLine_eq]; omega), fun pins s₁ I j hj => ⟨qts_nil, fun hp => (qv_as (qv_if (qt_in I (hS) (qv_item rfl rfl) (qv_cap (i := 0) I rfl rfl rfl rfl (fun _ => rfl) rfl rfl)) qv_str qv_str) fig_as)⟩, fun p1 H2 s3 n4 e5 => ?_⟩
  refine ⟨_, _, _, rfl, rfl, SqL.of e5, (figs_ok xs g (by omega)), ?_⟩
  rw [join_figs]
  exact hQ _ s3

theorem ok_places_told {P : Program} {w : World} {K : PySem.W.Frag} {mg : Str → Option Value} {base : Heap} {c_GoldError c_NoNumber c_NoRow c_NoNote : Addr} (EC : Errs K mg c_GoldError c_NoNumber c_NoRow c_NoNote) (F : Has K mg "places_told" s_places_told ["text"]) (b_len : mg "len" = none) (b_enumerate : mg "enumerate" = none) :
    OkF P w K mg base 1 "places_told" ["text"] (spPlacesT) := by
  refine F.ok sc_places_told (fun vs H Q E h => ?_) (fun f cdv A outer s H vs Q E hr h => ?_)
  · obtain ⟨l, rfl, hl, hQ⟩ := h
    rfl
  obtain ⟨l, rfl, hl, hQ⟩ := h
  obtain ⟨pa, pb, sep, hpart, hcut⟩ := part_split l
  have hcl := cut_len hcut
  refine ⟨_, (pss_cons (ps_set (i := 1) sc_places_told.nd rfl (Or.inl rfl) (pe_bm PySem.F.plainAttrs_str PySem.F.slot_str_partition PySem.F.type_str_partition mt_part (pv 0) (pa_cons pe_str pa_nil)))
    (pss_cons (ps_set (i := 2) sc_places_told.nd rfl (Or.inr rfl) (pe_op op_sub (pe_callB call_len_str rfl b_len PySem.boot_len (pa_cons (pe_ix ix_tup (pv 1) pe_int (fun _ _ => rfl)) pa_nil)) pe_int))
    (pss_one (ps_ret (pe_compE (cl := [("greatest", s.heap.objs.size + 1)]) rfl b_enumerate (pa_cons (pe_op op_add_str (pe_ix ix_tup (pv 1) pe_int (fun _ _ => rfl)) (pe_ix ix_tup (pv 1) pe_int (fun _ _ => rfl))) pa_nil) rfl rfl (by decide) rfl (by decide) rfl rfl (by decide)))))), ?_⟩
  refine ⟨_, rfl, rfl, _, _, rfl, rfl, ⟨by decide, (by rw [str_len, PySem.sizeLine_eq]; omega)⟩, fun p1 H2 s3 n4 e5 => ?_⟩
  rw [hpart] at e5
  refine ⟨_, rfl, _, _, _, _, rfl, rfl, SqT.of e5, at0, _, rfl, (by rw [str_len, PySem.sizeLine_eq]; omega), _, _, rfl, rfl, _, rfl, _, _, _, _, rfl, rfl, SqT.of e5, at0, _, rfl, _, _, _, _, rfl, rfl, SqT.of e5, at2, _, _, rfl, rfl, (by rw [str_len, str_len, PySem.sizeLine_eq]; omega), _, rfl, (by rw [str_cat, str_len, List.length_append, PySem.sizeLine_eq]; omega), (fun i => (pa ++ pb)[i]? == some 49), (fun i => (((strOf pa).length : Nat) : Int) - 1 - (i : Int)), fun pins s₁ I i ch hch => ⟨qt2_as (qt2_eqS (qv2_b rfl rfl) qv2_str) (ch_at hch), fun _ => qv2_sub (qv2_cap (k := 2) I rfl rfl rfl rfl (fun _ => rfl) rfl rfl) (qv2_a rfl rfl)⟩, fun p6 H7 s8 n9 e10 => ?_⟩
  rw [places_eq] at e10
  exact hQ _ _ (s3.trans s8) (s3.free n9) _ _ hcut e10

theorem ok_law_cell_at {P : Program} {w : World} {K : PySem.W.Frag} {mg : Str → Option Value} {base : Heap} {c_GoldError c_NoNumber c_NoRow c_NoNote : Addr} (EC : Errs K mg c_GoldError c_NoNumber c_NoRow c_NoNote) (F : Has K mg "_law_cell_at" s_law_cell_at ["script", "k"]) (b_len : mg "len" = none) :
    OkF P w K mg base 1 "_law_cell_at" ["script", "k"] (spCell K) := by
  refine F.ok sc_law_cell_at (fun vs H Q E h => ?_) (fun f cdv A outer s H vs Q E hr h => ?_)
  · obtain ⟨a, ns, k, rfl, hS, h0, hQ⟩ := h
    rfl
  obtain ⟨a, ns, k, rfl, hS, h0, hQ⟩ := h
  refine ⟨_, (pss_cons (ps_if (pt_cmpR op_lt (pv 1) (pe_callB call_len_seq rfl b_len PySem.boot_len (pa_cons (pv 0) pa_nil)) (nomark _)) (pss_one (ps_ret (pe_ix ix_list (pv 0) (pv 1) (fun _ _ => rfl)))) pss_nil)
    (pss_one (ps_ret pe_int))), ?_⟩
  refine ⟨_, rfl, _, rfl, _, _, rfl, .inl (hS), _, _, rfl, rfl, _, rfl, ?_⟩
  refine ite2 (fun c1 => ?_) (fun c1 => ?_)
  · have g := of_decide_eq_true c1
    refine ⟨_, rfl, _, rfl, _, _, _, _, rfl, rfl, hS, cell_at h0 g, ?_⟩
    exact hQ
  · have g := fun z => c1 (decide_eq_true z)
    rw [cell_out h0 g] at hQ
    exact hQ

theorem ok_law_figures {P : Program} {w : World} {K : PySem.W.Frag} {mg : Str → Option Value} {base : Heap} {c_GoldError c_NoNumber c_NoRow c_NoNote : Addr} (EC : Errs K mg c_GoldError c_NoNumber c_NoRow c_NoNote) (F : Has K mg "_law_figures" s_law_figures ["cell", "many", "plain"]) (b_range : mg "range" = none) :
    OkF P w K mg base 1 "_law_figures" ["cell", "many", "plain"] (spFigs) := by
  refine F.ok sc_law_figures (fun vs H Q E h => ?_) (fun f cdv A outer s H vs Q E hr h => ?_)
  · obtain ⟨c, m, b, rfl, hb, hQ⟩ := h
    rfl
  obtain ⟨c, m, b, rfl, hb, hQ⟩ := h
  refine ⟨_, (pss_cons (ps_set (i := 3) sc_law_figures.nd rfl (Or.inl rfl) pe_str)
    (pss_cons (ps_for PassesOwn.never rfl (pi_range1 rfl b_range (pa_cons (pv 1) pa_nil)) (pg_name (i := 4) sc_law_figures.nd rfl (Or.inl rfl)) (pss_cons (ps_if (PW.pt (pw_and (pt_val (pv 2)) (pw_and1 (pt_cmpR op_eq (pe_slice sl_str (pv 3) (po_some (pe_un un_neg pe_int)) po_none) pe_str (nomark _))))) (pss_one (ps_set (i := 3) sc_law_figures.nd rfl (Or.inl rfl) (pe_op op_add_str (pv 3) pe_str))) (pss_one (ps_set (i := 3) sc_law_figures.nd rfl (Or.inl rfl) (pe_op op_add_str (pv 3) (pe_ix ix_str pe_str (pe_op op_mod (pv 0) pe_int) (fun _ _ => rfl))))))
    (pss_one (ps_set (i := 0) sc_law_figures.nd rfl (Or.inl rfl) (pe_op op_fdivB (pv 0) pe_int)))))
    (pss_one (ps_ret (pv 3))))), ?_⟩
  refine ⟨_, rfl, _, rfl, (by omega), (by omega), for_range (fun i σ H' => ∃ t c' z1, σ = [some (.int c'), some (.int m), some (.bl b), some (.str t), z1] ∧ H' = H ∧ t.length ≤ i) ?_ ?_ ?_⟩
  · exact ⟨_, _, _, rfl, rfl, (by decide)⟩
  · rintro i σ H' hi ⟨t, c', z1, rfl, e0, hl⟩
    subst e0
    have hi' : i < 100 := by omega
    refine ⟨_, rfl, _, rfl, ?_⟩
    refine ite2 (fun c1 => ?_) (fun c1 => ?_)
    · refine ⟨_, rfl, _, rfl, _, rfl, _, rfl, (by rw [PySem.sizeLine_eq]; omega), rfl, _, rfl, ?_⟩
      refine ite2 (fun c2 => ?_) (fun c2 => ?_)
      · refine ⟨_, rfl, _, _, rfl, rfl, (by rw [zero_len, PySem.sizeLine_eq]; omega), _, rfl, _, _, rfl, rfl, ⟨by decide +kernel, by decide +kernel⟩, ?_⟩
        exact ⟨_, _, _, rfl, rfl, (by rw [str_app_len]; first | (rw [one_len]; omega) | (rw [zero_len]; omega))⟩
      · refine ⟨_, rfl, _, rfl, _, _, rfl, rfl, (by show (0 : Int) < _; decide +kernel), ?_⟩
        obtain ⟨ch, hch⟩ := at_ex (l := (Str.ofString "01").cps.toList) (i := c' % 2) (by omega) (by rw [len_01]; omega)
        refine ⟨_, _, _, rfl, rfl, (by decide), hch, _, _, rfl, rfl, (by rw [one_len, PySem.sizeLine_eq]; omega), _, rfl, _, _, rfl, rfl, ⟨by decide +kernel, by decide +kernel⟩, ?_⟩
        exact ⟨_, _, _, rfl, rfl, (by rw [str_app_len]; first | (rw [one_len]; omega) | (rw [zero_len]; omega))⟩
    · refine if_F rfl ?_
      refine ⟨_, rfl, _, rfl, _, _, rfl, rfl, (by show (0 : Int) < _; decide +kernel), ?_⟩
      obtain ⟨ch, hch⟩ := at_ex (l := (Str.ofString "01").cps.toList) (i := c' % 2) (by omega) (by rw [len_01]; omega)
      refine ⟨_, _, _, rfl, rfl, (by decide), hch, _, _, rfl, rfl, (by rw [one_len, PySem.sizeLine_eq]; omega), _, rfl, _, _, rfl, rfl, ⟨by decide +kernel, by decide +kernel⟩, ?_⟩
      exact ⟨_, _, _, rfl, rfl, (by rw [str_app_len]; first | (rw [one_len]; omega) | (rw [zero_len]; omega))⟩
  · rintro σ H' ⟨t, c', z1, rfl, e0, hl⟩
    subst e0
    refine ⟨_, rfl, ?_⟩
    exact str_any hQ hl

theorem ok_law_text {P : Program} {w : World} {K : PySem.W.Frag} {mg : Str → Option Value} {base : Heap} {c_GoldError c_NoNumber c_NoRow c_NoNote : Addr} (EC : Errs K mg c_GoldError c_NoNumber c_NoRow c_NoNote) (F : Has K mg "_law_text" s_law_text ["script"]) (b_len : mg "len" = none) (o_law_figures : OkF P w K mg base 1 "_law_figures" ["cell", "many", "plain"] (spFigs)) (o_law_cell_at : OkF P w K mg base 1 "_law_cell_at" ["script", "k"] (spCell K)) :
    OkF P w K mg base 2 "_law_text" ["script"] (spText17 K) := by
  refine F.ok sc_law_text (fun vs H Q E h => ?_) (fun f cdv A outer s H vs Q E hr h => ?_)
  · obtain ⟨a, ns, rfl, hS, hQ⟩ := h
    rfl
  obtain ⟨a, ns, rfl, hS, hQ⟩ := h
  refine ⟨_, (pss_cons (ps_set (i := 1) sc_law_text.nd rfl (Or.inl rfl) (pe_op op_mod (pe_callO o_law_cell_at hr (pa_cons (pv 0) (pa_cons pe_int pa_nil))) pe_int))
    (pss_cons (ps_if (pt_cmpR op_eq (pe_op op_mod (pe_op op_fdivB (pe_callO o_law_cell_at hr (pa_cons (pv 0) (pa_cons pe_int pa_nil))) pe_int) pe_int) pe_int (nomark _)) (pss_one (ps_set (i := 1) sc_law_text.nd rfl (Or.inl rfl) (pe_op op_add pe_int (pe_op op_mod (pe_op op_fdivB (pe_callO o_law_cell_at hr (pa_cons (pv 0) (pa_cons pe_int pa_nil))) pe_int) pe_int)))) pss_nil)
    (pss_cons (ps_set (i := 2) sc_law_text.nd rfl (Or.inl rfl) (pe_cmpR op_gt (pe_op op_mod (pe_callO o_law_cell_at hr (pa_cons (pv 0) (pa_cons pe_int pa_nil))) pe_int) pe_int (nomark _)))
    (pss_cons (ps_set (i := 3) sc_law_text.nd rfl (Or.inl rfl) (pe_callO o_law_figures hr (pa_cons (pe_callO o_law_cell_at hr (pa_cons (pv 0) (pa_cons pe_int pa_nil))) (pa_cons (pv 1) (pa_cons (pv 2) pa_nil)))))
    (pss_cons (ps_if (pt_cmpR op_eq (pe_op op_mod (pe_callO o_law_cell_at hr (pa_cons (pv 0) (pa_cons pe_int pa_nil))) pe_int) pe_int (nomark _)) (pss_cons (ps_set (i := 1) sc_law_text.nd rfl (Or.inl rfl) (pe_op op_mod (pe_callO o_law_cell_at hr (pa_cons (pv 0) (pa_cons pe_int pa_nil))) pe_int))
    (pss_cons (ps_if (pt_cmpR op_eq (pe_op op_mod (pe_op op_fdivB (pe_callO o_law_cell_at hr (pa_cons (pv 0) (pa_cons pe_int pa_nil))) pe_int) pe_int) pe_int (nomark _)) (pss_one (ps_set (i := 1) sc_law_text.nd rfl (Or.inl rfl) (pe_op op_add pe_int (pe_op op_mod (pe_op op_fdivB (pe_callO o_law_cell_at hr (pa_cons (pv 0) (pa_cons pe_int pa_nil))) pe_int) pe_int)))) pss_nil)
    (pss_one (ps_set (i := 3) sc_law_text.nd rfl (Or.inl rfl) (pe_op op_add_str (pe_op op_add_str (pv 3) pe_str) (pe_callO o_law_figures hr (pa_cons (pe_callO o_law_cell_at hr (pa_cons (pv 0) (pa_cons pe_int pa_nil))) (pa_cons (pv 1) (pa_cons (pv 2) pa_nil))))))))) pss_nil)
    (pss_cons (ps_set (i := 4) sc_law_text.nd rfl (Or.inl rfl) (pe_op op_mod (pe_callO o_law_cell_at hr (pa_cons (pv 0) (pa_cons pe_int pa_nil))) (pe_op op_add (pe_callB call_len_str rfl b_len PySem.boot_len (pa_cons (pv 3) pa_nil)) pe_int)))
    (pss_cons (ps_set (i := 5) sc_law_text.nd rfl (Or.inl rfl) (pe_ix ix_str pe_str (pe_op op_mod (pe_callO o_law_cell_at hr (pa_cons (pv 0) (pa_cons pe_int pa_nil))) pe_int) (fun _ _ => rfl)))
    (pss_cons (ps_if (pt_cmpR op_eq (pe_op op_mod (pe_callO o_law_cell_at hr (pa_cons (pv 0) (pa_cons pe_int pa_nil))) pe_int) pe_int (nomark _)) (pss_one (ps_ret (pe_op op_add_str (pe_op op_add_str (pe_slice sl_str (pv 3) po_none (po_some (pv 4))) (pv 5)) (pe_slice sl_str (pv 3) (po_some (pv 4)) po_none)))) pss_nil)
    (pss_cons (ps_if (pt_cmpR op_eq (pe_op op_mod (pe_callO o_law_cell_at hr (pa_cons (pv 0) (pa_cons pe_int pa_nil))) pe_int) pe_int (nomark _)) (pss_one (ps_ret (pe_op op_add_str (pe_op op_add_str (pe_slice sl_str (pv 3) po_none (po_some (pv 4))) (pv 5)) (pe_slice sl_str (pv 3) (po_some (pe_op op_add (pv 4) pe_int)) po_none)))) pss_nil)
    (pss_one (ps_ret (pv 3)))))))))))), ?_⟩
  refine ⟨_, rfl, _, _, _, rfl, hS, (by decide), _, _, rfl, rfl, (by show (0 : Int) < _; decide +kernel), _, rfl, _, _, _, rfl, hS, (by decide), _, _, rfl, rfl, ⟨by decide +kernel, by decide +kernel⟩, _, _, rfl, rfl, (by show (0 : Int) < _; decide +kernel), rfl, _, rfl, ?_⟩
  refine ite2 (fun c1 => ?_) (fun c1 => ?_)
  · have c1 := dec_V c1
    refine ⟨_, rfl, _, _, _, rfl, hS, (by decide), _, _, rfl, rfl, ⟨by decide +kernel, by decide +kernel⟩, _, _, rfl, rfl, (by show (0 : Int) < _; decide +kernel), _, _, rfl, rfl, _, rfl, _, _, _, rfl, hS, (by decide), _, _, rfl, rfl, (by show (0 : Int) < _; decide +kernel), _, _, rfl, rfl, _, rfl, _, _, _, rfl, hS, (by decide), _, rfl, _, rfl, _, _, _, rfl, (by omega), fun l2 hl3 => ?_⟩
    · refine ⟨_, rfl, _, _, _, rfl, hS, (by decide), _, _, rfl, rfl, (by show (0 : Int) < _; decide +kernel), rfl, _, rfl, ?_⟩
      refine ite2 (fun c4 => ?_) (fun c4 => ?_)
      · have c4 := dec_V c4
        refine ⟨_, rfl, _, _, _, rfl, hS, (by decide), _, _, rfl, rfl, (by show (0 : Int) < _; decide +kernel), _, rfl, _, _, _, rfl, hS, (by decide), _, _, rfl, rfl, ⟨by decide +kernel, by decide +kernel⟩, _, _, rfl, rfl, (by show (0 : Int) < _; decide +kernel), rfl, _, rfl, ?_⟩
        refine ite2 (fun c5 => ?_) (fun c5 => ?_)
        · have c5 := dec_V c5
          refine ⟨_, rfl, _, _, _, rfl, hS, (by decide), _, _, rfl, rfl, ⟨by decide +kernel, by decide +kernel⟩, _, _, rfl, rfl, (by show (0 : Int) < _; decide +kernel), _, _, rfl, rfl, _, rfl, _, _, rfl, rfl, (by rw [str_len, point_len, PySem.sizeLine_eq]; omega), _, rfl, _, _, _, rfl, hS, (by decide), _, rfl, _, rfl, _, _, _, rfl, (by omega), fun l6 hl7 => ?_⟩
          · refine ⟨_, _, rfl, rfl, (by rw [str_app_len, str_len, str_len, point_len, PySem.sizeLine_eq]; omega), _, rfl, _, _, _, rfl, hS, (by decide), _, rfl, _, rfl, (by simp only [str_app_len, str_len, point_len, PySem.sizeLine_eq]; omega), _, _, rfl, rfl, _, _, rfl, rfl, (by show (0 : Int) < _; omega), _, rfl, _, _, _, rfl, hS, (by decide), _, _, rfl, rfl, (by show (0 : Int) < _; decide +kernel), ?_⟩
            obtain ⟨ch, hch⟩ := at_ex (l := (Str.ofString "01. \n-+_2xo").cps.toList) (i := cell ns 7 % 11) (by omega) (by rw [len_mark]; omega)
            refine ⟨_, _, _, rfl, rfl, (by decide), hch, _, rfl, _, _, _, rfl, hS, (by decide), _, _, rfl, rfl, (by show (0 : Int) < _; decide +kernel), rfl, _, rfl, ?_⟩
            refine ite2 (fun c8 => ?_) (fun c8 => ?_)
            · have c8 := dec_V c8
              refine ⟨_, rfl, _, rfl, _, rfl, _, rfl, (by simp only [str_app_len, str_len, point_len, PySem.sizeLine_eq]; omega), _, rfl, _, _, rfl, rfl, (ins1 (show (_ : Str).length ≤ 190 from by first | (simp only [str_app_len, str_len, point_len]; omega) | (rw [str_len]; omega)) (by decide)), _, rfl, _, rfl, _, rfl, _, rfl, (by simp only [str_app_len, str_len, point_len, PySem.sizeLine_eq]; omega), _, _, rfl, rfl, (ins2 (show (_ : Str).length ≤ 190 from by first | (simp only [str_app_len, str_len, point_len]; omega) | (rw [str_len]; omega)) (by decide)), ?_⟩
              exact str_any hQ (ins3 (show (_ : Str).length ≤ 190 from by first | (simp only [str_app_len, str_len, point_len]; omega) | (rw [str_len]; omega)) (by decide))
            · have c8 := dec_nV c8
              refine ⟨_, rfl, _, _, _, rfl, hS, (by decide), _, _, rfl, rfl, (by show (0 : Int) < _; decide +kernel), rfl, _, rfl, ?_⟩
              refine ite2 (fun c9 => ?_) (fun c9 => ?_)
              · have c9 := dec_V c9
                refine ⟨_, rfl, _, rfl, _, rfl, _, rfl, (by simp only [str_app_len, str_len, point_len, PySem.sizeLine_eq]; omega), _, rfl, _, _, rfl, rfl, (ins1 (show (_ : Str).length ≤ 190 from by first | (simp only [str_app_len, str_len, point_len]; omega) | (rw [str_len]; omega)) (by decide)), _, rfl, _, rfl, _, _, rfl, rfl, _, rfl, _, rfl, (by simp only [str_app_len, str_len, point_len, PySem.sizeLine_eq]; omega), _, _, rfl, rfl, (ins2 (show (_ : Str).length ≤ 190 from by first | (simp only [str_app_len, str_len, point_len]; omega) | (rw [str_len]; omega)) (by decide)), ?_⟩
                exact str_any hQ (ins3 (show (_ : Str).length ≤ 190 from by first | (simp only [str_app_len, str_len, point_len]; omega) | (rw [str_len]; omega)) (by decide))
              · have c9 := dec_nV c9
                refine ⟨_, rfl, ?_⟩
                exact str_any hQ (by simp only [str_app_len, str_len, point_len]; omega)
        · have c5 := dec_nV c5
          refine ⟨_, rfl, _, _, rfl, rfl, (by rw [str_len, point_len, PySem.sizeLine_eq]; omega), _, rfl, _, _, _, rfl, hS, (by decide), _, rfl, _, rfl, _, _, _, rfl, (by omega), fun l10 hl11 => ?_⟩
          · refine ⟨_, _, rfl, rfl, (by rw [str_app_len, str_len, str_len, point_len, PySem.sizeLine_eq]; omega), _, rfl, _, _, _, rfl, hS, (by decide), _, rfl, _, rfl, (by simp only [str_app_len, str_len, point_len, PySem.sizeLine_eq]; omega), _, _, rfl, rfl, _, _, rfl, rfl, (by show (0 : Int) < _; omega), _, rfl, _, _, _, rfl, hS, (by decide), _, _, rfl, rfl, (by show (0 : Int) < _; decide +kernel), ?_⟩
            obtain ⟨ch, hch⟩ := at_ex (l := (Str.ofString "01. \n-+_2xo").cps.toList) (i := cell ns 7 % 11) (by omega) (by rw [len_mark]; omega)
            refine ⟨_, _, _, rfl, rfl, (by decide), hch, _, rfl, _, _, _, rfl, hS, (by decide), _, _, rfl, rfl, (by show (0 : Int) < _; decide +kernel), rfl, _, rfl, ?_⟩
            refine ite2 (fun c12 => ?_) (fun c12 => ?_)
            · have c12 := dec_V c12
              refine ⟨_, rfl, _, rfl, _, rfl, _, rfl, (by simp only [str_app_len, str_len, point_len, PySem.sizeLine_eq]; omega), _, rfl, _, _, rfl, rfl, (ins1 (show (_ : Str).length ≤ 190 from by first | (simp only [str_app_len, str_len, point_len]; omega) | (rw [str_len]; omega)) (by decide)), _, rfl, _, rfl, _, rfl, _, rfl, (by simp only [str_app_len, str_len, point_len, PySem.sizeLine_eq]; omega), _, _, rfl, rfl, (ins2 (show (_ : Str).length ≤ 190 from by first | (simp only [str_app_len, str_len, point_len]; omega) | (rw [str_len]; omega)) (by decide)), ?_⟩
              exact str_any hQ (ins3 (show (_ : Str).length ≤ 190 from by first | (simp only [str_app_len, str_len, point_len]; omega) | (rw [str_len]; omega)) (by decide))
            · have c12 := dec_nV c12
              refine ⟨_, rfl, _, _, _, rfl, hS, (by decide), _, _, rfl, rfl, (by show (0 : Int) < _; decide +kernel), rfl, _, rfl, ?_⟩
              refine ite2 (fun c13 => ?_) (fun c13 => ?_)
              · have c13 := dec_V c13
                refine ⟨_, rfl, _, rfl, _, rfl, _, rfl, (by simp only [str_app_len, str_len, point_len, PySem.sizeLine_eq]; omega), _, rfl, _, _, rfl, rfl, (ins1 (show (_ : Str).length ≤ 190 from by first | (simp only [str_app_len, str_len, point_len]; omega) | (rw [str_len]; omega)) (by decide)), _, rfl, _, rfl, _, _, rfl, rfl, _, rfl, _, rfl, (by simp only [str_app_len, str_len, point_len, PySem.sizeLine_eq]; omega), _, _, rfl, rfl, (ins2 (show (_ : Str).length ≤ 190 from by first | (simp only [str_app_len, str_len, point_len]; omega) | (rw [str_len]; omega)) (by decide)), ?_⟩
                exact str_any hQ (ins3 (show (_ : Str).length ≤ 190 from by first | (simp only [str_app_len, str_len, point_len]; omega) | (rw [str_len]; omega)) (by decide))
              · have c13 := dec_nV c13
                refine ⟨_, rfl, ?_⟩
                exact str_any hQ (by simp only [str_app_len, str_len, point_len]; omega)
      · have c4 := dec_nV c4
        refine ⟨_, rfl, _, _, _, rfl, hS, (by decide), _, rfl, _, rfl, (by simp only [str_app_len, str_len, point_len, PySem.sizeLine_eq]; omega), _, _, rfl, rfl, _, _, rfl, rfl, (by show (0 : Int) < _; omega), _, rfl, _, _, _, rfl, hS, (by decide), _, _, rfl, rfl, (by show (0 : Int) < _; decide +kernel), ?_⟩
        obtain ⟨ch, hch⟩ := at_ex (l := (Str.ofString "01. \n-+_2xo").cps.toList) (i := cell ns 7 % 11) (by omega) (by rw [len_mark]; omega)
        refine ⟨_, _, _, rfl, rfl, (by decide), hch, _, rfl, _, _, _, rfl, hS, (by decide), _, _, rfl, rfl, (by show (0 : Int) < _; decide +kernel), rfl, _, rfl, ?_⟩
        refine ite2 (fun c14 => ?_) (fun c14 => ?_)
        · have c14 := dec_V c14
          refine ⟨_, rfl, _, rfl, _, rfl, _, rfl, (by simp only [str_app_len, str_len, point_len, PySem.sizeLine_eq]; omega), _, rfl, _, _, rfl, rfl, (ins1 (show (_ : Str).length ≤ 190 from by first | (simp only [str_app_len, str_len, point_len]; omega) | (rw [str_len]; omega)) (by decide)), _, rfl, _, rfl, _, rfl, _, rfl, (by simp only [str_app_len, str_len, point_len, PySem.sizeLine_eq]; omega), _, _, rfl, rfl, (ins2 (show (_ : Str).length ≤ 190 from by first | (simp only [str_app_len, str_len, point_len]; omega) | (rw [str_len]; omega)) (by decide)), ?_⟩
          exact str_any hQ (ins3 (show (_ : Str).length ≤ 190 from by first | (simp only [str_app_len, str_len, point_len]; omega) | (rw [str_len]; omega)) (by decide))
        · have c14 := dec_nV c14
          refine ⟨_, rfl, _, _, _, rfl, hS, (by decide), _, _, rfl, rfl, (by show (0 : Int) < _; decide +kernel), rfl, _, rfl, ?_⟩
          refine ite2 (fun c15 => ?_) (fun c15 => ?_)
          · have c15 := dec_V c15
            refine ⟨_, rfl, _, rfl, _, rfl, _, rfl, (by simp only [str_app_len, str_len, point_len, PySem.sizeLine_eq]; omega), _, rfl, _, _, rfl, rfl, (ins1 (show (_ : Str).length ≤ 190 from by first | (simp only [str_app_len, str_len, point_len]; omega) | (rw [str_len]; omega)) (by decide)), _, rfl, _, rfl, _, _, rfl, rfl, _, rfl, _, rfl, (by simp only [str_app_len, str_len, point_len, PySem.sizeLine_eq]; omega), _, _, rfl, rfl, (ins2 (show (_ : Str).length ≤ 190 from by first | (simp only [str_app_len, str_len, point_len]; omega) | (rw [str_len]; omega)) (by decide)), ?_⟩
            exact str_any hQ (ins3 (show (_ : Str).length ≤ 190 from by first | (simp only [str_app_len, str_len, point_len]; omega) | (rw [str_len]; omega)) (by decide))
          · have c15 := dec_nV c15
            refine ⟨_, rfl, ?_⟩
            exact str_any hQ (by simp only [str_app_len, str_len, point_len]; omega)
  · have c1 := dec_nV c1
    refine ⟨_, rfl, _, _, _, rfl, hS, (by decide), _, _, rfl, rfl, (by show (0 : Int) < _; decide +kernel), _, _, rfl, rfl, _, rfl, _, _, _, rfl, hS, (by decide), _, rfl, _, rfl, _, _, _, rfl, (by omega), fun l16 hl17 => ?_⟩
    · refine ⟨_, rfl, _, _, _, rfl, hS, (by decide), _, _, rfl, rfl, (by show (0 : Int) < _; decide +kernel), rfl, _, rfl, ?_⟩
      refine ite2 (fun c18 => ?_) (fun c18 => ?_)
      · have c18 := dec_V c18
        refine ⟨_, rfl, _, _, _, rfl, hS, (by decide), _, _, rfl, rfl, (by show (0 : Int) < _; decide +kernel), _, rfl, _, _, _, rfl, hS, (by decide), _, _, rfl, rfl, ⟨by decide +kernel, by decide +kernel⟩, _, _, rfl, rfl, (by show (0 : Int) < _; decide +kernel), rfl, _, rfl, ?_⟩
        refine ite2 (fun c19 => ?_) (fun c19 => ?_)
        · have c19 := dec_V c19
          refine ⟨_, rfl, _, _, _, rfl, hS, (by decide), _, _, rfl, rfl, ⟨by decide +kernel, by decide +kernel⟩, _, _, rfl, rfl, (by show (0 : Int) < _; decide +kernel), _, _, rfl, rfl, _, rfl, _, _, rfl, rfl, (by rw [str_len, point_len, PySem.sizeLine_eq]; omega), _, rfl, _, _, _, rfl, hS, (by decide), _, rfl, _, rfl, _, _, _, rfl, (by omega), fun l20 hl21 => ?_⟩
          · refine ⟨_, _, rfl, rfl, (by rw [str_app_len, str_len, str_len, point_len, PySem.sizeLine_eq]; omega), _, rfl, _, _, _, rfl, hS, (by decide), _, rfl, _, rfl, (by simp only [str_app_len, str_len, point_len, PySem.sizeLine_eq]; omega), _, _, rfl, rfl, _, _, rfl, rfl, (by show (0 : Int) < _; omega), _, rfl, _, _, _, rfl, hS, (by decide), _, _, rfl, rfl, (by show (0 : Int) < _; decide +kernel), ?_⟩
            obtain ⟨ch, hch⟩ := at_ex (l := (Str.ofString "01. \n-+_2xo").cps.toList) (i := cell ns 7 % 11) (by omega) (by rw [len_mark]; omega)
            refine ⟨_, _, _, rfl, rfl, (by decide), hch, _, rfl, _, _, _, rfl, hS, (by decide), _, _, rfl, rfl, (by show (0 : Int) < _; decide +kernel), rfl, _, rfl, ?_⟩
            refine ite2 (fun c22 => ?_) (fun c22 => ?_)
            · have c22 := dec_V c22
              refine ⟨_, rfl, _, rfl, _, rfl, _, rfl, (by simp only [str_app_len, str_len, point_len, PySem.sizeLine_eq]; omega), _, rfl, _, _, rfl, rfl, (ins1 (show (_ : Str).length ≤ 190 from by first | (simp only [str_app_len, str_len, point_len]; omega) | (rw [str_len]; omega)) (by decide)), _, rfl, _, rfl, _, rfl, _, rfl, (by simp only [str_app_len, str_len, point_len, PySem.sizeLine_eq]; omega), _, _, rfl, rfl, (ins2 (show (_ : Str).length ≤ 190 from by first | (simp only [str_app_len, str_len, point_len]; omega) | (rw [str_len]; omega)) (by decide)), ?_⟩
              exact str_any hQ (ins3 (show (_ : Str).length ≤ 190 from by first | (simp only [str_app_len, str_len, point_len]; omega) | (rw [str_len]; omega)) (by decide))
            · have c22 := dec_nV c22
              refine ⟨_, rfl, _, _, _, rfl, hS, (by decide), _, _, rfl, rfl, (by show (0 : Int) < _; decide +kernel), rfl, _, rfl, ?_⟩
              refine ite2 (fun c23 => ?_) (fun c23 => ?_)
              · have c23 := dec_V c23
                refine ⟨_, rfl, _, rfl, _, rfl, _, rfl, (by simp only [str_app_len, str_len, point_len, PySem.sizeLine_eq]; omega), _, rfl, _, _, rfl, rfl, (ins1 (show (_ : Str).length ≤ 190 from by first | (simp only [str_app_len, str_len, point_len]; omega) | (rw [str_len]; omega)) (by decide)), _, rfl, _, rfl, _, _, rfl, rfl, _, rfl, _, rfl, (by simp only [str_app_len, str_len, point_len, PySem.sizeLine_eq]; omega), _, _, rfl, rfl, (ins2 (show (_ : Str).length ≤ 190 from by first | (simp only [str_app_len, str_len, point_len]; omega) | (rw [str_len]; omega)) (by decide)), ?_⟩
                exact str_any hQ (ins3 (show (_ : Str).length ≤ 190 from by first | (simp only [str_app_len, str_len, point_len]; omega) | (rw [str_len]; omega)) (by decide))
              · have c23 := dec_nV c23
                refine ⟨_, rfl, ?_⟩
                exact str_any hQ (by simp only [str_app_len, str_len, point_len]; omega)
        · have c19 := dec_nV c19
          refine ⟨_, rfl, _, _, rfl, rfl, (by rw [str_len, point_len, PySem.sizeLine_eq]; omega), _, rfl, _, _, _, rfl, hS, (by decide), _, rfl, _, rfl, _, _, _, rfl, (by omega), fun l24 hl25 => ?_⟩
          · refine ⟨_, _, rfl, rfl, (by rw [str_app_len, str_len, str_len, point_len, PySem.sizeLine_eq]; omega), _, rfl, _, _, _, rfl, hS, (by decide), _, rfl, _, rfl, (by simp only [str_app_len, str_len, point_len, PySem.sizeLine_eq]; omega), _, _, rfl, rfl, _, _, rfl, rfl, (by show (0 : Int) < _; omega), _, rfl, _, _, _, rfl, hS, (by decide), _, _, rfl, rfl, (by show (0 : Int) < _; decide +kernel), ?_⟩
            obtain ⟨ch, hch⟩ := at_ex (l := (Str.ofString "01. \n-+_2xo").cps.toList) (i := cell ns 7 % 11) (by omega) (by rw [len_mark]; omega)
            refine ⟨_, _, _, rfl, rfl, (by decide), hch, _, rfl, _, _, _, rfl, hS, (by decide), _, _, rfl, rfl, (by show (0 : Int) < _; decide +kernel), rfl, _, rfl, ?_⟩
            refine ite2 (fun c26 => ?_) (fun c26 => ?_)
            · have c26 := dec_V c26
              refine ⟨_, rfl, _, rfl, _, rfl, _, rfl, (by simp only [str_app_len, str_len, point_len, PySem.sizeLine_eq]; omega), _, rfl, _, _, rfl, rfl, (ins1 (show (_ : Str).length ≤ 190 from by first | (simp only [str_app_len, str_len, point_len]; omega) | (rw [str_len]; omega)) (by decide)), _, rfl, _, rfl, _, rfl, _, rfl, (by simp only [str_app_len, str_len, point_len, PySem.sizeLine_eq]; omega), _, _, rfl, rfl, (ins2 (show (_ : Str).length ≤ 190 from by first | (simp only [str_app_len, str_len, point_len]; omega) | (rw [str_len]; omega)) (by decide)), ?_⟩
              exact str_any hQ (ins3 (show (_ : Str).length ≤ 190 from by first | (simp only [str_app_len, str_len, point_len]; omega) | (rw [str_len]; omega)) (by decide))
            · have c26 := dec_nV c26
              refine ⟨_, rfl, _, _, _, rfl, hS, (by decide), _, _, rfl, rfl, (by show (0 : Int) < _; decide +kernel), rfl, _, rfl, ?_⟩
              refine ite2 (fun c27 => ?_) (fun c27 => ?_)
              · have c27 := dec_V c27
                refine ⟨_, rfl, _, rfl, _, rfl, _, rfl, (by simp only [str_app_len, str_len, point_len, PySem.sizeLine_eq]; omega), _, rfl, _, _, rfl, rfl, (ins1 (show (_ : Str).length ≤ 190 from by first | (simp only [str_app_len, str_len, point_len]; omega) | (rw [str_len]; omega)) (by decide)), _, rfl, _, rfl, _, _, rfl, rfl, _, rfl, _, rfl, (by simp only [str_app_len, str_len, point_len, PySem.sizeLine_eq]; omega), _, _, rfl, rfl, (ins2 (show (_ : Str).length ≤ 190 from by first | (simp only [str_app_len, str_len, point_len]; omega) | (rw [str_len]; omega)) (by decide)), ?_⟩
                exact str_any hQ (ins3 (show (_ : Str).length ≤ 190 from by first | (simp only [str_app_len, str_len, point_len]; omega) | (rw [str_len]; omega)) (by decide))
              · have c27 := dec_nV c27
                refine ⟨_, rfl, ?_⟩
                exact str_any hQ (by simp only [str_app_len, str_len, point_len]; omega)
      · have c18 := dec_nV c18
        refine ⟨_, rfl, _, _, _, rfl, hS, (by decide), _, rfl, _, rfl, (by simp only [str_app_len, str_len, point_len, PySem.sizeLine_eq]; omega), _, _, rfl, rfl, _, _, rfl, rfl, (by show (0 : Int) < _; omega), _, rfl, _, _, _, rfl, hS, (by decide), _, _, rfl, rfl, (by show (0 : Int) < _; decide +kernel), ?_⟩
        obtain ⟨ch, hch⟩ := at_ex (l := (Str.ofString "01. \n-+_2xo").cps.toList) (i := cell ns 7 % 11) (by omega) (by rw [len_mark]; omega)
        refine ⟨_, _, _, rfl, rfl, (by decide), hch, _, rfl, _, _, _, rfl, hS, (by decide), _, _, rfl, rfl, (by show (0 : Int) < _; decide +kernel), rfl, _, rfl, ?_⟩
        refine ite2 (fun c28 => ?_) (fun c28 => ?_)
        · have c28 := dec_V c28
          refine ⟨_, rfl, _, rfl, _, rfl, _, rfl, (by simp only [str_app_len, str_len, point_len, PySem.sizeLine_eq]; omega), _, rfl, _, _, rfl, rfl, (ins1 (show (_ : Str).length ≤ 190 from by first | (simp only [str_app_len, str_len, point_len]; omega) | (rw [str_len]; omega)) (by decide)), _, rfl, _, rfl, _, rfl, _, rfl, (by simp only [str_app_len, str_len, point_len, PySem.sizeLine_eq]; omega), _, _, rfl, rfl, (ins2 (show (_ : Str).length ≤ 190 from by first | (simp only [str_app_len, str_len, point_len]; omega) | (rw [str_len]; omega)) (by decide)), ?_⟩
          exact str_any hQ (ins3 (show (_ : Str).length ≤ 190 from by first | (simp only [str_app_len, str_len, point_len]; omega) | (rw [str_len]; omega)) (by decide))
        · have c28 := dec_nV c28
          refine ⟨_, rfl, _, _, _, rfl, hS, (by decide), _, _, rfl, rfl, (by show (0 : Int) < _; decide +kernel), rfl, _, rfl, ?_⟩
          refine ite2 (fun c29 => ?_) (fun c29 => ?_)
          · have c29 := dec_V c29
            refine ⟨_, rfl, _, rfl, _, rfl, _, rfl, (by simp only [str_app_len, str_len, point_len, PySem.sizeLine_eq]; omega), _, rfl, _, _, rfl, rfl, (ins1 (show (_ : Str).length ≤ 190 from by first | (simp only [str_app_len, str_len, point_len]; omega) | (rw [str_len]; omega)) (by decide)), _, rfl, _, rfl, _, _, rfl, rfl, _, rfl, _, rfl, (by simp only [str_app_len, str_len, point_len, PySem.sizeLine_eq]; omega), _, _, rfl, rfl, (ins2 (show (_ : Str).length ≤ 190 from by first | (simp only [str_app_len, str_len, point_len]; omega) | (rw [str_len]; omega)) (by decide)), ?_⟩
            exact str_any hQ (ins3 (show (_ : Str).length ≤ 190 from by first | (simp only [str_app_len, str_len, point_len]; omega) | (rw [str_len]; omega)) (by decide))
          · have c29 := dec_nV c29
            refine ⟨_, rfl, ?_⟩
            exact str_any hQ (by simp only [str_app_len, str_len, point_len]; omega)

theorem ok_law_places {P : Program} {w : World} {K : PySem.W.Frag} {mg : Str → Option Value} {base : Heap} {c_GoldError c_NoNumber c_NoRow c_NoNote : Addr} (EC : Errs K mg c_GoldError c_NoNumber c_NoRow c_NoNote) (F : Has K mg "_law_places" s_law_places ["text"]) (b_len : mg "len" = none) (b_range : mg "range" = none) :
    OkF P w K mg base 1 "_law_places" ["text"] (spPlaced) := by
  refine F.ok sc_law_places (fun vs H Q E h => ?_) (fun f cdv A outer s H vs Q E hr h => ?_)
  · obtain ⟨l, rfl, hl, hQ, hQ0⟩ := h
    rfl
  obtain ⟨l, rfl, hl, hQ, hQ0⟩ := h
  refine ⟨_, (pss_cons (ps_set (i := 1) sc_law_places.nd rfl (Or.inr rfl) (pe_callB call_len_str rfl b_len PySem.boot_len (pa_cons (pv 0) pa_nil)))
    (pss_cons (ps_for PassesOwn.never rfl (pi_range1 rfl b_range (pa_cons (pe_callB call_len_str rfl b_len PySem.boot_len (pa_cons (pv 0) pa_nil)) pa_nil)) (pg_name (i := 2) sc_law_places.nd rfl (Or.inl rfl)) (pss_one (ps_if (PW.pt (pw_and (pt_cmpR op_eq (pe_ix ix_str (pv 0) (pv 2) (fun _ _ => rfl)) pe_str (nomark _)) (pw_and1 (pt_cmpR op_eq (pv 1) (pe_callB call_len_str rfl b_len PySem.boot_len (pa_cons (pv 0) pa_nil)) (nomark _))))) (pss_one (ps_set (i := 1) sc_law_places.nd rfl (Or.inr rfl) (pv 2))) (pss_one (ps_if (PW.pt (pw_and (pt_cmpR op_ne (pe_ix ix_str (pv 0) (pv 2) (fun _ _ => rfl)) pe_str (nomark _)) (pw_and1 (pt_cmpR op_ne (pe_ix ix_str (pv 0) (pv 2) (fun _ _ => rfl)) pe_str (nomark _))))) (pss_one (ps_ret pe_non)) pss_nil)))))
    (pss_cons (ps_if (PW.pt (pw_or (pt_cmpR op_eq (pv 1) pe_int (nomark _)) (pw_or (pt_cmpR op_eq (pv 1) (pe_op op_sub (pe_callB call_len_str rfl b_len PySem.boot_len (pa_cons (pv 0) pa_nil)) pe_int) (nomark _)) (pw_or1 (PW.pt (pw_and (pt_cmpR op_gt (pv 1) pe_int (nomark _)) (pw_and1 (pt_cmpR op_eq (pe_ix ix_str (pv 0) pe_int (fun _ _ => rfl)) pe_str (nomark _))))))))) (pss_one (ps_ret pe_non)) pss_nil)
    (pss_cons (ps_if (PW.pt (pw_and (pt_cmpR op_lt (pv 1) (pe_callB call_len_str rfl b_len PySem.boot_len (pa_cons (pv 0) pa_nil)) (nomark _)) (pw_and1 (pt_cmpR op_eq (pe_ix ix_str (pv 0) (pe_un un_neg pe_int) (fun _ _ => rfl)) pe_str (nomark _))))) (pss_one (ps_ret pe_non)) pss_nil)
    (pss_cons (ps_set (i := 3) sc_law_places.nd rfl (Or.inr rfl) (pe_op op_add_str (pe_slice sl_str (pv 0) po_none (po_some (pv 1))) (pe_slice sl_str (pv 0) (po_some (pe_op op_add (pv 1) pe_int)) po_none)))
    (pss_cons (ps_setComp (i := 4) (cl := [("point", s.heap.objs.size + 1), ("marks", s.heap.objs.size + 2)]) (px_range rfl b_range (pa_cons (pe_callB call_len_str rfl b_len PySem.boot_len (pa_cons (pv 3) pa_nil)) pa_nil) rfl) sc_law_places.nd rfl rfl rfl (by decide) rfl (by decide) rfl rfl rfl)
    (pss_cons (ps_for PassesOwn.never rfl (pi_range1 rfl b_range (pa_cons (pe_callB call_len_seq rfl b_len PySem.boot_len (pa_cons (pv 4) pa_nil)) pa_nil)) (pg_name (i := 2) sc_law_places.nd rfl (Or.inl rfl)) (pss_one (ps_if (PW.pt (pw_or (pt_cmpR op_gt (pe_ix ix_list (pv 4) (pv 2) (fun _ _ => rfl)) pe_int (nomark _)) (pw_or (pt_cmpR op_lt (pe_ix ix_list (pv 4) (pv 2) (fun _ _ => rfl)) (pe_un un_neg pe_int) (nomark _)) (pw_or1 (PW.pt (pw_and (pt_cmpR op_gt (pv 2) pe_int (nomark _)) (pw_and1 (pt_cmpR op_lt (pe_op op_sub (pe_ix ix_list (pv 4) (pe_op op_sub (pv 2) pe_int) (fun _ _ => rfl)) (pe_ix ix_list (pv 4) (pv 2) (fun _ _ => rfl))) pe_int (nomark _))))))))) (pss_one (ps_ret pe_non)) pss_nil)))
    (pss_one (ps_ret (pv 4)))))))))), ?_⟩
  refine ⟨_, rfl, _, rfl, (by rw [str_len, PySem.sizeLine_eq]; omega), _, rfl, _, rfl, (by rw [str_len, PySem.sizeLine_eq]; omega), _, rfl, (by omega), (by rw [str_len]; omega), for_range (fun i σ H' => ∃ pt pa pb z1 z2 z3, σ = [some (.str (strOf l)), some (.int pt), z1, z2, z3] ∧ H' = H ∧ PInv l i pt pa pb) ?_ ?_ ?_⟩
  · exact ⟨_, [], [], _, _, _, rfl, rfl, (PInv.start l)⟩
  · rintro i σ H' hi ⟨pt, pa, pb, z1, z2, z3, rfl, e0, hI⟩
    subst e0
    rw [Int.toNat_natCast, str_len] at hi
    obtain ⟨ch, hch⟩ : ∃ c, l[i]? = some c := ⟨_, List.getElem?_eq_getElem hi⟩
    refine ⟨_, rfl, _, rfl, _, _, _, rfl, rfl, (by rw [str_len, PySem.sizeLine_eq]; omega), (sat hch), rfl, _, rfl, ?_⟩
    refine ite2 (fun c1 => ?_) (fun c1 => ?_)
    · have h46 := chT c1 str_point
      refine ⟨_, rfl, _, rfl, _, rfl, (by rw [str_len, PySem.sizeLine_eq]; omega), rfl, _, rfl, ?_⟩
      refine ite2 (fun c2 => ?_) (fun c2 => ?_)
      · have hpt : pt = (l.length : Int) := dec_V c2
        have c2 := dec_V c2
        refine ⟨_, rfl, ?_⟩
        exact ⟨_, _, _, _, _, _, rfl, rfl, (by rw [Int.zero_add]; exact hI.point (h46 ▸ hch) hpt)⟩
      · have hpt : ¬ pt = (l.length : Int) := dec_nV c2
        refine ⟨_, rfl, _, rfl, _, _, _, rfl, rfl, (by rw [str_len, PySem.sizeLine_eq]; omega), (sat hch), rfl, _, rfl, ?_⟩
        refine ite2 (fun c3 => ?_) (fun c3 => ?_)
        · have h48 := chNT c3 str_0
          refine ⟨_, rfl, _, rfl, _, _, _, rfl, rfl, (by rw [str_len, PySem.sizeLine_eq]; omega), (sat hch), rfl, _, rfl, ?_⟩
          refine ite2 (fun c4 => ?_) (fun c4 => ?_)
          · have h49 := chNT c4 str_1
            exact hQ0 (by first | exact fun xs _ => hI.bad hch (not_fig h48 h49) (by first | exact fun z => h46 z.1 | exact fun z => hpt z.2) xs | exact fun xs _ => hL.none1 h1 xs | exact fun xs _ => hL.none2 h2 xs | exact fun xs _ => hL.none3 h3 (by rw [hc0, h6]) xs | exact fun xs _ => hL.none4 h5 (by rw [hc1, h7]) xs | exact hL.none5 (by first | exact good_F1 hi (by assumption) | exact good_F2 hi (by assumption) | exact good_F3 hi (by assumption) (by assumption))) _ (Same.refl _)
          · have h49 := chNF c4 str_1
            obtain ⟨a', b', hI'⟩ := hI.figure hch (.inr h49)
            exact ⟨_, _, _, _, _, _, rfl, rfl, hI'⟩
        · have h48 := chNF c3 str_0
          refine if_F rfl ?_
          obtain ⟨a', b', hI'⟩ := hI.figure hch (.inl h48)
          exact ⟨_, _, _, _, _, _, rfl, rfl, hI'⟩
    · have h46 := chF c1 str_point
      refine if_F rfl ?_
      refine ⟨_, rfl, _, rfl, _, _, _, rfl, rfl, (by rw [str_len, PySem.sizeLine_eq]; omega), (sat hch), rfl, _, rfl, ?_⟩
      refine ite2 (fun c5 => ?_) (fun c5 => ?_)
      · have h48 := chNT c5 str_0
        refine ⟨_, rfl, _, rfl, _, _, _, rfl, rfl, (by rw [str_len, PySem.sizeLine_eq]; omega), (sat hch), rfl, _, rfl, ?_⟩
        refine ite2 (fun c6 => ?_) (fun c6 => ?_)
        · have h49 := chNT c6 str_1
          exact hQ0 (by first | exact fun xs _ => hI.bad hch (not_fig h48 h49) (by first | exact fun z => h46 z.1 | exact fun z => hpt z.2) xs | exact fun xs _ => hL.none1 h1 xs | exact fun xs _ => hL.none2 h2 xs | exact fun xs _ => hL.none3 h3 (by rw [hc0, h6]) xs | exact fun xs _ => hL.none4 h5 (by rw [hc1, h7]) xs | exact hL.none5 (by first | exact good_F1 hi (by assumption) | exact good_F2 hi (by assumption) | exact good_F3 hi (by assumption) (by assumption))) _ (Same.refl _)
        · have h49 := chNF c6 str_1
          obtain ⟨a', b', hI'⟩ := hI.figure hch (.inr h49)
          exact ⟨_, _, _, _, _, _, rfl, rfl, hI'⟩
      · have h48 := chNF c5 str_0
        refine if_F rfl ?_
        obtain ⟨a', b', hI'⟩ := hI.figure hch (.inl h48)
        exact ⟨_, _, _, _, _, _, rfl, rfl, hI'⟩
  · rintro σ H' ⟨pt, pa, pb, z1, z2, z3, rfl, e0, hI⟩
    subst e0
    rw [Int.toNat_natCast, str_len] at hI
    have hL := hI.fin
    have hle := hL.le
    refine ⟨_, rfl, rfl, _, rfl, ?_⟩
    refine ite2 (fun c7 => ?_) (fun c7 => ?_)
    · have h1 := dec_V c7
      refine if_T rfl ?_
      exact hQ0 (by first | exact fun xs _ => hI.bad hch (not_fig h48 h49) (by first | exact fun z => h46 z.1 | exact fun z => hpt z.2) xs | exact fun xs _ => hL.none1 h1 xs | exact fun xs _ => hL.none2 h2 xs | exact fun xs _ => hL.none3 h3 (by rw [hc0, h6]) xs | exact fun xs _ => hL.none4 h5 (by rw [hc1, h7]) xs | exact hL.none5 (by first | exact good_F1 hi (by assumption) | exact good_F2 hi (by assumption) | exact good_F3 hi (by assumption) (by assumption))) _ (Same.refl _)
    · have h1 := dec_nV c7
      refine ⟨_, rfl, _, rfl, _, rfl, (by rw [str_len, PySem.sizeLine_eq]; omega), _, _, rfl, rfl, rfl, _, rfl, ?_⟩
      refine ite2 (fun c8 => ?_) (fun c8 => ?_)
      · have h2 : pt = (l.length : Int) - 1 := dec_V c8
        refine if_T rfl ?_
        exact hQ0 (by first | exact fun xs _ => hI.bad hch (not_fig h48 h49) (by first | exact fun z => h46 z.1 | exact fun z => hpt z.2) xs | exact fun xs _ => hL.none1 h1 xs | exact fun xs _ => hL.none2 h2 xs | exact fun xs _ => hL.none3 h3 (by rw [hc0, h6]) xs | exact fun xs _ => hL.none4 h5 (by rw [hc1, h7]) xs | exact hL.none5 (by first | exact good_F1 hi (by assumption) | exact good_F2 hi (by assumption) | exact good_F3 hi (by assumption) (by assumption))) _ (Same.refl _)
      · have h2 : ¬ pt = (l.length : Int) - 1 := dec_nV c8
        refine ⟨_, rfl, _, _, rfl, rfl, _, rfl, ?_⟩
        refine ite2 (fun c9 => ?_) (fun c9 => ?_)
        · have h3 := dT c9
          refine ⟨_, rfl, ?_⟩
          obtain ⟨c0, hc0⟩ : ∃ c, l[0]? = some c := ⟨_, List.getElem?_eq_getElem (by omega)⟩
          refine ⟨_, _, _, rfl, rfl, (by rw [str_len, PySem.sizeLine_eq]; omega), (sat0 hc0), rfl, _, rfl, ?_⟩
          refine ite2 (fun c10 => ?_) (fun c10 => ?_)
          · have h6 := chT c10 str_0
            exact hQ0 (by first | exact fun xs _ => hI.bad hch (not_fig h48 h49) (by first | exact fun z => h46 z.1 | exact fun z => hpt z.2) xs | exact fun xs _ => hL.none1 h1 xs | exact fun xs _ => hL.none2 h2 xs | exact fun xs _ => hL.none3 h3 (by rw [hc0, h6]) xs | exact fun xs _ => hL.none4 h5 (by rw [hc1, h7]) xs | exact hL.none5 (by first | exact good_F1 hi (by assumption) | exact good_F2 hi (by assumption) | exact good_F3 hi (by assumption) (by assumption))) _ (Same.refl _)
          · have h6 := chF c10 str_0
            refine ⟨_, rfl, _, rfl, _, rfl, (by rw [str_len, PySem.sizeLine_eq]; omega), _, _, rfl, rfl, _, rfl, ?_⟩
            refine ite2 (fun c11 => ?_) (fun c11 => ?_)
            · have h5 : pt < (l.length : Int) := dT c11
              refine ⟨_, rfl, _, rfl, ?_⟩
              obtain ⟨c1, hc1⟩ : ∃ c, l[l.length - 1]? = some c := ⟨_, List.getElem?_eq_getElem (by omega)⟩
              refine ⟨_, _, _, rfl, rfl, (by rw [str_len, PySem.sizeLine_eq]; omega), (sat_last hc1), rfl, _, rfl, ?_⟩
              refine ite2 (fun c12 => ?_) (fun c12 => ?_)
              · have h7 := chT c12 str_0
                exact hQ0 (by first | exact fun xs _ => hI.bad hch (not_fig h48 h49) (by first | exact fun z => h46 z.1 | exact fun z => hpt z.2) xs | exact fun xs _ => hL.none1 h1 xs | exact fun xs _ => hL.none2 h2 xs | exact fun xs _ => hL.none3 h3 (by rw [hc0, h6]) xs | exact fun xs _ => hL.none4 h5 (by rw [hc1, h7]) xs | exact hL.none5 (by first | exact good_F1 hi (by assumption) | exact good_F2 hi (by assumption) | exact good_F3 hi (by assumption) (by assumption))) _ (Same.refl _)
              · have h7 := chF c12 str_0
                refine ⟨_, rfl, _, rfl, _, rfl, _, rfl, (by rw [str_len, PySem.sizeLine_eq]; omega), _, rfl, _, rfl, _, _, rfl, rfl, _, rfl, _, rfl, (by rw [str_len, PySem.sizeLine_eq]; omega), _, _, rfl, rfl, (cat_few hl), ?_⟩
                rw [cut_to hle.1 hle.2, cut_from (by omega), str_cat, hL.marks]
                have hml := cut_len hL.cut
                refine ⟨(fun j => ((⟨#[(pa ++ pb).getD j.toNat 0]⟩ : Str) == Str.ofString "1")), (fun j => pt - 1 - j), _, rfl, _, rfl, (by rw [str_len, List.length_append, PySem.sizeLine_eq]; omega), _, rfl, (by omega), (by rw [str_len, List.length_append]; omega), (by unfold upto; rw [List.length_map, List.length_range, Int.toNat_natCast, str_len, List.length_append, PySem.sizeLine_eq]; omega), fun pins s₁ I j hj => ⟨(qts_one (qt_eqS (qv_ixS (by rw [str_len, List.length_append, PySem.sizeLine_eq]; omega) (mat hj) (qv_cap (i := 3) I rfl rfl rfl rfl (fun _ => rfl) rfl rfl) (qv_item rfl rfl) (fun _ _ => rfl)) qv_str)), fun hp => (qv_sub (qv_sub (qv_cap (i := 1) I rfl rfl rfl rfl (fun _ => rfl) rfl rfl) qv_int) (qv_item rfl rfl))⟩, fun p13 H14 s15 n16 e17 => ?_⟩
                rw [upto_places hL] at e17
                refine ⟨_, rfl, _, _, rfl, .inl (SqL.of e17), _, rfl, (by omega), (by rw [List.length_map]; have := places_few hL.cut hl; omega), for_range (fun i σ H' => ∃ z1 z2, σ = [some (.str (strOf l)), some (.int pt), z1, z2, some (.ref p13)] ∧ H' = H14 ∧ IsRow ((placesL pa pb).take i)) ?_ ?_ ?_⟩
                · exact ⟨_, _, rfl, rfl, isRow_start⟩
                · rintro i σ H' hi ⟨z1, z2, rfl, e1, hJ⟩
                  subst e1
                  rw [Int.toNat_natCast, List.length_map] at hi
                  refine ⟨_, rfl, _, rfl, _, _, _, _, rfl, rfl, SqL.of e17, get_at (by omega) (by omega), _, _, rfl, rfl, _, rfl, ?_⟩
                  refine ite2 (fun c18 => ?_) (fun c18 => ?_)
                  · have c18 := dT c18
                    refine if_T rfl ?_
                    exact hQ0 (by first | exact fun xs _ => hI.bad hch (not_fig h48 h49) (by first | exact fun z => h46 z.1 | exact fun z => hpt z.2) xs | exact fun xs _ => hL.none1 h1 xs | exact fun xs _ => hL.none2 h2 xs | exact fun xs _ => hL.none3 h3 (by rw [hc0, h6]) xs | exact fun xs _ => hL.none4 h5 (by rw [hc1, h7]) xs | exact hL.none5 (by first | exact good_F1 hi (by assumption) | exact good_F2 hi (by assumption) | exact good_F3 hi (by assumption) (by assumption))) _ s15
                  · have c18 := dF c18
                    refine ⟨_, rfl, _, rfl, _, _, _, _, rfl, rfl, SqL.of e17, get_at (by omega) (by omega), _, rfl, _, _, rfl, rfl, _, rfl, ?_⟩
                    refine ite2 (fun c19 => ?_) (fun c19 => ?_)
                    · have c19 := dT c19
                      refine if_T rfl ?_
                      exact hQ0 (by first | exact fun xs _ => hI.bad hch (not_fig h48 h49) (by first | exact fun z => h46 z.1 | exact fun z => hpt z.2) xs | exact fun xs _ => hL.none1 h1 xs | exact fun xs _ => hL.none2 h2 xs | exact fun xs _ => hL.none3 h3 (by rw [hc0, h6]) xs | exact fun xs _ => hL.none4 h5 (by rw [hc1, h7]) xs | exact hL.none5 (by first | exact good_F1 hi (by assumption) | exact good_F2 hi (by assumption) | exact good_F3 hi (by assumption) (by assumption))) _ s15
                    · have c19 := dF c19
                      refine ⟨_, rfl, _, _, rfl, rfl, _, rfl, ?_⟩
                      refine ite2 (fun c20 => ?_) (fun c20 => ?_)
                      · have c20 := dT c20
                        refine ⟨_, rfl, _, rfl, _, _, rfl, rfl, _, _, _, _, rfl, rfl, SqL.of e17, get_at (by omega) (by omega), _, rfl, _, rfl, _, _, _, _, rfl, rfl, SqL.of e17, get_at (by omega) (by omega), _, _, rfl, rfl, _, _, rfl, rfl, _, rfl, ?_⟩
                        refine ite2 (fun c21 => ?_) (fun c21 => ?_)
                        · have c21 := dT c21
                          exact hQ0 (by first | exact fun xs _ => hI.bad hch (not_fig h48 h49) (by first | exact fun z => h46 z.1 | exact fun z => hpt z.2) xs | exact fun xs _ => hL.none1 h1 xs | exact fun xs _ => hL.none2 h2 xs | exact fun xs _ => hL.none3 h3 (by rw [hc0, h6]) xs | exact fun xs _ => hL.none4 h5 (by rw [hc1, h7]) xs | exact hL.none5 (by first | exact good_F1 hi (by assumption) | exact good_F2 hi (by assumption) | exact good_F3 hi (by assumption) (by assumption))) _ s15
                        · have c21 := dF c21
                          exact ⟨_, _, rfl, rfl, (by first | exact good_T0 hi hJ (by assumption) (by assumption) (by assumption) | exact good_T1 hi hJ (by assumption) (by assumption) (by assumption) (by assumption))⟩
                      · have c20 := dF c20
                        refine if_F rfl ?_
                        exact ⟨_, _, rfl, rfl, (by first | exact good_T0 hi hJ (by assumption) (by assumption) (by assumption) | exact good_T1 hi hJ (by assumption) (by assumption) (by assumption) (by assumption))⟩
                · rintro σ H' ⟨z1, z2, rfl, e1, hJ⟩
                  subst e1
                  rw [Int.toNat_natCast, List.length_map, List.take_length] at hJ
                  refine ⟨_, rfl, ?_⟩
                  exact hQ _ _ _ s15 n16 e17 ⟨hJ, hL.done h1 h2 (by first | exact fun z => absurd z h3 | exact fun _ => ne48 hc0 h6) (by first | exact fun z => absurd z h5 | exact fun _ => ne48 hc1 h7)⟩
            · have h5 : ¬ pt < (l.length : Int) := dF c11
              refine if_F rfl ?_
              refine ⟨_, rfl, _, rfl, _, rfl, _, rfl, (by rw [str_len, PySem.sizeLine_eq]; omega), _, rfl, _, rfl, _, _, rfl, rfl, _, rfl, _, rfl, (by rw [str_len, PySem.sizeLine_eq]; omega), _, _, rfl, rfl, (cat_few hl), ?_⟩
              rw [cut_to hle.1 hle.2, cut_from (by omega), str_cat, hL.marks]
              have hml := cut_len hL.cut
              refine ⟨(fun j => ((⟨#[(pa ++ pb).getD j.toNat 0]⟩ : Str) == Str.ofString "1")), (fun j => pt - 1 - j), _, rfl, _, rfl, (by rw [str_len, List.length_append, PySem.sizeLine_eq]; omega), _, rfl, (by omega), (by rw [str_len, List.length_append]; omega), (by unfold upto; rw [List.length_map, List.length_range, Int.toNat_natCast, str_len, List.length_append, PySem.sizeLine_eq]; omega), fun pins s₁ I j hj => ⟨(qts_one (qt_eqS (qv_ixS (by rw [str_len, List.length_append, PySem.sizeLine_eq]; omega) (mat hj) (qv_cap (i := 3) I rfl rfl rfl rfl (fun _ => rfl) rfl rfl) (qv_item rfl rfl) (fun _ _ => rfl)) qv_str)), fun hp => (qv_sub (qv_sub (qv_cap (i := 1) I rfl rfl rfl rfl (fun _ => rfl) rfl rfl) qv_int) (qv_item rfl rfl))⟩, fun p22 H23 s24 n25 e26 => ?_⟩
              rw [upto_places hL] at e26
              refine ⟨_, rfl, _, _, rfl, .inl (SqL.of e26), _, rfl, (by omega), (by rw [List.length_map]; have := places_few hL.cut hl; omega), for_range (fun i σ H' => ∃ z1 z2, σ = [some (.str (strOf l)), some (.int pt), z1, z2, some (.ref p22)] ∧ H' = H23 ∧ IsRow ((placesL pa pb).take i)) ?_ ?_ ?_⟩
              · exact ⟨_, _, rfl, rfl, isRow_start⟩
              · rintro i σ H' hi ⟨z1, z2, rfl, e1, hJ⟩
                subst e1
                rw [Int.toNat_natCast, List.length_map] at hi
                refine ⟨_, rfl, _, rfl, _, _, _, _, rfl, rfl, SqL.of e26, get_at (by omega) (by omega), _, _, rfl, rfl, _, rfl, ?_⟩
                refine ite2 (fun c27 => ?_) (fun c27 => ?_)
                · have c27 := dT c27
                  refine if_T rfl ?_
                  exact hQ0 (by first | exact fun xs _ => hI.bad hch (not_fig h48 h49) (by first | exact fun z => h46 z.1 | exact fun z => hpt z.2) xs | exact fun xs _ => hL.none1 h1 xs | exact fun xs _ => hL.none2 h2 xs | exact fun xs _ => hL.none3 h3 (by rw [hc0, h6]) xs | exact fun xs _ => hL.none4 h5 (by rw [hc1, h7]) xs | exact hL.none5 (by first | exact good_F1 hi (by assumption) | exact good_F2 hi (by assumption) | exact good_F3 hi (by assumption) (by assumption))) _ s24
                · have c27 := dF c27
                  refine ⟨_, rfl, _, rfl, _, _, _, _, rfl, rfl, SqL.of e26, get_at (by omega) (by omega), _, rfl, _, _, rfl, rfl, _, rfl, ?_⟩
                  refine ite2 (fun c28 => ?_) (fun c28 => ?_)
                  · have c28 := dT c28
                    refine if_T rfl ?_
                    exact hQ0 (by first | exact fun xs _ => hI.bad hch (not_fig h48 h49) (by first | exact fun z => h46 z.1 | exact fun z => hpt z.2) xs | exact fun xs _ => hL.none1 h1 xs | exact fun xs _ => hL.none2 h2 xs | exact fun xs _ => hL.none3 h3 (by rw [hc0, h6]) xs | exact fun xs _ => hL.none4 h5 (by rw [hc1, h7]) xs | exact hL.none5 (by first | exact good_F1 hi (by assumption) | exact good_F2 hi (by assumption) | exact good_F3 hi (by assumption) (by assumption))) _ s24
                  · have c28 := dF c28
                    refine ⟨_, rfl, _, _, rfl, rfl, _, rfl, ?_⟩
                    refine ite2 (fun c29 => ?_) (fun c29 => ?_)
                    · have c29 := dT c29
                      refine ⟨_, rfl, _, rfl, _, _, rfl, rfl, _, _, _, _, rfl, rfl, SqL.of e26, get_at (by omega) (by omega), _, rfl, _, rfl, _, _, _, _, rfl, rfl, SqL.of e26, get_at (by omega) (by omega), _, _, rfl, rfl, _, _, rfl, rfl, _, rfl, ?_⟩
                      refine ite2 (fun c30 => ?_) (fun c30 => ?_)
                      · have c30 := dT c30
                        exact hQ0 (by first | exact fun xs _ => hI.bad hch (not_fig h48 h49) (by first | exact fun z => h46 z.1 | exact fun z => hpt z.2) xs | exact fun xs _ => hL.none1 h1 xs | exact fun xs _ => hL.none2 h2 xs | exact fun xs _ => hL.none3 h3 (by rw [hc0, h6]) xs | exact fun xs _ => hL.none4 h5 (by rw [hc1, h7]) xs | exact hL.none5 (by first | exact good_F1 hi (by assumption) | exact good_F2 hi (by assumption) | exact good_F3 hi (by assumption) (by assumption))) _ s24
                      · have c30 := dF c30
                        exact ⟨_, _, rfl, rfl, (by first | exact good_T0 hi hJ (by assumption) (by assumption) (by assumption) | exact good_T1 hi hJ (by assumption) (by assumption) (by assumption) (by assumption))⟩
                    · have c29 := dF c29
                      refine if_F rfl ?_
                      exact ⟨_, _, rfl, rfl, (by first | exact good_T0 hi hJ (by assumption) (by assumption) (by assumption) | exact good_T1 hi hJ (by assumption) (by assumption) (by assumption) (by assumption))⟩
              · rintro σ H' ⟨z1, z2, rfl, e1, hJ⟩
                subst e1
                rw [Int.toNat_natCast, List.length_map, List.take_length] at hJ
                refine ⟨_, rfl, ?_⟩
                exact hQ _ _ _ s24 n25 e26 ⟨hJ, hL.done h1 h2 (by first | exact fun z => absurd z h3 | exact fun _ => ne48 hc0 h6) (by first | exact fun z => absurd z h5 | exact fun _ => ne48 hc1 h7)⟩
        · have h3 := dF c9
          refine if_F rfl ?_
          refine ⟨_, rfl, _, rfl, _, rfl, (by rw [str_len, PySem.sizeLine_eq]; omega), _, _, rfl, rfl, _, rfl, ?_⟩
          refine ite2 (fun c31 => ?_) (fun c31 => ?_)
          · have h5 : pt < (l.length : Int) := dT c31
            refine ⟨_, rfl, _, rfl, ?_⟩
            obtain ⟨c1, hc1⟩ : ∃ c, l[l.length - 1]? = some c := ⟨_, List.getElem?_eq_getElem (by omega)⟩
            refine ⟨_, _, _, rfl, rfl, (by rw [str_len, PySem.sizeLine_eq]; omega), (sat_last hc1), rfl, _, rfl, ?_⟩
            refine ite2 (fun c32 => ?_) (fun c32 => ?_)
            · have h7 := chT c32 str_0
              exact hQ0 (by first | exact fun xs _ => hI.bad hch (not_fig h48 h49) (by first | exact fun z => h46 z.1 | exact fun z => hpt z.2) xs | exact fun xs _ => hL.none1 h1 xs | exact fun xs _ => hL.none2 h2 xs | exact fun xs _ => hL.none3 h3 (by rw [hc0, h6]) xs | exact fun xs _ => hL.none4 h5 (by rw [hc1, h7]) xs | exact hL.none5 (by first | exact good_F1 hi (by assumption) | exact good_F2 hi (by assumption) | exact good_F3 hi (by assumption) (by assumption))) _ (Same.refl _)
            · have h7 := chF c32 str_0
              refine ⟨_, rfl, _, rfl, _, rfl, _, rfl, (by rw [str_len, PySem.sizeLine_eq]; omega), _, rfl, _, rfl, _, _, rfl, rfl, _, rfl, _, rfl, (by rw [str_len, PySem.sizeLine_eq]; omega), _, _, rfl, rfl, (cat_few hl), ?_⟩
              rw [cut_to hle.1 hle.2, cut_from (by omega), str_cat, hL.marks]
              have hml := cut_len hL.cut
              refine ⟨(fun j => ((⟨#[(pa ++ pb).getD j.toNat 0]⟩ : Str) == Str.ofString "1")), (fun j => pt - 1 - j), _, rfl, _, rfl, (by rw [str_len, List.length_append, PySem.sizeLine_eq]; omega), _, rfl, (by omega), (by rw [str_len, List.length_append]; omega), (by unfold upto; rw [List.length_map, List.length_range, Int.toNat_natCast, str_len, List.length_append, PySem.sizeLine_eq]; omega), fun pins s₁ I j hj => ⟨(qts_one (qt_eqS (qv_ixS (by rw [str_len, List.length_append, PySem.sizeLine_eq]; omega) (mat hj) (qv_cap (i := 3) I rfl rfl rfl rfl (fun _ => rfl) rfl rfl) (qv_item rfl rfl) (fun _ _ => rfl)) qv_str)), fun hp => (qv_sub (qv_sub (qv_cap (i := 1) I rfl rfl rfl rfl (fun _ => rfl) rfl rfl) qv_int) (qv_item rfl rfl))⟩, fun p33 H34 s35 n36 e37 => ?_⟩
              rw [upto_places hL] at e37
              refine ⟨_, rfl, _, _, rfl, .inl (SqL.of e37), _, rfl, (by omega), (by rw [List.length_map]; have := places_few hL.cut hl; omega), for_range (fun i σ H' => ∃ z1 z2, σ = [some (.str (strOf l)), some (.int pt), z1, z2, some (.ref p33)] ∧ H' = H34 ∧ IsRow ((placesL pa pb).take i)) ?_ ?_ ?_⟩
              · exact ⟨_, _, rfl, rfl, isRow_start⟩
              · rintro i σ H' hi ⟨z1, z2, rfl, e1, hJ⟩
                subst e1
                rw [Int.toNat_natCast, List.length_map] at hi
                refine ⟨_, rfl, _, rfl, _, _, _, _, rfl, rfl, SqL.of e37, get_at (by omega) (by omega), _, _, rfl, rfl, _, rfl, ?_⟩
                refine ite2 (fun c38 => ?_) (fun c38 => ?_)
                · have c38 := dT c38
                  refine if_T rfl ?_
                  exact hQ0 (by first | exact fun xs _ => hI.bad hch (not_fig h48 h49) (by first | exact fun z => h46 z.1 | exact fun z => hpt z.2) xs | exact fun xs _ => hL.none1 h1 xs | exact fun xs _ => hL.none2 h2 xs | exact fun xs _ => hL.none3 h3 (by rw [hc0, h6]) xs | exact fun xs _ => hL.none4 h5 (by rw [hc1, h7]) xs | exact hL.none5 (by first | exact good_F1 hi (by assumption) | exact good_F2 hi (by assumption) | exact good_F3 hi (by assumption) (by assumption))) _ s35
                · have c38 := dF c38
                  refine ⟨_, rfl, _, rfl, _, _, _, _, rfl, rfl, SqL.of e37, get_at (by omega) (by omega), _, rfl, _, _, rfl, rfl, _, rfl, ?_⟩
                  refine ite2 (fun c39 => ?_) (fun c39 => ?_)
                  · have c39 := dT c39
                    refine if_T rfl ?_
                    exact hQ0 (by first | exact fun xs _ => hI.bad hch (not_fig h48 h49) (by first | exact fun z => h46 z.1 | exact fun z => hpt z.2) xs | exact fun xs _ => hL.none1 h1 xs | exact fun xs _ => hL.none2 h2 xs | exact fun xs _ => hL.none3 h3 (by rw [hc0, h6]) xs | exact fun xs _ => hL.none4 h5 (by rw [hc1, h7]) xs | exact hL.none5 (by first | exact good_F1 hi (by assumption) | exact good_F2 hi (by assumption) | exact good_F3 hi (by assumption) (by assumption))) _ s35
                  · have c39 := dF c39
                    refine ⟨_, rfl, _, _, rfl, rfl, _, rfl, ?_⟩
                    refine ite2 (fun c40 => ?_) (fun c40 => ?_)
                    · have c40 := dT c40
                      refine ⟨_, rfl, _, rfl, _, _, rfl, rfl, _, _, _, _, rfl, rfl, SqL.of e37, get_at (by omega) (by omega), _, rfl, _, rfl, _, _, _, _, rfl, rfl, SqL.of e37, get_at (by omega) (by omega), _, _, rfl, rfl, _, _, rfl, rfl, _, rfl, ?_⟩
                      refine ite2 (fun c41 => ?_) (fun c41 => ?_)
                      · have c41 := dT c41
                        exact hQ0 (by first | exact fun xs _ => hI.bad hch (not_fig h48 h49) (by first | exact fun z => h46 z.1 | exact fun z => hpt z.2) xs | exact fun xs _ => hL.none1 h1 xs | exact fun xs _ => hL.none2 h2 xs | exact fun xs _ => hL.none3 h3 (by rw [hc0, h6]) xs | exact fun xs _ => hL.none4 h5 (by rw [hc1, h7]) xs | exact hL.none5 (by first | exact good_F1 hi (by assumption) | exact good_F2 hi (by assumption) | exact good_F3 hi (by assumption) (by assumption))) _ s35
                      · have c41 := dF c41
                        exact ⟨_, _, rfl, rfl, (by first | exact good_T0 hi hJ (by assumption) (by assumption) (by assumption) | exact good_T1 hi hJ (by assumption) (by assumption) (by assumption) (by assumption))⟩
                    · have c40 := dF c40
                      refine if_F rfl ?_
                      exact ⟨_, _, rfl, rfl, (by first | exact good_T0 hi hJ (by assumption) (by assumption) (by assumption) | exact good_T1 hi hJ (by assumption) (by assumption) (by assumption) (by assumption))⟩
              · rintro σ H' ⟨z1, z2, rfl, e1, hJ⟩
                subst e1
                rw [Int.toNat_natCast, List.length_map, List.take_length] at hJ
                refine ⟨_, rfl, ?_⟩
                exact hQ _ _ _ s35 n36 e37 ⟨hJ, hL.done h1 h2 (by first | exact fun z => absurd z h3 | exact fun _ => ne48 hc0 h6) (by first | exact fun z => absurd z h5 | exact fun _ => ne48 hc1 h7)⟩
          · have h5 : ¬ pt < (l.length : Int) := dF c31
            refine if_F rfl ?_
            refine ⟨_, rfl, _, rfl, _, rfl, _, rfl, (by rw [str_len, PySem.sizeLine_eq]; omega), _, rfl, _, rfl, _, _, rfl, rfl, _, rfl, _, rfl, (by rw [str_len, PySem.sizeLine_eq]; omega), _, _, rfl, rfl, (cat_few hl), ?_⟩
            rw [cut_to hle.1 hle.2, cut_from (by omega), str_cat, hL.marks]
            have hml := cut_len hL.cut
            refine ⟨(fun j => ((⟨#[(pa ++ pb).getD j.toNat 0]⟩ : Str) == Str.ofString "1")), (fun j => pt - 1 - j), _, rfl, _, rfl, (by rw [str_len, List.length_append, PySem.sizeLine_eq]; omega), _, rfl, (by omega), (by rw [str_len, List.length_append]; omega), (by unfold upto; rw [List.length_map, List.length_range, Int.toNat_natCast, str_len, List.length_append, PySem.sizeLine_eq]; omega), fun pins s₁ I j hj => ⟨(qts_one (qt_eqS (qv_ixS (by rw [str_len, List.length_append, PySem.sizeLine_eq]; omega) (mat hj) (qv_cap (i := 3) I rfl rfl rfl rfl (fun _ => rfl) rfl rfl) (qv_item rfl rfl) (fun _ _ => rfl)) qv_str)), fun hp => (qv_sub (qv_sub (qv_cap (i := 1) I rfl rfl rfl rfl (fun _ => rfl) rfl rfl) qv_int) (qv_item rfl rfl))⟩, fun p42 H43 s44 n45 e46 => ?_⟩
            rw [upto_places hL] at e46
            refine ⟨_, rfl, _, _, rfl, .inl (SqL.of e46), _, rfl, (by omega), (by rw [List.length_map]; have := places_few hL.cut hl; omega), for_range (fun i σ H' => ∃ z1 z2, σ = [some (.str (strOf l)), some (.int pt), z1, z2, some (.ref p42)] ∧ H' = H43 ∧ IsRow ((placesL pa pb).take i)) ?_ ?_ ?_⟩
            · exact ⟨_, _, rfl, rfl, isRow_start⟩
            · rintro i σ H' hi ⟨z1, z2, rfl, e1, hJ⟩
              subst e1
              rw [Int.toNat_natCast, List.length_map] at hi
              refine ⟨_, rfl, _, rfl, _, _, _, _, rfl, rfl, SqL.of e46, get_at (by omega) (by omega), _, _, rfl, rfl, _, rfl, ?_⟩
              refine ite2 (fun c47 => ?_) (fun c47 => ?_)
              · have c47 := dT c47
                refine if_T rfl ?_
                exact hQ0 (by first | exact fun xs _ => hI.bad hch (not_fig h48 h49) (by first | exact fun z => h46 z.1 | exact fun z => hpt z.2) xs | exact fun xs _ => hL.none1 h1 xs | exact fun xs _ => hL.none2 h2 xs | exact fun xs _ => hL.none3 h3 (by rw [hc0, h6]) xs | exact fun xs _ => hL.none4 h5 (by rw [hc1, h7]) xs | exact hL.none5 (by first | exact good_F1 hi (by assumption) | exact good_F2 hi (by assumption) | exact good_F3 hi (by assumption) (by assumption))) _ s44
              · have c47 := dF c47
                refine ⟨_, rfl, _, rfl, _, _, _, _, rfl, rfl, SqL.of e46, get_at (by omega) (by omega), _, rfl, _, _, rfl, rfl, _, rfl, ?_⟩
                refine ite2 (fun c48 => ?_) (fun c48 => ?_)
                · have c48 := dT c48
                  refine if_T rfl ?_
                  exact hQ0 (by first | exact fun xs _ => hI.bad hch (not_fig h48 h49) (by first | exact fun z => h46 z.1 | exact fun z => hpt z.2) xs | exact fun xs _ => hL.none1 h1 xs | exact fun xs _ => hL.none2 h2 xs | exact fun xs _ => hL.none3 h3 (by rw [hc0, h6]) xs | exact fun xs _ => hL.none4 h5 (by rw [hc1, h7]) xs | exact hL.none5 (by first | exact good_F1 hi (by assumption) | exact good_F2 hi (by assumption) | exact good_F3 hi (by assumption) (by assumption))) _ s44
                · have c48 := dF c48
                  refine ⟨_, rfl, _, _, rfl, rfl, _, rfl, ?_⟩
                  refine ite2 (fun c49 => ?_) (fun c49 => ?_)
                  · have c49 := dT c49
                    refine ⟨_, rfl, _, rfl, _, _, rfl, rfl, _, _, _, _, rfl, rfl, SqL.of e46, get_at (by omega) (by omega), _, rfl, _, rfl, _, _, _, _, rfl, rfl, SqL.of e46, get_at (by omega) (by omega), _, _, rfl, rfl, _, _, rfl, rfl, _, rfl, ?_⟩
                    refine ite2 (fun c50 => ?_) (fun c50 => ?_)
                    · have c50 := dT c50
                      exact hQ0 (by first | exact fun xs _ => hI.bad hch (not_fig h48 h49) (by first | exact fun z => h46 z.1 | exact fun z => hpt z.2) xs | exact fun xs _ => hL.none1 h1 xs | exact fun xs _ => hL.none2 h2 xs | exact fun xs _ => hL.none3 h3 (by rw [hc0, h6]) xs | exact fun xs _ => hL.none4 h5 (by rw [hc1, h7]) xs | exact hL.none5 (by first | exact good_F1 hi (by assumption) | exact good_F2 hi (by assumption) | exact good_F3 hi (by assumption) (by assumption))) _ s44
                    · have c50 := dF c50
                      exact ⟨_, _, rfl, rfl, (by first | exact good_T0 hi hJ (by assumption) (by assumption) (by assumption) | exact good_T1 hi hJ (by assumption) (by assumption) (by assumption) (by assumption))⟩
                  · have c49 := dF c49
                    refine if_F rfl ?_
                    exact ⟨_, _, rfl, rfl, (by first | exact good_T0 hi hJ (by assumption) (by assumption) (by assumption) | exact good_T1 hi hJ (by assumption) (by assumption) (by assumption) (by assumption))⟩
            · rintro σ H' ⟨z1, z2, rfl, e1, hJ⟩
              subst e1
              rw [Int.toNat_natCast, List.length_map, List.take_length] at hJ
              refine ⟨_, rfl, ?_⟩
              exact hQ _ _ _ s44 n45 e46 ⟨hJ, hL.done h1 h2 (by first | exact fun z => absurd z h3 | exact fun _ => ne48 hc0 h6) (by first | exact fun z => absurd z h5 | exact fun _ => ne48 hc1 h7)⟩

theorem ok_law_told {P : Program} {w : World} {K : PySem.W.Frag} {mg : Str → Option Value} {base : Heap} {c_GoldError c_NoNumber c_NoRow c_NoNote : Addr} (EC : Errs K mg c_GoldError c_NoNumber c_NoRow c_NoNote) (F : Has K mg "_law_told" s_law_told ["text"]) (b_int : mg "int" = none) (b_isinstance : mg "isinstance" = none) (b_ValueError : mg "ValueError" = none) (o_read : OkE P w K mg base 3 "read" ["text"] (spRead c_NoNote)) :
    OkF P w K mg base 4 "_law_told" ["text"] (spTold17) := by
  refine F.ok sc_law_told (fun vs H Q E h => ?_) (fun f cdv A outer s H vs Q E hr h => ?_)
  · obtain ⟨t, rfl, hl, hD⟩ := h
    rfl
  obtain ⟨t, rfl, hl, hD⟩ := h
  obtain ⟨f_read, fd_read, F_read, m_read, k_read, B_read⟩ := o_read.ex
  refine ⟨_, (pss_one (ps_tryR (i := 1) F_read (hr.mono (by decide)) m_read k_read B_read (pa_cons (pv 0) pa_nil) EC.GoldError.bound sc_law_told.nd rfl rfl (EC.NoNote.exm EC.GoldError EC.s_NoNote_GoldError) (fun x oe vs hcl hdt => (pss_cons (ps_if (PW.pt (pw_or (pt_val (pe_callB (call_isinstE (x := x) (oe := oe) (List.mem_cons_self ..) hcl hdt EC.NoNote.look) rfl b_isinstance PyProof.Rows.boot_isinstance (pa_cons (pv 1) (pa_cons (pe_glob (v := .ref c_NoRow) rfl EC.NoRow.bound rfl) pa_nil)))) (pw_or (pt_val (pe_callB (call_isinstE (x := x) (oe := oe) (List.mem_cons_self ..) hcl hdt EC.NoNote.look) rfl b_isinstance PyProof.Rows.boot_isinstance (pa_cons (pv 1) (pa_cons (pe_glob (v := .ref c_NoNumber) rfl EC.NoNumber.bound rfl) pa_nil)))) (pw_or1 (pt_not (pt_val (pe_callB (call_isinstE (x := x) (oe := oe) (List.mem_cons_self ..) hcl hdt EC.NoNote.look) rfl b_isinstance PyProof.Rows.boot_isinstance (pa_cons (pv 1) (pa_cons (pe_bltn (v := .ty "ValueError") rfl b_ValueError boot_ValueError rfl) pa_nil))))))))) (pss_one (ps_ret pe_int)) pss_nil)
    (pss_one (ps_ret (pe_callTy call_int1 rfl b_int boot_int (pa_cons (pe_not (pe_callB (call_isinstE (x := x) (oe := oe) (List.mem_cons_self ..) hcl hdt EC.NoNote.look) rfl b_isinstance PyProof.Rows.boot_isinstance (pa_cons (pv 1) (pa_cons (pe_glob (v := .ref c_NoNote) rfl EC.NoNote.bound rfl) pa_nil)))) pa_nil)))))))), ?_⟩
  rcases hD with hA | ⟨hno, hQ0⟩
  · exact ⟨_, rfl, _, rfl, hl, .inl hA⟩
  refine ⟨_, rfl, ⟨_, rfl, hl, .inr ⟨hno, fun H' s' => ⟨rfl, fun x => ?_⟩⟩⟩⟩
  refine ⟨_, rfl, _, _, _, rfl, rfl, EC.NoNote.kit EC.NoRow EC.s_NoNote_NoRow, _, rfl, ?_⟩
  refine if_F rfl ?_
  refine ⟨_, rfl, _, _, _, rfl, rfl, EC.NoNote.kit EC.NoNumber EC.s_NoNote_NoNumber, _, rfl, ?_⟩
  refine if_F rfl ?_
  refine ⟨_, rfl, _, _, _, rfl, rfl, EC.NoNote.kitV, _, rfl, ?_⟩
  refine if_F rfl ?_
  refine ⟨_, rfl, _, _, _, rfl, rfl, EC.NoNote.kit EC.NoNote EC.s_NoNote_NoNote, _, rfl, .inr ⟨_, rfl, ?_⟩⟩
  exact hQ0 _ s'

theorem ok_law {P : Program} {w : World} {K : PySem.W.Frag} {mg : Str → Option Value} {base : Heap} {c_GoldError c_NoNumber c_NoRow c_NoNote : Addr} (EC : Errs K mg c_GoldError c_NoNumber c_NoRow c_NoNote) {f : Addr} {fd : FuncData} (F : Fun K "law" "law" s_law f fd) (b_len : mg "len" = none) (b_isinstance : mg "isinstance" = none) (b_int : mg "int" = none) (b_list : mg "list" = none) (b_bool : mg "bool" = none) (o_law_text : OkF P w K mg base 2 "_law_text" ["script"] (spText17 K)) (o_law_places : OkF P w K mg base 1 "_law_places" ["text"] (spPlaced)) (o_law_told : OkF P w K mg base 4 "_law_told" ["text"] (spTold17)) :
    FnOk P w K mg base CX0 5 f fd ["script"] (spLaw K) := by
  refine F.ok sc_law (fun vs H Q E h => ?_) (fun cdv A outer s H vs Q E hr h => ?_)
  · obtain ⟨a, ns, rfl, hS, hl, hQ⟩ := h
    rfl
  obtain ⟨a, ns, rfl, hS, hl, hQ⟩ := h
  refine ⟨_, (pss_cons (ps_set (i := 1) sc_law.nd rfl (Or.inl rfl) (pe_callO o_law_text hr (pa_cons (pv 0) pa_nil)))
    (pss_cons (ps_set (i := 2) sc_law.nd rfl (Or.inl rfl) (pe_callO o_law_places hr (pa_cons (pv 1) pa_nil)))
    (pss_cons (ps_set (i := 3) sc_law.nd rfl (Or.inl rfl) (pe_callO o_law_told hr (pa_cons (pv 1) pa_nil)))
    (pss_cons (ps_if (pt_cmpR op_isN (pv 2) pe_non (nomark _)) (pss_one (ps_ret (pe_and (pe_callB call_isinst rfl b_isinstance PyProof.Rows.boot_isinstance (pa_cons (pv 3) (pa_cons (pe_bltn (v := .ty "int") rfl b_int boot_int rfl) pa_nil))) (pe_one (pe_cmpR op_eq (pv 3) pe_int (nomark _)))))) pss_nil)
    (pss_cons (ps_if (PW.pt (pw_or (pt_not (pt_val (pe_callB call_isinst rfl b_isinstance PyProof.Rows.boot_isinstance (pa_cons (pv 3) (pa_cons (pe_bltn (v := .ty "list") rfl b_list boot_list rfl) pa_nil))))) (pw_or1 (pt_cmpR (op_neL hr.units0) (pv 3) (pv 2) (nomark _))))) (pss_one (ps_ret pe_bl)) pss_nil)
    (pss_one (ps_ret (pe_cmpR op_eq (pe_callB call_len_seq rfl b_len PySem.boot_len (pa_cons (pe_comp (cl := []) (px_list (pv 3) rfl) rfl (by decide) rfl (by decide) rfl) pa_nil)) pe_int (nomark _))))))))), ?_⟩
  refine ⟨_, rfl, _, _, rfl, hS, fun l1 hl2 => ?_⟩
  · refine ⟨_, rfl, _, rfl, hl2, ⟨fun r3 H4 xs5 s6 n7 e8 pr9 => ?_, fun hno10 H11 s12 => ?_⟩⟩
    · refine ⟨_, rfl, _, rfl, (by rw [str_len]; exact hl2), (.inl ⟨_, pr9.1, (by rw [← pr9.2]; rfl), fun r13 H14 s15 n16 e17 => ?_⟩)⟩
      · refine ⟨_, rfl, rfl, _, rfl, ?_⟩
        refine if_F rfl ?_
        refine ⟨_, rfl, _, _, _, _, rfl, .lst e17, kit_ll, _, rfl, ?_⟩
        refine if_F rfl ?_
        have f18 := s15 _ _ e8
        refine ⟨_, rfl, _, rfl, _, _, _, _, rfl, rfl, SqL.of e17, SqL.of f18, _, rfl, ?_⟩
        refine if_F (neT rfl) ?_
        refine ⟨(fun _ => false), (fun j => j), _, rfl, _, _, rfl, SqL.of e17, (by have := isRow_few pr9.1; rw [PySem.sizeLine_eq]; omega), fun pins s₁ I j hj => ⟨(qt_noBool I rfl (fun _ => rfl) (fun _ => rfl) b_isinstance b_bool rfl), fun hp => (qv_item rfl rfl)⟩, fun p19 H20 s21 n22 e23 => ?_⟩
        rw [no_bools] at e23
        refine ⟨_, _, rfl, .inl (SqL.of e23), rfl, ?_⟩
        exact bl_T (eqI rfl) (hQ _)
    · refine ⟨_, rfl, _, rfl, (by rw [str_len]; exact hl2), (.inr ⟨fun xs hx z => hno10 xs hx (strOf_inj z), fun H24 s25 => ?_⟩)⟩
      · refine ⟨_, rfl, rfl, _, rfl, ?_⟩
        refine if_T rfl ?_
        refine ⟨_, rfl, _, _, _, _, rfl, .int _, kit_ii, _, rfl, ?_⟩
        refine if_T rfl ?_
        refine ⟨_, rfl, rfl, ?_⟩
        exact bl_T (rfl) (hQ _)
theorem all_mk {l : PySem.W.OpenLaw} {w : World} {K : PySem.W.Frag} {h : Heap} {mg : Str → Option Value} {fa f1 f2 f3 f4 f5 f6 f7 f8 f9 f10 f11 : Addr} (X : K.In h) (G : h.Ns mainGlobals mg) (hfa : mg "law" = some (.ref fa))
    {od1 an1 od2 an2 od3 an3 od4 an4 od5 an5 od6 an6 od7 an7 od8 an8 od9 an9 od10 an10 od11 an11 : Option Addr} {sl1 sl2 sl3 sl4 sl5 sl6 sl7 sl8 sl9 sl10 sl11 : Array (Option Value)} {oc1 kV1 dc1 pm1 cd1 ct1 oc2 kV2 dc2 pm2 cd2 ct2 oc3 kV3 dc3 pm3 cd3 ct3 oc4 kV4 dc4 pm4 cd4 ct4 oc5 kV5 dc5 pm5 cd5 ct5 oc6 kV6 dc6 pm6 cd6 ct6 oc7 kV7 dc7 pm7 cd7 ct7 oc8 kV8 dc8 pm8 cd8 ct8 oc9 kV9 dc9 pm9 cd9 ct9 oc10 kV10 dc10 pm10 cd10 ct10 oc11 kV11 dc11 pm11 cd11 ct11 : Value} {c_GoldError : Addr} {cd_GoldError : ClassData} {c_NoNumber : Addr} {cd_NoNumber : ClassData} {c_NoRow : Addr} {cd_NoRow : ClassData} {c_NoNote : Addr} {cd_NoNote : ClassData}
    (a1 : PySem.W.nsIn K mainGlobals "is_row" = some (some (.ref f1))) (l1 : K.lookup f1 = some ⟨oc1, od1, .func (PySem.W.fnOf "is_row" "is_row" (defArgs s_is_row) (defBody s_is_row) (defScope s_is_row) .none kV1 dc1 pm1 an1 cd1 ct1), sl1⟩) (c1 : PySem.W.codeIn K cd1 "is_row" = true) (k1 : PySem.W.keepIn K (.ref f1) = true)
    (a2 : PySem.W.nsIn K mainGlobals "shown" = some (some (.ref f2))) (l2 : K.lookup f2 = some ⟨oc2, od2, .func (PySem.W.fnOf "shown" "shown" (defArgs s_shown) (defBody s_shown) (defScope s_shown) .none kV2 dc2 pm2 an2 cd2 ct2), sl2⟩) (c2 : PySem.W.codeIn K cd2 "shown" = true) (k2 : PySem.W.keepIn K (.ref f2) = true)
    (a3 : PySem.W.nsIn K mainGlobals "read" = some (some (.ref f3))) (l3 : K.lookup f3 = some ⟨oc3, od3, .func (PySem.W.fnOf "read" "read" (defArgs s_read) (defBody s_read) (defScope s_read) .none kV3 dc3 pm3 an3 cd3 ct3), sl3⟩) (c3 : PySem.W.codeIn K cd3 "read" = true) (k3 : PySem.W.keepIn K (.ref f3) = true)
    (a4 : PySem.W.nsIn K mainGlobals "figures" = some (some (.ref f4))) (l4 : K.lookup f4 = some ⟨oc4, od4, .func (PySem.W.fnOf "figures" "figures" (defArgs s_figures) (defBody s_figures) (defScope s_figures) .none kV4 dc4 pm4 an4 cd4 ct4), sl4⟩) (c4 : PySem.W.codeIn K cd4 "figures" = true) (k4 : PySem.W.keepIn K (.ref f4) = true)
    (a5 : PySem.W.nsIn K mainGlobals "places_told" = some (some (.ref f5))) (l5 : K.lookup f5 = some ⟨oc5, od5, .func (PySem.W.fnOf "places_told" "places_told" (defArgs s_places_told) (defBody s_places_told) (defScope s_places_told) .none kV5 dc5 pm5 an5 cd5 ct5), sl5⟩) (c5 : PySem.W.codeIn K cd5 "places_told" = true) (k5 : PySem.W.keepIn K (.ref f5) = true)
    (a6 : PySem.W.nsIn K mainGlobals "_law_cell_at" = some (some (.ref f6))) (l6 : K.lookup f6 = some ⟨oc6, od6, .func (PySem.W.fnOf "_law_cell_at" "_law_cell_at" (defArgs s_law_cell_at) (defBody s_law_cell_at) (defScope s_law_cell_at) .none kV6 dc6 pm6 an6 cd6 ct6), sl6⟩) (c6 : PySem.W.codeIn K cd6 "_law_cell_at" = true) (k6 : PySem.W.keepIn K (.ref f6) = true)
    (a7 : PySem.W.nsIn K mainGlobals "_law_figures" = some (some (.ref f7))) (l7 : K.lookup f7 = some ⟨oc7, od7, .func (PySem.W.fnOf "_law_figures" "_law_figures" (defArgs s_law_figures) (defBody s_law_figures) (defScope s_law_figures) .none kV7 dc7 pm7 an7 cd7 ct7), sl7⟩) (c7 : PySem.W.codeIn K cd7 "_law_figures" = true) (k7 : PySem.W.keepIn K (.ref f7) = true)
    (a8 : PySem.W.nsIn K mainGlobals "_law_text" = some (some (.ref f8))) (l8 : K.lookup f8 = some ⟨oc8, od8, .func (PySem.W.fnOf "_law_text" "_law_text" (defArgs s_law_text) (defBody s_law_text) (defScope s_law_text) .none kV8 dc8 pm8 an8 cd8 ct8), sl8⟩) (c8 : PySem.W.codeIn K cd8 "_law_text" = true) (k8 : PySem.W.keepIn K (.ref f8) = true)
    (a9 : PySem.W.nsIn K mainGlobals "_law_places" = some (some (.ref f9))) (l9 : K.lookup f9 = some ⟨oc9, od9, .func (PySem.W.fnOf "_law_places" "_law_places" (defArgs s_law_places) (defBody s_law_places) (defScope s_law_places) .none kV9 dc9 pm9 an9 cd9 ct9), sl9⟩) (c9 : PySem.W.codeIn K cd9 "_law_places" = true) (k9 : PySem.W.keepIn K (.ref f9) = true)
    (a10 : PySem.W.nsIn K mainGlobals "_law_told" = some (some (.ref f10))) (l10 : K.lookup f10 = some ⟨oc10, od10, .func (PySem.W.fnOf "_law_told" "_law_told" (defArgs s_law_told) (defBody s_law_told) (defScope s_law_told) .none kV10 dc10 pm10 an10 cd10 ct10), sl10⟩) (c10 : PySem.W.codeIn K cd10 "_law_told" = true) (k10 : PySem.W.keepIn K (.ref f10) = true)
    (a11 : PySem.W.nsIn K mainGlobals "law" = some (some (.ref f11))) (l11 : K.lookup f11 = some ⟨oc11, od11, .func (PySem.W.fnOf "law" "law" (defArgs s_law) (defBody s_law) (defScope s_law) .none kV11 dc11 pm11 an11 cd11 ct11), sl11⟩) (c11 : PySem.W.codeIn K cd11 "law" = true) (k11 : PySem.W.keepIn K (.ref f11) = true)
    (an_GoldError : PySem.W.nsIn K mainGlobals "GoldError" = some (some (.ref c_GoldError)))
    (cl_GoldError : PySem.W.clsIn K c_GoldError = some cd_GoldError)
    (ty_GoldError : PySem.W.typeIn K (.ref c_GoldError) = some (.type "type"))
    (be_GoldError : PySem.W.subIn K (.ref c_GoldError) (.type "BaseException") = some true)
    (va_GoldError : PySem.W.subIn K (.ref c_GoldError) (.type "ValueError") = some true)
    (se_GoldError : PySem.W.subIn K (.ref c_GoldError) (.ref c_GoldError) = some true)
    (ex_GoldError : PySem.W.excIn K c_GoldError bmVal "ValueError.__new__" = true)
    (ga_GoldError : PySem.W.findIn K (.ref c_GoldError) "__getattribute__" = some (some (.builtin "BaseException.__getattribute__")))
    (gt_GoldError : PySem.W.findIn K (.ref c_GoldError) "__getattr__" = some none)
    (cc_GoldError : PySem.W.findIn K (.ref c_GoldError) "__class__" = some (some (.builtin "object.__class__")))
    (ob_GoldError : PySem.W.mroIn K c_GoldError (.type "object") = some true)
    (bb_GoldError : PySem.W.mroIn K c_GoldError (.type "BaseException") = some true)
    (an_NoNumber : PySem.W.nsIn K mainGlobals "NoNumber" = some (some (.ref c_NoNumber)))
    (cl_NoNumber : PySem.W.clsIn K c_NoNumber = some cd_NoNumber)
    (ty_NoNumber : PySem.W.typeIn K (.ref c_NoNumber) = some (.type "type"))
    (be_NoNumber : PySem.W.subIn K (.ref c_NoNumber) (.type "BaseException") = some true)
    (va_NoNumber : PySem.W.subIn K (.ref c_NoNumber) (.type "ValueError") = some true)
    (se_NoNumber : PySem.W.subIn K (.ref c_NoNumber) (.ref c_NoNumber) = some true)
    (ex_NoNumber : PySem.W.excIn K c_NoNumber bmVal "ValueError.__new__" = true)
    (ga_NoNumber : PySem.W.findIn K (.ref c_NoNumber) "__getattribute__" = some (some (.builtin "BaseException.__getattribute__")))
    (gt_NoNumber : PySem.W.findIn K (.ref c_NoNumber) "__getattr__" = some none)
    (cc_NoNumber : PySem.W.findIn K (.ref c_NoNumber) "__class__" = some (some (.builtin "object.__class__")))
    (ob_NoNumber : PySem.W.mroIn K c_NoNumber (.type "object") = some true)
    (bb_NoNumber : PySem.W.mroIn K c_NoNumber (.type "BaseException") = some true)
    (an_NoRow : PySem.W.nsIn K mainGlobals "NoRow" = some (some (.ref c_NoRow)))
    (cl_NoRow : PySem.W.clsIn K c_NoRow = some cd_NoRow)
    (ty_NoRow : PySem.W.typeIn K (.ref c_NoRow) = some (.type "type"))
    (be_NoRow : PySem.W.subIn K (.ref c_NoRow) (.type "BaseException") = some true)
    (va_NoRow : PySem.W.subIn K (.ref c_NoRow) (.type "ValueError") = some true)
    (se_NoRow : PySem.W.subIn K (.ref c_NoRow) (.ref c_NoRow) = some true)
    (ex_NoRow : PySem.W.excIn K c_NoRow bmVal "ValueError.__new__" = true)
    (ga_NoRow : PySem.W.findIn K (.ref c_NoRow) "__getattribute__" = some (some (.builtin "BaseException.__getattribute__")))
    (gt_NoRow : PySem.W.findIn K (.ref c_NoRow) "__getattr__" = some none)
    (cc_NoRow : PySem.W.findIn K (.ref c_NoRow) "__class__" = some (some (.builtin "object.__class__")))
    (ob_NoRow : PySem.W.mroIn K c_NoRow (.type "object") = some true)
    (bb_NoRow : PySem.W.mroIn K c_NoRow (.type "BaseException") = some true)
    (an_NoNote : PySem.W.nsIn K mainGlobals "NoNote" = some (some (.ref c_NoNote)))
    (cl_NoNote : PySem.W.clsIn K c_NoNote = some cd_NoNote)
    (ty_NoNote : PySem.W.typeIn K (.ref c_NoNote) = some (.type "type"))
    (be_NoNote : PySem.W.subIn K (.ref c_NoNote) (.type "BaseException") = some true)
    (va_NoNote : PySem.W.subIn K (.ref c_NoNote) (.type "ValueError") = some true)
    (se_NoNote : PySem.W.subIn K (.ref c_NoNote) (.ref c_NoNote) = some true)
    (ex_NoNote : PySem.W.excIn K c_NoNote bmVal "ValueError.__new__" = true)
    (ga_NoNote : PySem.W.findIn K (.ref c_NoNote) "__getattribute__" = some (some (.builtin "BaseException.__getattribute__")))
    (gt_NoNote : PySem.W.findIn K (.ref c_NoNote) "__getattr__" = some none)
    (cc_NoNote : PySem.W.findIn K (.ref c_NoNote) "__class__" = some (some (.builtin "object.__class__")))
    (ob_NoNote : PySem.W.mroIn K c_NoNote (.type "object") = some true)
    (bb_NoNote : PySem.W.mroIn K c_NoNote (.type "BaseException") = some true)
    (s_GoldError_GoldError : PySem.W.subIn K (.ref c_GoldError) (.ref c_GoldError) = some true)
    (s_GoldError_NoNumber : PySem.W.subIn K (.ref c_GoldError) (.ref c_NoNumber) = some false)
    (s_GoldError_NoRow : PySem.W.subIn K (.ref c_GoldError) (.ref c_NoRow) = some false)
    (s_GoldError_NoNote : PySem.W.subIn K (.ref c_GoldError) (.ref c_NoNote) = some false)
    (s_NoNumber_GoldError : PySem.W.subIn K (.ref c_NoNumber) (.ref c_GoldError) = some true)
    (s_NoNumber_NoNumber : PySem.W.subIn K (.ref c_NoNumber) (.ref c_NoNumber) = some true)
    (s_NoNumber_NoRow : PySem.W.subIn K (.ref c_NoNumber) (.ref c_NoRow) = some false)
    (s_NoNumber_NoNote : PySem.W.subIn K (.ref c_NoNumber) (.ref c_NoNote) = some false)
    (s_NoRow_GoldError : PySem.W.subIn K (.ref c_NoRow) (.ref c_GoldError) = some true)
    (s_NoRow_NoNumber : PySem.W.subIn K (.ref c_NoRow) (.ref c_NoNumber) = some false)
    (s_NoRow_NoRow : PySem.W.subIn K (.ref c_NoRow) (.ref c_NoRow) = some true)
    (s_NoRow_NoNote : PySem.W.subIn K (.ref c_NoRow) (.ref c_NoNote) = some false)
    (s_NoNote_GoldError : PySem.W.subIn K (.ref c_NoNote) (.ref c_GoldError) = some true)
    (s_NoNote_NoNumber : PySem.W.subIn K (.ref c_NoNote) (.ref c_NoNumber) = some false)
    (s_NoNote_NoRow : PySem.W.subIn K (.ref c_NoNote) (.ref c_NoRow) = some false)
    (s_NoNote_NoNote : PySem.W.subIn K (.ref c_NoNote) (.ref c_NoNote) = some true)
    (gs_ : PySem.W.specialIn K (.builtin "object.__class__") "__get__" = some (some (.builtin "getset_descriptor.__get__"))) (tk_ : PySem.W.takesIn K (.builtin "object.__class__") = some true)
    (z_zip : PySem.W.nsIn K mainGlobals "zip" = some none)
    (z_max : PySem.W.nsIn K mainGlobals "max" = some none)
    (z_min : PySem.W.nsIn K mainGlobals "min" = some none)
    (z_range : PySem.W.nsIn K mainGlobals "range" = some none)
    (z_len : PySem.W.nsIn K mainGlobals "len" = some none)
    (z_enumerate : PySem.W.nsIn K mainGlobals "enumerate" = some none)
    (z_int : PySem.W.nsIn K mainGlobals "int" = some none)
    (z_isinstance : PySem.W.nsIn K mainGlobals "isinstance" = some none)
    (z_ValueError : PySem.W.nsIn K mainGlobals "ValueError" = some none)
    (z_list : PySem.W.nsIn K mainGlobals "list" = some none)
    (z_bool : PySem.W.nsIn K mainGlobals "bool" = some none)
    {t_GREATEST_PLACE : Tok} (y_GREATEST_PLACE : PySem.W.nsIn K mainGlobals "GREATEST_PLACE" = some (some (.int (80) t_GREATEST_PLACE)))
    {t_LEAST_PLACE : Tok} (y_LEAST_PLACE : PySem.W.nsIn K mainGlobals "LEAST_PLACE" = some (some (.int (-80) t_LEAST_PLACE))) :
    ∃ fd : FuncData, (∀ (s : Shared) (v : Value), BindsTo s fd ⟨[v], []⟩ [("script", v)]) ∧ ∀ base : Heap, K.In base → base.Ns mainGlobals mg → FnOk l.prog w K mg base CX0 5 fa fd ["script"] (spLaw K) := by
  have e := hfa.symm.trans (PySem.W.mg_of X G a11)
  cases e
  have F1 := fun_mk (st := s_is_row) l1 c1 k1
  have B1 := F1.binds (ps := ["places"]) fun _ _ _ _ _ _ us hl => match us, hl with | [_], _ => rfl
  have M1 := PySem.W.mg_of X G a1
  have F2 := fun_mk (st := s_shown) l2 c2 k2
  have B2 := F2.binds (ps := ["row"]) fun _ _ _ _ _ _ us hl => match us, hl with | [_], _ => rfl
  have M2 := PySem.W.mg_of X G a2
  have F3 := fun_mk (st := s_read) l3 c3 k3
  have B3 := F3.binds (ps := ["text"]) fun _ _ _ _ _ _ us hl => match us, hl with | [_], _ => rfl
  have M3 := PySem.W.mg_of X G a3
  have F4 := fun_mk (st := s_figures) l4 c4 k4
  have B4 := F4.binds (ps := ["row", "greatest", "least"]) fun _ _ _ _ _ _ us hl => match us, hl with | [_, _, _], _ => rfl
  have M4 := PySem.W.mg_of X G a4
  have F5 := fun_mk (st := s_places_told) l5 c5 k5
  have B5 := F5.binds (ps := ["text"]) fun _ _ _ _ _ _ us hl => match us, hl with | [_], _ => rfl
  have M5 := PySem.W.mg_of X G a5
  have F6 := fun_mk (st := s_law_cell_at) l6 c6 k6
  have B6 := F6.binds (ps := ["script", "k"]) fun _ _ _ _ _ _ us hl => match us, hl with | [_, _], _ => rfl
  have M6 := PySem.W.mg_of X G a6
  have F7 := fun_mk (st := s_law_figures) l7 c7 k7
  have B7 := F7.binds (ps := ["cell", "many", "plain"]) fun _ _ _ _ _ _ us hl => match us, hl with | [_, _, _], _ => rfl
  have M7 := PySem.W.mg_of X G a7
  have F8 := fun_mk (st := s_law_text) l8 c8 k8
  have B8 := F8.binds (ps := ["script"]) fun _ _ _ _ _ _ us hl => match us, hl with | [_], _ => rfl
  have M8 := PySem.W.mg_of X G a8
  have F9 := fun_mk (st := s_law_places) l9 c9 k9
  have B9 := F9.binds (ps := ["text"]) fun _ _ _ _ _ _ us hl => match us, hl with | [_], _ => rfl
  have M9 := PySem.W.mg_of X G a9
  have F10 := fun_mk (st := s_law_told) l10 c10 k10
  have B10 := F10.binds (ps := ["text"]) fun _ _ _ _ _ _ us hl => match us, hl with | [_], _ => rfl
  have M10 := PySem.W.mg_of X G a10
  have F11 := fun_mk (st := s_law) l11 c11 k11
  have B11 := F11.binds (ps := ["script"]) fun _ _ _ _ _ _ us hl => match us, hl with | [_], _ => rfl
  have M11 := PySem.W.mg_of X G a11
  have b_zip := PySem.W.mg_none_of X G z_zip
  have b_max := PySem.W.mg_none_of X G z_max
  have b_min := PySem.W.mg_none_of X G z_min
  have b_range := PySem.W.mg_none_of X G z_range
  have b_len := PySem.W.mg_none_of X G z_len
  have b_enumerate := PySem.W.mg_none_of X G z_enumerate
  have b_int := PySem.W.mg_none_of X G z_int
  have b_isinstance := PySem.W.mg_none_of X G z_isinstance
  have b_ValueError := PySem.W.mg_none_of X G z_ValueError
  have b_list := PySem.W.mg_none_of X G z_list
  have b_bool := PySem.W.mg_none_of X G z_bool
  have g_GREATEST_PLACE := PySem.W.mg_of X G y_GREATEST_PLACE
  have g_LEAST_PLACE := PySem.W.mg_of X G y_LEAST_PLACE
  have EC : Errs K mg c_GoldError c_NoNumber c_NoRow c_NoNote := ⟨⟨PySem.W.mg_of X G an_GoldError, by rw [cl_GoldError]; rfl, ty_GoldError, be_GoldError, va_GoldError, se_GoldError, ex_GoldError, ⟨ga_GoldError, gt_GoldError, cc_GoldError, gs_, tk_, ob_GoldError, bb_GoldError, by rw [cl_GoldError]; rfl⟩⟩, ⟨PySem.W.mg_of X G an_NoNumber, by rw [cl_NoNumber]; rfl, ty_NoNumber, be_NoNumber, va_NoNumber, se_NoNumber, ex_NoNumber, ⟨ga_NoNumber, gt_NoNumber, cc_NoNumber, gs_, tk_, ob_NoNumber, bb_NoNumber, by rw [cl_NoNumber]; rfl⟩⟩, ⟨PySem.W.mg_of X G an_NoRow, by rw [cl_NoRow]; rfl, ty_NoRow, be_NoRow, va_NoRow, se_NoRow, ex_NoRow, ⟨ga_NoRow, gt_NoRow, cc_NoRow, gs_, tk_, ob_NoRow, bb_NoRow, by rw [cl_NoRow]; rfl⟩⟩, ⟨PySem.W.mg_of X G an_NoNote, by rw [cl_NoNote]; rfl, ty_NoNote, be_NoNote, va_NoNote, se_NoNote, ex_NoNote, ⟨ga_NoNote, gt_NoNote, cc_NoNote, gs_, tk_, ob_NoNote, bb_NoNote, by rw [cl_NoNote]; rfl⟩⟩, s_GoldError_GoldError, s_GoldError_NoNumber, s_GoldError_NoRow, s_GoldError_NoNote, s_NoNumber_GoldError, s_NoNumber_NoNumber, s_NoNumber_NoRow, s_NoNumber_NoNote, s_NoRow_GoldError, s_NoRow_NoNumber, s_NoRow_NoRow, s_NoRow_NoNote, s_NoNote_GoldError, s_NoNote_NoNumber, s_NoNote_NoRow, s_NoNote_NoNote⟩
  refine ⟨PySem.W.fnOf "law" "law" (defArgs s_law) (defBody s_law) (defScope s_law) .none kV11 dc11 pm11 an11 cd11 ct11, fun s v => .of_eq rfl, fun base _ _ => ?_⟩
  have o_law_figures := ok_law_figures (P := l.prog) (w := w) (base := base) EC ⟨⟨_, _, F7, M7, B7⟩⟩ b_range
  have o_law_cell_at := ok_law_cell_at (P := l.prog) (w := w) (base := base) EC ⟨⟨_, _, F6, M6, B6⟩⟩ b_len
  have o_law_text := ok_law_text (P := l.prog) (w := w) (base := base) EC ⟨⟨_, _, F8, M8, B8⟩⟩ b_len o_law_figures o_law_cell_at
  have o_law_places := ok_law_places (P := l.prog) (w := w) (base := base) EC ⟨⟨_, _, F9, M9, B9⟩⟩ b_len b_range
  have o_places_told := ok_places_told (P := l.prog) (w := w) (base := base) EC ⟨⟨_, _, F5, M5, B5⟩⟩ b_len b_enumerate
  have o_is_row := ok_is_row (P := l.prog) (w := w) (base := base) EC ⟨⟨_, _, F1, M1, B1⟩⟩ b_zip g_GREATEST_PLACE g_LEAST_PLACE
  have o_figures := ok_figures (P := l.prog) (w := w) (base := base) EC ⟨⟨_, _, F4, M4, B4⟩⟩ b_range
  have o_shown := ok_shown (P := l.prog) (w := w) (base := base) EC ⟨⟨_, _, F2, M2, B2⟩⟩ b_max b_min o_figures o_is_row
  have o_read := ok_read (P := l.prog) (w := w) (base := base) EC ⟨⟨_, _, F3, M3, B3⟩⟩ o_places_told o_is_row o_shown
  have o_law_told := ok_law_told (P := l.prog) (w := w) (base := base) EC ⟨⟨_, _, F10, M10, B10⟩⟩ b_int b_isinstance b_ValueError o_read
  exact ok_law (P := l.prog) (w := w) (base := base) EC F11 b_len b_isinstance b_int b_list b_bool o_law_text o_law_places o_law_told
theorem walk {l : PySem.W.OpenLaw} {q : Program} {loose : List Str} {XP : (Str → Option Value) → Heap → Prop} {YP : World → Heap → Prop} {d : DefRec} {K : Params → PySem.W.Frag} (hn : l.most = some 63) (hdf : d.params.defaults = [])
    (hY : ∀ (w : World) (h : Heap), YP w h → (K w.params).In h)
    (F : ∀ (w : World) (mg : Str → Option Value) (fa : Addr) (h : Heap), (K w.params).In h → h.Ns mainGlobals mg → mg d.name = some (.ref fa) →
      ∃ fd : FuncData, (∀ (s : Shared) (u : Value), BindsTo s fd ⟨[u], []⟩ [("script", u)]) ∧ ∀ base : Heap, (K w.params).In base → base.Ns mainGlobals mg → FnOk l.prog w (K w.params) mg base CX0 5 fa fd ["script"] (spLaw (K w.params))) :
    PySem.W.WalkO q loose XP YP l.row.toRowW d [] (fun f vs => PySem.call f vs) :=
  L2.walk_of (n := 63) (k := 5) (x := "script") (CX := fun _ => CX0) (sp := fun w => spLaw (K w.params)) hn (by decide) hdf ⟨rfl, by decide, by decide⟩ hY F (fun _ _ a ns hl _ hS => ⟨a, ns, rfl, hS, hl, fun _ => rfl⟩) fun _ _ _ _ _ z => z
end GP
open PySem PySem.W PyProof.Rows
set_option maxRecDepth 100000 in
set_option maxHeartbeats 0 in
theorem PySem.Challenge.cw_goldplaces_k17_read_or_refused_holds : PySem.Challenge.rw_goldplaces_k17_read_or_refused.Holds := by
  w_on; o_law; k_head; (case hw => w_witness2)
  k_fill
  refine GP.walk (l := PySem.Challenge.rw_goldplaces_k17_read_or_refused) rfl rfl (fun w h Y => PySem.W.kIn_of Y) ?F
  case F =>
    intro w mg fa h KX gns hmg
    refine' GP.all_mk KX gns hmg ?a1 ?l1 ?c1 ?k1 ?a2 ?l2 ?c2 ?k2 ?a3 ?l3 ?c3 ?k3 ?a4 ?l4 ?c4 ?k4 ?a5 ?l5 ?c5 ?k5 ?a6 ?l6 ?c6 ?k6 ?a7 ?l7 ?c7 ?k7 ?a8 ?l8 ?c8 ?k8 ?a9 ?l9 ?c9 ?k9 ?a10 ?l10 ?c10 ?k10 ?a11 ?l11 ?c11 ?k11 ?an_GoldError ?cl_GoldError ?ty_GoldError ?be_GoldError ?va_GoldError ?se_GoldError ?ex_GoldError ?ga_GoldError ?gt_GoldError ?cc_GoldError ?ob_GoldError ?bb_GoldError ?an_NoNumber ?cl_NoNumber ?ty_NoNumber ?be_NoNumber ?va_NoNumber ?se_NoNumber ?ex_NoNumber ?ga_NoNumber ?gt_NoNumber ?cc_NoNumber ?ob_NoNumber ?bb_NoNumber ?an_NoRow ?cl_NoRow ?ty_NoRow ?be_NoRow ?va_NoRow ?se_NoRow ?ex_NoRow ?ga_NoRow ?gt_NoRow ?cc_NoRow ?ob_NoRow ?bb_NoRow ?an_NoNote ?cl_NoNote ?ty_NoNote ?be_NoNote ?va_NoNote ?se_NoNote ?ex_NoNote ?ga_NoNote ?gt_NoNote ?cc_NoNote ?ob_NoNote ?bb_NoNote ?s_GoldError_GoldError ?s_GoldError_NoNumber ?s_GoldError_NoRow ?s_GoldError_NoNote ?s_NoNumber_GoldError ?s_NoNumber_NoNumber ?s_NoNumber_NoRow ?s_NoNumber_NoNote ?s_NoRow_GoldError ?s_NoRow_NoNumber ?s_NoRow_NoRow ?s_NoRow_NoNote ?s_NoNote_GoldError ?s_NoNote_NoNumber ?s_NoNote_NoRow ?s_NoNote_NoNote ?gs_ ?tk_ ?z_zip ?z_max ?z_min ?z_range ?z_len ?z_enumerate ?z_int ?z_isinstance ?z_ValueError ?z_list ?z_bool ?y_GREATEST_PLACE ?y_LEAST_PLACE
    (case a1 => k_is)
    (case l1 => k_is)
    (case c1 => k_is)
    (case k1 => k_is)
    (case a2 => k_is)
    (case l2 => k_is)
    (case c2 => k_is)
    (case k2 => k_is)
    (case a3 => k_is)
    (case l3 => k_is)
    (case c3 => k_is)
    (case k3 => k_is)
    (case a4 => k_is)
    (case l4 => k_is)
    (case c4 => k_is)
    (case k4 => k_is)
    (case a5 => k_is)
    (case l5 => k_is)
    (case c5 => k_is)
    (case k5 => k_is)
    (case a6 => k_is)
    (case l6 => k_is)
    (case c6 => k_is)
    (case k6 => k_is)
    (case a7 => k_is)
    (case l7 => k_is)
    (case c7 => k_is)
    (case k7 => k_is)
    (case a8 => k_is)
    (case l8 => k_is)
    (case c8 => k_is)
    (case k8 => k_is)
    (case a9 => k_is)
    (case l9 => k_is)
    (case c9 => k_is)
    (case k9 => k_is)
    (case a10 => k_is)
    (case l10 => k_is)
    (case c10 => k_is)
    (case k10 => k_is)
    (case a11 => k_is)
    (case l11 => k_is)
    (case c11 => k_is)
    (case k11 => k_is)
    (case an_GoldError => k_is)
    (case cl_GoldError => k_is)
    (case ty_GoldError => k_is)
    (case be_GoldError => k_is)
    (case va_GoldError => k_is)
    (case se_GoldError => k_is)
    (case ex_GoldError => k_exc)
    (case ga_GoldError => k_is)
    (case gt_GoldError => k_is)
    (case cc_GoldError => k_is)
    (case ob_GoldError => k_is)
    (case bb_GoldError => k_is)
    (case an_NoNumber => k_is)
    (case cl_NoNumber => k_is)
    (case ty_NoNumber => k_is)
    (case be_NoNumber => k_is)
    (case va_NoNumber => k_is)
    (case se_NoNumber => k_is)
    (case ex_NoNumber => k_exc)
    (case ga_NoNumber => k_is)
    (case gt_NoNumber => k_is)
    (case cc_NoNumber => k_is)
    (case ob_NoNumber => k_is)
    (case bb_NoNumber => k_is)
    (case an_NoRow => k_is)
    (case cl_NoRow => k_is)
    (case ty_NoRow => k_is)
    (case be_NoRow => k_is)
    (case va_NoRow => k_is)
    (case se_NoRow => k_is)
    (case ex_NoRow => k_exc)
    (case ga_NoRow => k_is)
    (case gt_NoRow => k_is)
    (case cc_NoRow => k_is)
    (case ob_NoRow => k_is)
    (case bb_NoRow => k_is)
    (case an_NoNote => k_is)
    (case cl_NoNote => k_is)
    (case ty_NoNote => k_is)
    (case be_NoNote => k_is)
    (case va_NoNote => k_is)
    (case se_NoNote => k_is)
    (case ex_NoNote => k_exc)
    (case ga_NoNote => k_is)
    (case gt_NoNote => k_is)
    (case cc_NoNote => k_is)
    (case ob_NoNote => k_is)
    (case bb_NoNote => k_is)
    (case s_GoldError_GoldError => k_is)
    (case s_GoldError_NoNumber => k_is)
    (case s_GoldError_NoRow => k_is)
    (case s_GoldError_NoNote => k_is)
    (case s_NoNumber_GoldError => k_is)
    (case s_NoNumber_NoNumber => k_is)
    (case s_NoNumber_NoRow => k_is)
    (case s_NoNumber_NoNote => k_is)
    (case s_NoRow_GoldError => k_is)
    (case s_NoRow_NoNumber => k_is)
    (case s_NoRow_NoRow => k_is)
    (case s_NoRow_NoNote => k_is)
    (case s_NoNote_GoldError => k_is)
    (case s_NoNote_NoNumber => k_is)
    (case s_NoNote_NoRow => k_is)
    (case s_NoNote_NoNote => k_is)
    (case gs_ => k_is)
    (case tk_ => k_is)
    (case z_zip => k_is)
    (case z_max => k_is)
    (case z_min => k_is)
    (case z_range => k_is)
    (case z_len => k_is)
    (case z_enumerate => k_is)
    (case z_int => k_is)
    (case z_isinstance => k_is)
    (case z_ValueError => k_is)
    (case z_list => k_is)
    (case z_bool => k_is)
    (case y_GREATEST_PLACE => k_is)
    (case y_LEAST_PLACE => k_is)
#print axioms PySem.Challenge.cw_goldplaces_k17_read_or_refused_holds
