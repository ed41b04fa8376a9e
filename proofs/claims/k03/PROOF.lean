import PyProof.Rows.All
import Wide.All
import OpenK.AllK
import Wide.FinOn
import PyProof.EqAt
import PyProof.EqKinds
import PyProof.TupleCall
import KE.BitLaws
import PySem.Challenge.RW_shapecourt_k03_books_known
set_option Elab.async false
set_option linter.all false
set_option maxRecDepth 100000
namespace L2
open PySem PySem.Spec PyProof.Rows

/-- a key: an int or a str -/
abbrev Key := Sum Int Str
def keyIs : Key → Value → Bool
  | .inl k, v => Value.isInt k v
  | .inr x, v => Value.isStrOf x v
def keyH (w : World) : Key → Int
  | .inl k => hashInt k
  | .inr x => hashStr w x
theorem keyIs_shape : ∀ {k : Key} {v : Value}, keyIs k v = true → (∃ i t, k = Sum.inl i ∧ v = Value.int i t) ∨ (∃ x t, k = Sum.inr x ∧ v = Value.str x t)
  | .inl i, v, h => by
    obtain ⟨t, e⟩ := Value.isInt_shape (k := i) (v := v) h
    exact .inl ⟨i, t, rfl, e⟩
  | .inr x, v, h => by
    obtain ⟨t, e⟩ := Value.isStrOf_shape (x := x) (v := v) h
    exact .inr ⟨x, t, rfl, e⟩
theorem keyIs_str (x : Str) (t : Tok) : keyIs (.inr x) (.str x t) = true := by simp [keyIs, Value.isStrOf]
theorem key_ll (a b : Int) : decide ((Sum.inl a : Key) = Sum.inl b) = (a == b) := by
  by_cases e : a = b
  · subst e; simp
  · have h : ¬ (Sum.inl a : Key) = Sum.inl b := fun q => e (Sum.inl.inj q)
    rw [decide_eq_false h]
    exact (beq_eq_false_iff_ne.mpr e).symm
theorem key_rr (a b : Str) : decide ((Sum.inr a : Key) = Sum.inr b) = decide (a = b) := by
  by_cases e : a = b
  · subst e; simp
  · have h : ¬ (Sum.inr a : Key) = Sum.inr b := fun q => e (Sum.inr.inj q)
    rw [decide_eq_false h, decide_eq_false e]
theorem key_lr (a : Int) (b : Str) : decide ((Sum.inl a : Key) = Sum.inr b) = false := decide_eq_false (fun q => nomatch q)
theorem key_rl (a : Str) (b : Int) : decide ((Sum.inr a : Key) = Sum.inl b) = false := decide_eq_false (fun q => nomatch q)

def mixKind (prog : Program) (w : World) : PySem.KeyKind prog w Key where
  is := keyIs
  hash := keyH w
  inj := fun v a b ha hb => by
    rcases keyIs_shape ha with ⟨i, t, rfl, rfl⟩ | ⟨x, t, rfl, rfl⟩
    · rcases keyIs_shape hb with ⟨j, u, rfl, e⟩ | ⟨y, u, rfl, e⟩
      · injection e with e1 _; rw [e1]
      · exact nomatch e
    · rcases keyIs_shape hb with ⟨j, u, rfl, e⟩ | ⟨y, u, rfl, e⟩
      · exact nomatch e
      · injection e with e1 _; rw [e1]
  byValue := fun k v h => by
    rcases keyIs_shape h with ⟨i, t, rfl, rfl⟩ | ⟨x, t, rfl, rfl⟩ <;> rfl
  pyHash := fun hv h => by
    rcases keyIs_shape hv with ⟨i, t, rfl, rfl⟩ | ⟨x, t, rfl, rfl⟩
    · exact wpAny_pyHash_int h
    · exact wpAny_pyHash_str h
  eqBool := fun hu hv h => by
    rcases keyIs_shape hu with ⟨i, t, rfl, rfl⟩ | ⟨x, t, rfl, rfl⟩
    · rcases keyIs_shape hv with ⟨j, u, rfl, rfl⟩ | ⟨y, u, rfl, rfl⟩
      · rw [key_ll] at h; exact wpAny_eqBool_int h
      · rw [key_lr] at h; exact SeqAt.EqAt.int_str i t y u _ _ _ _ h
    · rcases keyIs_shape hv with ⟨j, u, rfl, rfl⟩ | ⟨y, u, rfl, rfl⟩
      · rw [key_rl] at h; exact SeqAt.EqAt.str_int x t j u _ _ _ _ h
      · rw [key_rr] at h; exact wpAny_eqBool_str h
  «strs» := fun k x t v h => by
    rcases keyIs_shape h with ⟨i, u, rfl, e⟩ | ⟨y, u, rfl, e⟩
    · exact nomatch e
    · injection e with e1 _
      subst e1
      cases v <;> rfl

theorem mixKind_str (prog : Program) (w : World) (x : Str) (t : Tok) : (mixKind prog w).is (.inr x) (.str x t) = true := keyIs_str x t
end L2

namespace L2
open PySem PySem.Spec PyProof.Rows

/-- a value, without the heap -/
inductive V where
  | non | bl (b : Bool) | int (i : Int) | str (x : Str) | byt (b : Array UInt8) | flt (b : UInt64) | ref (a : Addr) | ty (n : String)
  deriving DecidableEq

def RelV : V → Value → Prop
  | .non, u => u = Value.none
  | .bl b, u => u = Value.bool b
  | .int i, u => ∃ t, u = Value.int i t
  | .str x, u => ∃ t, u = Value.str x t
  | .byt b, u => ∃ t, u = Value.bytes b t
  | .flt b, u => ∃ t, u = Value.float b t
  | .ref a, u => u = Value.ref a
  | .ty n, u => u = Value.type n

abbrev Vals : List V → List Value → Prop := Paired RelV
theorem Vals.length {xs : List V} {us : List Value} (r : Vals xs us) : xs.length = us.length := Paired.length r
theorem Vals.get : ∀ {xs : List V} {us : List Value} {i : Nat} {x : V}, Vals xs us → xs[i]? = some x → ∃ u, us[i]? = some u ∧ RelV x u
  | _, _, _, _, .nil, e => by simp at e
  | _, _, 0, _, .cons r _, e => by simp at e; subst e; exact ⟨_, rfl, r⟩
  | _, _, i + 1, x, .cons _ t, e => by
    obtain ⟨u, h1, h2⟩ := Vals.get (i := i) (x := x) t (by simpa using e)
    exact ⟨u, by simpa using h1, h2⟩
theorem Vals.set {x : V} {u : Value} (r : RelV x u) : ∀ {xs : List V} {us : List Value} (i : Nat), Vals xs us → Vals (xs.set i x) (us.set i u)
  | _, _, _, .nil => .nil
  | _, _, 0, .cons _ t => .cons r t
  | _, _, i + 1, .cons q t => .cons q (Vals.set r i t)
theorem Vals.append : ∀ {xs ys : List V} {us ws : List Value}, Vals xs us → Vals ys ws → Vals (xs ++ ys) (us ++ ws)
  | _, _, _, _, .nil, s => s
  | _, _, _, _, .cons r t, s => .cons r (Vals.append t s)
theorem Vals.take : ∀ {xs : List V} {us : List Value} (n : Nat), Vals xs us → Vals (xs.take n) (us.take n)
  | _, _, 0, _ => .nil
  | _, _, _ + 1, .nil => .nil
  | _, _, n + 1, .cons r t => .cons r (Vals.take n t)
theorem Vals.drop : ∀ {xs : List V} {us : List Value} (n : Nat), Vals xs us → Vals (xs.drop n) (us.drop n)
  | _, _, 0, r => r
  | _, _, _ + 1, .nil => .nil
  | _, _, n + 1, .cons _ t => Vals.drop n t
def RelO : Option V → Option Value → Prop
  | some v, some u => RelV v u
  | none, none => True
  | _, _ => False
def KV {κ : Type} : List (κ × V) → List (κ × Value) → Prop := Paired fun (p : κ × V) (q : κ × Value) => p.1 = q.1 ∧ RelV p.2 q.2

/-- a key of a dict (00_mix): an int or a text -/
def kV : Key → V
  | .inl i => .int i
  | .inr x => .str x

/-- what stands at a tracked address -/
inductive HO where
  /-- a list -/
  | lst (xs : List V)
  /-- a tuple (never changes) -/
  | tup (xs : List V)
  /-- a dict whose keys are ints and texts; one whose keys are tuples of ints and texts (the empty one is both) -/
  | dK (kvs : List (Key × V)) | dT (kvs : List (List Key × V))
  /-- a set of ints: its members, its size -/
  | set (S : Int → Bool) (n : Nat)
  /-- an instance of the class at C, its dict at dx, its attributes -/
  | ins (C dx : Addr) (fs : List (Str × V))
  /-- the dict of the instance at x -/
  | own (x : Addr)
  /-- the dict of an exception -/
  | xd (fs : List (Str × V))
  /-- a bound method, f of x -/
  | met (f x : Addr)
  /-- a range object lo, lo + 1, .. below hi -/
  | rng (lo hi : Int)
  /-- a thing that is known to the object (the script; a dict while a loop walks it): read, never written while it is so -/
  | frz (o : Obj) (u : HO)
  /-- a code object's table -/
  | tbl (ps : Array Value)
  /-- any other thing, by what is true of its one object (a def of one's own: SetO a S n := HO.ext fun h => ..) -/
  | ext (φ : Heap → Prop)

abbrev Hp := Addr → Option HO
def upd (H : Hp) (a : Addr) (o : HO) : Hp := fun b => if b = a then some o else H b
theorem upd_same {H : Hp} {a : Addr} {o : HO} : upd H a o a = some o := by unfold upd; rw [if_pos rfl]
theorem upd_ne {H : Hp} {a b : Addr} {o : HO} (h : b ≠ a) : upd H a o b = H b := by unfold upd; rw [if_neg h]
theorem upd_upd {H : Hp} {a : Addr} {o u : HO} : upd (upd H a o) a u = upd H a u := by
  funext b; unfold upd; split <;> rfl
/-- two objects of different content stand apart -/
theorem ne_of {H : Hp} {a b : Addr} {o u : HO} (h : H a = some o) (h' : H b = some u) (d : o ≠ u) : a ≠ b := by
  intro e; subst e; rw [h] at h'; exact d (Option.some.inj h')
theorem ne_of_none {H : Hp} {a b : Addr} {o : HO} (h : H a = some o) (h' : H b = none) : a ≠ b := by
  intro e; subst e; rw [h] at h'; cases h'

/-- a tuple without a namespace -/
def IsTupN (h : Heap) (a : Addr) (items : Array Value) : Prop := ∃ o, h.get? a = some o ∧ o.cls = .type "tuple" ∧ o.dict = none ∧ ∃ n, o.data = .seq items n
theorem IsTupN.is {h : Heap} {a : Addr} {items : Array Value} (x : IsTupN h a items) : IsTup h a items := by
  obtain ⟨o, e, c, _, n, d⟩ := x
  exact ⟨o, e, c, n, d⟩
theorem IsTupN.new (h : Heap) (items : Array Value) : IsTupN (h.push { cls := .type "tuple", data := .seq items }) h.objs.size items := ⟨_, Heap.get?_push_size _ rfl, rfl, rfl, _, rfl⟩
section
variable (P : Program) (w : World)
def ObjOk (H : Hp) (h : Heap) (a : Addr) : HO → Prop
  | .lst xs => xs.length ≤ sizeLine ∧ ∃ (its : List Value) (n : Nat), Vals xs its ∧ h.get? a = some { cls := .type "list", data := .seq its.toArray n }
  | .tup xs => xs.length ≤ sizeLine ∧ ∃ its : List Value, Vals xs its ∧ IsTupN h a its.toArray
  | .dK kvs => kvs.length ≤ sizeLine ∧ (a == sysModules) = false ∧ ∃ vs, KV kvs vs ∧ h.DictOf (mixKind P w) a vs
  | .dT kvs => kvs.length ≤ sizeLine ∧ (a == sysModules) = false ∧ ∃ xs : List (List Key × Addr × Value),
      Paired (fun (p : List Key × V) (q : List Key × Addr × Value) => p.1 = q.1 ∧ H q.2.1 = some (.tup (p.1.map kV)) ∧ RelV p.2 q.2.2) kvs xs ∧
      ∃ o es ep, h.get? a = some o ∧ o.ExactDict ∧ o.data = .dict es ep ∧ es.toList = xs.map (entryOfKey (tupleKind (mixKind P w))) ∧ (xs.map (·.1)).Nodup
  | .set S n => h.SetOf (intKind P w) a S n
  | .ins C dx fs => H dx = some (.own a) ∧ fs.length ≤ 1000 ∧ dx ≠ a ∧ h.get? a = some (PySem.W.instObj C dx) ∧
      ∃ mA, h.Ns1 dx mA ∧ (∀ f, RelO (fs.lookup f) (mA f)) ∧ PySem.Within mA (fs.map (·.1))
  | .own _ => ∃ o, h.get? a = some o
  | .xd fs => ∃ mA, h.Ns1 a mA ∧ ∀ f, RelO (fs.lookup f) (mA f)
  | .rng lo hi => ∃ t u v, h.get? a = some { cls := .type "range", data := .fields #[.int lo t, .int hi u, .int 1 v] }
  | .frz o u => h.get? a = some o ∧ ObjOk H h a u
  | .tbl ps => h.get? a = some { cls := .none, data := .fields ps }
  | .met f x => h.get? a = some (PySem.W.methodObj (.ref f) (.ref x))
  | .ext φ => φ h ∧ (∃ o, h.get? a = some o) ∧ ∀ h1 h2 : Heap, φ h1 → (∀ o, h1.get? a = some o → h2.get? a = some o) → φ h2
/-- the abstract heap is held -/
def HOk (H : Hp) (h : Heap) : Prop := ∀ a o, H a = some o → ObjOk P w H h a o
end

section
variable {P : Program} {w : World} {H H' : Hp} {h h' : Heap} {a : Addr} {o : HO}
theorem ObjOk.lt (x : ObjOk P w H h a o) : a < h.objs.size := by
  cases o with
  | lst xs => obtain ⟨_, _, _, _, e⟩ := x; exact Heap.lt_size e
  | tup xs => obtain ⟨_, _, _, p⟩ := x; exact p.is.lt
  | dK kvs => obtain ⟨_, _, _, _, o, _, _, e, _⟩ := x; exact Heap.lt_size e
  | dT kvs => obtain ⟨_, _, _, _, o, _, _, e, _⟩ := x; exact Heap.lt_size e
  | set S n => obtain ⟨o, _, _, _, e, _⟩ := x; exact Heap.lt_size e
  | ins C dx fs => obtain ⟨_, _, _, e, _⟩ := x; exact Heap.lt_size e
  | own y => obtain ⟨_, e⟩ := x; exact Heap.lt_size e
  | xd fs => obtain ⟨_, ⟨_, _, _, e, _⟩, _⟩ := x; exact Heap.lt_size e
  | rng lo hi => obtain ⟨_, _, _, e⟩ := x; exact Heap.lt_size e
  | frz ob u => obtain ⟨e, _⟩ := x; exact Heap.lt_size e
  | tbl ps => exact Heap.lt_size (show h.get? a = some _ from x)
  | met f y => exact Heap.lt_size (show h.get? a = some _ from x)
  | ext φ => obtain ⟨_, ⟨_, e⟩, _⟩ := x; exact Heap.lt_size e
theorem Paired.mapP {α β : Type} {F G : α → β → Prop} : ∀ {l₁ : List α} {l₂ : List β}, Paired F l₁ l₂ → (∀ a b, F a b → G a b) → Paired G l₁ l₂
  | _, _, .nil, _ => .nil
  | _, _, .cons r t, f => .cons (f _ _ r) (Paired.mapP t f)
/-- what an object's description leans on: its own object, its own dict, the tuples -/
theorem ObjOk.stay (x : ObjOk P w H h a o) (k : ∀ b u, (b = a ∨ H b = some (.own a)) → h.get? b = some u → h'.get? b = some u)
    (ho : ∀ b, H b = some (.own a) → H' b = some (.own a)) (ht : ∀ b xs, H b = some (.tup xs) → H' b = some (.tup xs)) : ObjOk P w H' h' a o := by
  induction o with
  | lst xs => obtain ⟨z, its, n, r, e⟩ := x; exact ⟨z, its, n, r, k _ _ (.inl rfl) e⟩
  | tup xs => obtain ⟨z, its, r, ob, e, c⟩ := x; exact ⟨z, its, r, ob, k _ _ (.inl rfl) e, c⟩
  | dK kvs => obtain ⟨z, y, vs, r, ob, es, ep, e, c⟩ := x; exact ⟨z, y, vs, r, ob, es, ep, k _ _ (.inl rfl) e, c⟩
  | dT kvs =>
    obtain ⟨z, y, xs, r, ob, es, ep, e, c⟩ := x
    exact ⟨z, y, xs, Paired.mapP r fun p q z => ⟨z.1, ht _ _ z.2.1, z.2.2⟩, ob, es, ep, k _ _ (.inl rfl) e, c⟩
  | set S n => obtain ⟨ob, es, ep, t, e, c⟩ := x; exact ⟨ob, es, ep, t, k _ _ (.inl rfl) e, c⟩
  | ins C dx fs =>
    obtain ⟨d, z, ne, e, mA, ⟨od, es, ep, e2, c⟩, r⟩ := x
    exact ⟨ho _ d, z, ne, k _ _ (.inl rfl) e, mA, ⟨od, es, ep, k _ _ (.inr d) e2, c⟩, r⟩
  | own y => obtain ⟨ob, e⟩ := x; exact ⟨ob, k _ _ (.inl rfl) e⟩
  | xd fs => obtain ⟨mA, ⟨od, es, ep, e, c⟩, r⟩ := x; exact ⟨mA, ⟨od, es, ep, k _ _ (.inl rfl) e, c⟩, r⟩
  | rng lo hi => obtain ⟨t, u, v, e⟩ := x; exact ⟨t, u, v, k _ _ (.inl rfl) e⟩
  | frz ob u ih => obtain ⟨e, q⟩ := x; exact ⟨k _ _ (.inl rfl) e, ih q⟩
  | tbl ps =>
    have e : h.get? a = some { cls := .none, data := .fields ps } := x
    show h'.get? a = some { cls := .none, data := .fields ps }
    exact k a _ (.inl rfl) e
  | met f y =>
    have e : h.get? a = some (PySem.W.methodObj (.ref f) (.ref y)) := x
    show h'.get? a = some (PySem.W.methodObj (.ref f) (.ref y))
    exact k a _ (.inl rfl) e
  | ext φ => obtain ⟨p, ⟨o, e⟩, st⟩ := x; exact ⟨st _ _ p fun o q => k _ _ (.inl rfl) q, ⟨o, k _ _ (.inl rfl) e⟩, st⟩
theorem HOk.lt (x : HOk P w H h) (e : H a = some o) : a < h.objs.size := (x a o e).lt
theorem HOk.fresh (x : HOk P w H h) (e : h.objs.size ≤ a) : H a = none := by
  cases q : H a with
  | none => rfl
  | some u => exact absurd (Nat.lt_of_lt_of_le (x.lt q) e) (Nat.lt_irrefl _)
/-- every object of the heap is kept -/
theorem HOk.kept (x : HOk P w H h) (k : ∀ b u, h.get? b = some u → h'.get? b = some u) : HOk P w H h' := fun a o e =>
  (x a o e).stay (fun b u _ q => k b u q) (fun _ q => q) fun _ _ q => q
/-- a new object is laid and tracked -/
theorem HOk.laid (x : HOk P w H h) (k : ∀ b u, h.get? b = some u → h'.get? b = some u) (hp : h.objs.size ≤ a) (new : ObjOk P w (upd H a o) h' a o) : HOk P w (upd H a o) h' := fun b u e => by
  have hn := x.fresh hp
  by_cases hb : b = a
  · subst hb; rw [upd_same] at e; cases e; exact new
  · rw [upd_ne hb] at e
    exact (x b u e).stay (fun c v _ q => k c v q) (fun c q => by rw [upd_ne (ne_of_none q hn)]; exact q) fun c xs q => by rw [upd_ne (ne_of_none q hn)]; exact q
end

/-- what may be read as u: it is u, or a known u -/
def Rd (H : Hp) (a : Addr) (u : HO) : Prop := H a = some u ∨ ∃ o, H a = some (.frz o u)
theorem Rd.of {H : Hp} {a : Addr} {u : HO} (h : H a = some u) : Rd H a u := .inl h
theorem Rd.ok {P : Program} {w : World} {H : Hp} {h : Heap} {a : Addr} {u : HO} (r : Rd H a u) (x : HOk P w H h) : ObjOk P w H h a u := by
  rcases r with r | ⟨o, r⟩
  · exact x a u r
  · obtain ⟨_, q⟩ := x a _ r
    exact q
/-- what may be written -/
def Mut : Option HO → Prop
  | some (.lst _) => True
  | some (.dK _) => True
  | some (.dT _) => True
  | some (.set _ _) => True
  | some (.ins _ _ _) => True
  | some (.ext _) => True
  | _ => False
section
variable {P : Program} {w : World} {H : Hp} {h h' : Heap} {x e : Addr} {o' : HO}
/-- the object at e is changed: x itself, or the dict of the instance x -/
theorem HOk.write (ok : HOk P w H h) (mu : Mut (H x)) (he : e = x ∨ H e = some (.own x)) (k : ∀ b u, b ≠ e → h.get? b = some u → h'.get? b = some u) (heo : ∃ u, h'.get? e = some u)
    (new : ObjOk P w (upd H x o') h' x o') : HOk P w (upd H x o') h' := fun b u q => by
  have nown : ∀ c y, H c = some (.own y) → c ≠ x := fun c y r z => by subst z; rw [r] at mu; exact mu
  have ntup : ∀ c xs, H c = some (.tup xs) → c ≠ x := fun c xs r z => by subst z; rw [r] at mu; exact mu
  by_cases hb : b = x
  · subst hb; rw [upd_same] at q; cases q; exact new
  · rw [upd_ne hb] at q
    by_cases hbe : b = e
    · have q' : H b = some (.own x) := by
        rcases he with z | z
        · exact absurd (hbe.trans z) hb
        · rw [hbe]; exact z
      rw [q] at q'; cases q'
      obtain ⟨v, hv⟩ := heo
      exact ⟨v, by rw [hbe]; exact hv⟩
    · refine (ok b u q).stay (fun c v hc r => k c v ?_ r) (fun c r => by rw [upd_ne (nown c b r)]; exact r) fun c xs r => by rw [upd_ne (ntup c xs r)]; exact r
      rcases hc with rfl | hc
      · exact hbe
      · rintro rfl
        rcases he with z | z
        · exact nown c b hc z
        · rw [hc] at z; cases z; exact hb rfl
end

structure Un (fs ex : List Addr) (H H' : Hp) (h h' : Heap) : Prop where
  keep : ∀ b o, h.get? b = some o → H b = none → b ∉ fs → b ∉ ex → h'.get? b = some o
  slot : ∀ b o, h.get? b = some o → H b = none → b ∈ fs → b ∉ ex → ∃ sl, h'.get? b = some { o with slots := sl }
  free : ∀ b o, h.get? b = some o → H b = none → b ∉ ex → H' b = none
  there : ∀ b o, h.get? b = some o → b ∉ ex → ∃ o', h'.get? b = some o'
  tups : ∀ b xs, H b = some (.tup xs) → H' b = some (.tup xs)
  frzs : ∀ b o u, H b = some (.frz o u) → H' b = some (.frz o u)
  tbls : ∀ b ps, H b = some (.tbl ps) → ∃ more, H' b = some (.tbl (ps ++ more))
section
variable {fs fs' ex ex' : List Addr} {H H1 H2 : Hp} {h h1 h2 h' : Heap} {a x e : Addr} {o : HO}
theorem Un.any (u : Un fs ex H H1 h h1) {b : Addr} {ob : Obj} (q : h.get? b = some ob) (n : H b = none) (hx : b ∉ ex) : ∃ sl, h1.get? b = some { ob with slots := sl } := by
  by_cases hb : b ∈ fs
  · exact u.slot b ob q n hb hx
  · exact ⟨ob.slots, u.keep b ob q n hb hx⟩
theorem Un.trans (a : Un fs ex H H1 h h1) (b : Un fs ex H1 H2 h1 h2) : Un fs ex H H2 h h2 where
  keep := fun c ob q n hc hx => b.keep c ob (a.keep c ob q n hc hx) (a.free c ob q n hx) hc hx
  slot := fun c ob q n hc hx => by
    obtain ⟨sl, e1⟩ := a.slot c ob q n hc hx
    obtain ⟨sl', e2⟩ := b.slot c _ e1 (a.free c ob q n hx) hc hx
    exact ⟨sl', e2⟩
  free := fun c ob q n hx => by
    obtain ⟨o', e1⟩ := a.there c ob q hx
    exact b.free c o' e1 (a.free c ob q n hx) hx
  there := fun c ob q hx => by
    obtain ⟨o', e1⟩ := a.there c ob q hx
    exact b.there c o' e1 hx
  tups := fun c xs q => b.tups c xs (a.tups c xs q)
  frzs := fun c ob xs q => b.frzs c ob xs (a.frzs c ob xs q)
  tbls := fun c ps q => by
    obtain ⟨m1, e1⟩ := a.tbls c ps q
    obtain ⟨m2, e2⟩ := b.tbls c _ e1
    exact ⟨m1 ++ m2, by rw [e2, Array.append_assoc]⟩
theorem Un.kept (k : ∀ b u, h.get? b = some u → h'.get? b = some u) : Un fs ex H H h h' :=
  ⟨fun b ob q _ _ _ => k b ob q, fun b ob q _ _ _ => ⟨ob.slots, k b ob q⟩, fun _ _ _ n _ => n, fun b ob q _ => ⟨ob, k b ob q⟩, fun _ _ q => q, fun _ _ _ q => q, fun _ ps q => ⟨#[], by rw [q]; simp⟩⟩
theorem Un.refl : Un fs ex H H h h := Un.kept fun _ _ q => q
theorem Un.laid (k : ∀ b u, h.get? b = some u → h'.get? b = some u) (hp : h.objs.size ≤ a) (hn : H a = none) : Un fs ex H (upd H a o) h h' where
  keep := fun b u q _ _ _ => k b u q
  slot := fun b u q _ _ _ => ⟨u.slots, k b u q⟩
  free := fun b u q n _ => by rw [upd_ne (Nat.ne_of_lt (Nat.lt_of_lt_of_le (Heap.lt_size q) hp))]; exact n
  there := fun b u q _ => ⟨u, k b u q⟩
  tups := fun b xs q => by rw [upd_ne (ne_of_none q hn)]; exact q
  frzs := fun b u xs q => by rw [upd_ne (ne_of_none q hn)]; exact q
  tbls := fun b ps q => ⟨#[], by rw [upd_ne (ne_of_none q hn), q]; simp⟩
theorem Un.write (mu : Mut (H x)) (he : e = x ∨ H e = some (.own x)) (k : ∀ b u, b ≠ e → h.get? b = some u → h'.get? b = some u) (heo : ∃ u, h'.get? e = some u) : Un fs ex H (upd H x o) h h' := by
  have hx : ∀ b, H b = none → b ≠ x := fun b n z => by subst z; rw [n] at mu; exact mu
  have hb : ∀ b, H b = none → b ≠ e := fun b n z => by
    subst z
    rcases he with r | r
    · exact hx b n r
    · rw [n] at r; cases r
  have hm : ∀ b u, H b = some u → ¬ Mut (some u) → b ≠ x := fun b u q nm z => by subst z; rw [q] at mu; exact nm mu
  refine ⟨fun b u q n _ _ => k b u (hb b n) q, fun b u q n _ _ => ⟨u.slots, k b u (hb b n) q⟩, fun b u q n _ => by rw [upd_ne (hx b n)]; exact n, fun b u q _ => ?_,
    fun b xs q => by rw [upd_ne (hm b _ q fun z => z)]; exact q, fun b u xs q => by rw [upd_ne (hm b _ q fun z => z)]; exact q, fun b ps q => ⟨#[], by rw [upd_ne (hm b _ q fun z => z), q]; simp⟩⟩
  by_cases hbe : b = e
  · subst hbe; exact heo
  · exact ⟨u, k b u hbe q⟩
theorem Un.mono (u : Un fs ex H H1 h h1) (hs : ∀ b ∈ fs, b ∈ fs') (hx : ∀ b ∈ ex, b ∈ ex') : Un fs' ex' H H1 h h1 :=
  ⟨fun b ob q n hb he => u.keep b ob q n (fun z => hb (hs b z)) fun z => he (hx b z), fun _ _ q n _ he => u.any q n fun z => he (hx _ z), fun b ob q n he => u.free b ob q n fun z => he (hx b z), fun b ob q he => u.there b ob q fun z => he (hx b z), u.tups, u.frzs, u.tbls⟩
end

def trk (h : Heap) (H : Hp) : List Addr := (List.range h.objs.size).filter fun a => (H a).isSome
def hidT (h : Heap) (H : Hp) : Heap := PySem.W.hideAll h (trk h H)
theorem hidT_size (h : Heap) (H : Hp) : (hidT h H).objs.size = h.objs.size := PySem.W.hideAll_size _ _
theorem hidT_get {h : Heap} {H : Hp} {b : Addr} {o : Obj} (e : h.get? b = some o) (n : H b = none) : (hidT h H).get? b = some o :=
  PySem.W.hideAll_get _ e fun hm => by
    have q : (H b).isSome = true := (List.mem_filter.mp hm).2
    rw [n] at q; simp at q
theorem of_hidT {h : Heap} {H : Hp} {b : Addr} {o : Obj} (e : (hidT h H).get? b = some o) : h.get? b = some o ∧ H b = none := by
  have e' : h.get? b = some o := PySem.W.of_hideAll (trk h H) e
  refine ⟨e', ?_⟩
  cases q : H b with
  | none => rfl
  | some x =>
    have hm : b ∈ trk h H := List.mem_filter.mpr ⟨List.mem_range.mpr (Heap.lt_size e'), by simp [q]⟩
    have z : (hidT h H).get? b = none := PySem.W.hideAll_none (trk h H) hm
    rw [z] at e; cases e

def allNews (g h : Heap) (L : Addr) : List (Addr × Obj) := (List.range h.objs.size).filterMap fun a => if a = L ∨ (g.get? a).isSome = true then none else (h.get? a).map fun o => (a, o)
def rest (g h : Heap) (L d : Addr) : List (Addr × Obj) := (allNews g h L).filter fun p => decide (p.1 ≠ d)
end L2

namespace L2
open PySem PySem.Spec PyProof.Rows

/-- the module's facts, over the base: the heap at the law's entry without what is tracked there -/
structure Mod (K : PySem.W.Frag) (mg : Str → Option Value) (base : Heap) : Prop where
  kin : K.In base
  glob : base.Ns mainGlobals mg
  blt : ∃ mb, base.Ns builtinsNs mb ∧ ∀ x : Str, x ≠ "__name__" → mb x = bootBuiltins x
  nolimit : base.NoLimit

/-- the context: a def's body (or a comprehension's block) running. base: fixed through the whole law; s₀, H₀: the entry; outer: the frames whose slots others may change (a def's callers); stack: all frames that run;
   ex: iterators that were made ahead of the entry and are walked here (a comprehension's); fn: the names whose cells were made at the entry (a def: all; a comprehension's block: its own); calm: not within an except suite; pn: pins that every state bears; xe: what is wanted of an exception that leaves the code -/
structure Cx where
  prog : Program
  w : World
  K : PySem.W.Frag
  mg : Str → Option Value
  base : Heap
  A : Around
  N : List Str
  s_0 : Shared
  H_0 : Hp
  env : Env
  outer : List Env
  stack : List Env
  ex : List Addr
  fn : Str → Bool
  calm : Bool
  pn : List (Addr × Obj)
  xe : Value → Shared → Prop
/-- the callers' frames -/
def frs (l : List Env) : List Addr := l.filterMap (·.frame)
abbrev Cx.fs (X : Cx) : List Addr := frs X.outer

def Vis (sc : Scope) (x : Str) : Prop := sc.names.lookup x = some .local ∨ sc.names.lookup x = some .cell ∨ sc.names.lookup x = some .free
def Loc (sc : Scope) (x : Str) : Prop := sc.names.lookup x = some .local ∨ sc.names.lookup x = some .cell
def Look (env : Env) (h : Heap) (m : Str → Option Value) (x : Str) (u : Value) : Prop :=
  (env.kindOf x = some .local ∧ m x = some u) ∨ ((env.kindOf x = some .cell ∨ env.kindOf x = some .free) ∧ ∃ c, env.cells.lookup x = some c ∧ h.IsCell c (some u))

structure Cx.Ok (X : Cx) : Prop where
  mod : Mod X.K X.mg X.base
  kind : X.env.scope.kind = .function
  glob : X.env.globals = mainGlobals
  blt : X.env.builtins = builtinsNs
  above : X.s_0.heap.objs.size ≤ X.env.locals
  inj : ∀ x y c, X.env.cells.lookup x = some c → X.env.cells.lookup y = some c → x = y
  has : ∀ x, (X.env.kindOf x = some .cell ∨ X.env.kindOf x = some .free) → ∃ c, X.env.cells.lookup x = some c
  cab : ∀ x c, X.fn x = true → X.env.cells.lookup x = some c → X.s_0.heap.objs.size ≤ c
  hd : X.calm = true → X.A.handled = none
  frames : X.A.frames = some X.stack
  stk : X.stack = X.outer ∨ (X.stack = X.env :: X.outer ∧ X.env.frame = some X.env.locals)
  exf : ∀ b ∈ X.ex, b ≠ X.env.locals ∧ ∀ x c, X.env.cells.lookup x = some c → c ≠ b
  bs : ∀ b o, X.base.get? b = some o → X.s_0.heap.get? b = some o ∧ X.H_0 b = none
  bsz : X.base.objs.size ≤ X.s_0.heap.objs.size
  noex : ∀ b o, X.base.get? b = some o → b ∉ X.ex
  exfs : ∀ b ∈ X.ex, b ∉ X.fs
  funs : X.s_0.heap.FunFrames X.base X.outer
  frf : ∀ b ∈ X.fs, X.H_0 b = none

structure Inv (X : Cx) (pins : List (Addr × Obj)) (σ : List (Option V)) (H : Hp) (s : Shared) : Prop where
  ok : X.Ok
  os : s.os = X.s_0.os
  bare : AllBare s.gens
  base : Un X.fs X.ex X.H_0 H X.s_0.heap s.heap
  loc : ∃ m, s.heap.Ns X.env.locals m ∧ ∀ (i : Nat) (x : Str) (v : V), X.N[i]? = some x → σ[i]? = some (some v) → Vis X.env.scope x → ∃ u, RelV v u ∧ Look X.env s.heap m x u
  cell : ∀ x c, X.env.cells.lookup x = some c → ∃ v, s.heap.IsCell c v
  free : H X.env.locals = none
  freeC : ∀ x c, X.env.cells.lookup x = some c → H c = none
  pin : ∀ p ∈ X.pn ++ pins, s.heap.get? p.1 = some p.2 ∧ H p.1 = none ∧ p.1 ≠ X.env.locals ∧ p.1 ∉ X.fs ∧ ∀ v, p.2.data ≠ .cell v
  hok : HOk X.prog X.w H s.heap
  len : σ.length = X.N.length

section
variable {X : Cx} {pins : List (Addr × Obj)} {σ : List (Option V)} {H H' : Hp} {s : Shared} {h' : Heap}

theorem Cx.Ok.nofr (ok : X.Ok) {b : Addr} {o : Obj} (e : X.base.get? b = some o) : b ∉ X.fs := fun hb => by
  have := (ok.funs.mem hb).1
  rw [e] at this; cases this
theorem Inv.bs (I : Inv X pins σ H s) : ∀ b o, X.base.get? b = some o → s.heap.get? b = some o ∧ H b = none := fun b o e =>
  ⟨I.base.keep b o (I.ok.bs b o e).1 (I.ok.bs b o e).2 (I.ok.nofr e) (I.ok.noex b o e), I.base.free b o (I.ok.bs b o e).1 (I.ok.bs b o e).2 (I.ok.noex b o e)⟩
theorem Inv.bk (I : Inv X pins σ H s) : ∀ b o, X.base.get? b = some o → s.heap.get? b = some o := fun b o e => (I.bs b o e).1
theorem Inv.mod (I : Inv X pins σ H s) : Mod X.K X.mg X.base := I.ok.mod
theorem Inv.kIn (I : Inv X pins σ H s) : X.K.In s.heap := I.ok.mod.kin.keeps I.bk
theorem Inv.nolimit (I : Inv X pins σ H s) : s.heap.NoLimit := I.ok.mod.nolimit.keeps I.bk
/-- the frame over the base: for OpenK's rules (K.In X.base is I.mod.kin) -/
theorem Inv.fr (I : Inv X pins σ H s) : ∃ m, Fr X.base X.env.locals s.heap m :=
  let ⟨m, hn, _⟩ := I.loc
  ⟨m, hn, I.bk, Nat.le_trans I.ok.bsz I.ok.above⟩
theorem Inv.lt (I : Inv X pins σ H s) : X.env.locals < s.heap.objs.size := let ⟨_, hn, _⟩ := I.loc; hn.lt
theorem Inv.sz (I : Inv X pins σ H s) : X.s_0.heap.objs.size ≤ s.heap.objs.size := Nat.le_trans I.ok.above (Nat.le_of_lt I.lt)
theorem Inv.nofs (I : Inv X pins σ H s) {a : Addr} (h : s.heap.objs.size ≤ a) : a ∉ X.fs := fun hb => by
  obtain ⟨_, o, ho, _⟩ := I.ok.funs.mem hb
  exact absurd (Nat.lt_of_lt_of_le (Heap.lt_size ho) (Nat.le_trans I.sz h)) (Nat.lt_irrefl _)
theorem Inv.cne (I : Inv X pins σ H s) : ∀ x c, X.env.cells.lookup x = some c → c ≠ X.env.locals := fun x c e z => by
  obtain ⟨v, o, ho, hd⟩ := I.cell x c e
  obtain ⟨m, ⟨o', es, ep, ho', hd', _⟩, _⟩ := I.loc
  rw [z, ho'] at ho; cases ho; rw [hd'] at hd; cases hd
theorem Inv.funs (I : Inv X pins σ H s) : s.heap.FunFrames X.base X.outer := by
  have all : ∀ (l : List Env), (∀ b ∈ frs l, b ∈ X.fs) → X.s_0.heap.FunFrames X.base l → s.heap.FunFrames X.base l := by
    intro l
    induction l with
    | nil => intro _ _; trivial
    | cons env r ih =>
      intro hs hl
      obtain ⟨hk, ⟨L, o, hf, hn, ho, hd⟩, hr⟩ := hl
      have hL : L ∈ X.fs := hs L (by unfold frs; rw [List.filterMap_cons, hf]; exact List.mem_cons_self)
      obtain ⟨sl, e⟩ := I.base.slot L o ho (I.ok.frf L hL) hL fun z => I.ok.exfs L z hL
      exact ⟨hk, ⟨L, _, hf, hn, e, hd⟩, ih (fun b hb => hs b (by unfold frs; rw [List.filterMap_cons, hf]; exact List.mem_cons_of_mem _ hb)) hr⟩
  exact all X.outer (fun _ hb => hb) I.ok.funs

/-- the frames that run, for a call -/
theorem Inv.stack (I : Inv X pins σ H s) : s.heap.FunFrames X.base X.stack := by
  rcases I.ok.stk with e | ⟨e, hf⟩
  · rw [e]; exact I.funs
  · rw [e]
    obtain ⟨m, hn, _⟩ := I.loc
    refine .cons (by rw [I.ok.kind]; decide) hf hn ?_ I.funs
    exact Heap.get?_none_of_le (Nat.le_trans I.ok.bsz I.ok.above)
theorem Inv.stkSub (I : Inv X pins σ H s) : ∀ b ∈ frs X.stack, b ∈ X.env.locals :: X.fs := fun b hb => by
  rcases I.ok.stk with e | ⟨e, hf⟩
  · rw [e] at hb; exact List.mem_cons_of_mem _ hb
  · rw [e] at hb
    unfold frs at hb
    rw [List.filterMap_cons, hf] at hb
    exact hb
theorem Inv.stkFree (I : Inv X pins σ H s) : ∀ b ∈ frs X.stack, H b = none := fun b hb => by
  rcases List.mem_cons.mp (I.stkSub b hb) with e | hb
  · rw [e]; exact I.free
  · obtain ⟨_, o, ho, _⟩ := I.ok.funs.mem hb
    exact I.base.free b o ho (I.ok.frf b hb) fun z => I.ok.exfs b z hb

/-- THE STEP: the untracked objects but the frame and the records at ch are kept (the callers' frames up to slots), the frame's map is kept, the new abstract heap is held -/
theorem Inv.step {g' : Array GenState} {t' : Nat} {d' : Drawn} {ch : List Addr} (I : Inv X pins σ H s)
    (hch : ∀ b ∈ ch, (b ∈ X.ex ∨ X.s_0.heap.objs.size ≤ b) ∧ b ≠ X.env.locals ∧ (∀ x c, X.env.cells.lookup x = some c → c ≠ b) ∧ ∀ p ∈ X.pn ++ pins, p.1 ≠ b)
    (keep : ∀ b o, b ≠ X.env.locals → b ∉ X.fs → b ∉ ch → s.heap.get? b = some o → H b = none → h'.get? b = some o)
    (slot : ∀ b o, b ≠ X.env.locals → b ∈ X.fs → b ∉ ch → s.heap.get? b = some o → H b = none → ∃ sl, h'.get? b = some { o with slots := sl }) (free : ∀ b o, b ∉ ch → s.heap.get? b = some o → H b = none → H' b = none)
    (there : ∀ b o, b ∉ ch → s.heap.get? b = some o → ∃ o', h'.get? b = some o')
    (tups : ∀ b xs, H b = some (.tup xs) → H' b = some (.tup xs)) (frzs : ∀ b o u, H b = some (.frz o u) → H' b = some (.frz o u)) (tbls : ∀ b ps, H b = some (.tbl ps) → ∃ more, H' b = some (.tbl (ps ++ more)))
    (ns : ∀ m, s.heap.Ns X.env.locals m → h'.Ns X.env.locals m) (hok : HOk X.prog X.w H' h') (hg : AllBare g') :
    Inv X pins σ H' { s with heap := h', gens := g', drawn := d', toks := t' } := by
  have neL : ∀ b o, X.s_0.heap.get? b = some o → b ≠ X.env.locals := fun b o e => Nat.ne_of_lt (Nat.lt_of_lt_of_le (Heap.lt_size e) I.ok.above)
  have neC : ∀ b o, X.s_0.heap.get? b = some o → b ∉ X.ex → b ∉ ch := fun b o e hx hb => by
    rcases (hch b hb).1 with z | z
    · exact hx z
    · exact absurd (Nat.lt_of_lt_of_le (Heap.lt_size e) z) (Nat.lt_irrefl _)
  have cellK : ∀ x c, X.env.cells.lookup x = some c → ∀ v, s.heap.IsCell c v → h'.IsCell c v := fun x c e v ⟨o, ho, hd⟩ => by
    have nch : c ∉ ch := fun z => (hch c z).2.2.1 x c e rfl
    by_cases hc : c ∈ X.fs
    · obtain ⟨sl, q⟩ := slot c o (I.cne x c e) hc nch ho (I.freeC x c e)
      exact ⟨_, q, hd⟩
    · exact ⟨o, keep c o (I.cne x c e) hc nch ho (I.freeC x c e), hd⟩
  refine ⟨I.ok, I.os, hg, ⟨fun b o e n hb hx => ?_, fun b o e n hb hx => ?_, fun b o e n hx => ?_, fun b o e hx => ?_, fun b xs e => tups b xs (I.base.tups b xs e), fun b o xs e => frzs b o xs (I.base.frzs b o xs e), fun b ps e => ?_⟩, ?_, fun x c e => ?_, ?_, fun x c e => ?_, fun p hp => ?_, hok, I.len⟩
  · exact keep b o (neL b o e) hb (neC b o e hx) (I.base.keep b o e n hb hx) (I.base.free b o e n hx)
  · obtain ⟨sl, e1⟩ := I.base.slot b o e n hb hx
    obtain ⟨sl', e2⟩ := slot b _ (neL b o e) hb (neC b o e hx) e1 (I.base.free b o e n hx)
    exact ⟨sl', e2⟩
  · obtain ⟨o', e1⟩ := I.base.there b o e hx
    exact free b o' (neC b o e hx) e1 (I.base.free b o e n hx)
  · obtain ⟨o', e1⟩ := I.base.there b o e hx
    exact there b o' (neC b o e hx) e1
  · obtain ⟨m1, e1⟩ := I.base.tbls b ps e
    obtain ⟨m2, e2⟩ := tbls b _ e1
    exact ⟨m1 ++ m2, by rw [e2, Array.append_assoc]⟩
  · obtain ⟨m, hn, hl⟩ := I.loc
    refine ⟨m, ns m hn, fun i x v e1 e2 e3 => ?_⟩
    obtain ⟨u, r, l⟩ := hl i x v e1 e2 e3
    refine ⟨u, r, ?_⟩
    rcases l with l | ⟨k, c, e, z⟩
    · exact .inl l
    · exact .inr ⟨k, c, e, cellK x c e _ z⟩
  · obtain ⟨v, z⟩ := I.cell x c e
    exact ⟨v, cellK x c e v z⟩
  · obtain ⟨m, ⟨o, _, _, ho, _⟩, _⟩ := I.loc
    exact free _ o (fun z => (hch _ z).2.1 rfl) ho I.free
  · obtain ⟨v, o, ho, hd⟩ := I.cell x c e
    exact free c o (fun z => (hch c z).2.2.1 x c e rfl) ho (I.freeC x c e)
  · obtain ⟨e, n, ne, nf, d⟩ := I.pin p hp
    have nch : p.1 ∉ ch := fun z => (hch p.1 z).2.2.2 p hp rfl
    exact ⟨keep p.1 p.2 ne nf nch e n, free p.1 p.2 nch e n, ne, nf, d⟩
/-- .. where the frame's own object is kept too -/
theorem Inv.un {t' : Nat} (I : Inv X pins σ H s) (u : Un X.fs [] H H' s.heap h') (hok : HOk X.prog X.w H' h') : Inv X pins σ H' { s with heap := h', toks := t' } := by
  obtain ⟨m, ⟨o, es, ep, ho, r⟩, _⟩ := id I.loc
  obtain ⟨sl, hL⟩ := u.any ho I.free (by simp)
  exact I.step (g' := s.gens) (d' := s.drawn) (ch := []) (fun _ z => nomatch z) (fun b o _ hb _ e n => u.keep b o e n hb (by simp)) (fun b o _ hb _ e n => u.slot b o e n hb (by simp)) (fun b o _ e n => u.free b o e n (by simp)) (fun b o _ e => u.there b o e (by simp)) u.tups u.frzs u.tbls (fun m' hm => by
    obtain ⟨o', es', ep', ho', r'⟩ := hm
    rw [ho] at ho'; cases ho'
    exact ⟨_, es', ep', hL, r'⟩) hok I.bare
/-- behind a call (or a comprehension's block): the slots of this frame may have changed too, the records at ch may have turned -/
theorem Inv.call {g' : Array GenState} {t' : Nat} {d' : Drawn} {ch : List Addr} (I : Inv X pins σ H s) (u : Un (frs X.stack) ch H H' s.heap h') (hok : HOk X.prog X.w H' h') (hg : AllBare g')
    (hch : ∀ b ∈ ch, (b ∈ X.ex ∨ X.s_0.heap.objs.size ≤ b) ∧ b ≠ X.env.locals ∧ (∀ x c, X.env.cells.lookup x = some c → c ≠ b) ∧ ∀ p ∈ X.pn ++ pins, p.1 ≠ b) :
    Inv X pins σ H' { s with heap := h', gens := g', drawn := d', toks := t' } := by
  obtain ⟨m, ⟨o, es, ep, ho, r⟩, _⟩ := id I.loc
  obtain ⟨sl, hL⟩ := u.any ho I.free fun z => (hch _ z).2.1 rfl
  exact I.step (ch := ch) hch (fun b o hL hb hc e n => u.keep b o e n (fun z => (List.mem_cons.mp (I.stkSub b z)).elim hL hb) hc) (fun b o _ _ hc e n => u.any e n hc) (fun b o hc e n => u.free b o e n hc) (fun b o hc e => u.there b o e hc) u.tups u.frzs u.tbls (fun m' hm => by
    obtain ⟨o', es', ep', ho', r'⟩ := hm
    rw [ho] at ho'; cases ho'
    exact ⟨_, es', ep', hL, r'⟩) hok hg
/-- an untracked record of ours (an iterator) has turned -/
theorem Inv.turned {t' : Nat} {it : Addr} (I : Inv X pins σ H s) (k : ∀ b o, b ≠ it → s.heap.get? b = some o → h'.get? b = some o) (hn : H it = none) (hL : it ≠ X.env.locals)
    (h1 : it ∈ X.ex ∨ X.s_0.heap.objs.size ≤ it) (h2 : ∀ x c, X.env.cells.lookup x = some c → c ≠ it) (h3 : ∀ p ∈ X.pn ++ pins, p.1 ≠ it) : Inv X pins σ H { s with heap := h', toks := t' } := by
  have nit : ∀ b u, H b = some u → b ≠ it := fun b u e z => by rw [z, hn] at e; cases e
  refine I.step (g' := s.gens) (d' := s.drawn) (ch := [it]) (fun b hb => ?_) (fun b o _ _ hc e _ => k b o (fun z => hc (by simp [z])) e) (fun b o _ _ hc e _ => ⟨o.slots, k b o (fun z => hc (by simp [z])) e⟩) (fun _ _ _ _ n => n)
    (fun b o hc e => ⟨o, k b o (fun z => hc (by simp [z])) e⟩) (fun _ _ e => e) (fun _ _ _ e => e) (fun b ps e => ⟨#[], by rw [e]; simp⟩) (fun m hm => ?_) (fun b u e => ?_) I.bare
  · have e : b = it := by simpa using hb
    subst e
    exact ⟨h1, hL, h2, h3⟩
  · obtain ⟨o, es, ep, ho, r⟩ := hm
    exact ⟨o, es, ep, k _ o (Ne.symm hL) ho, r⟩
  · refine (I.hok b u e).stay (fun c v hc q => k c v ?_ q) (fun _ q => q) fun _ _ q => q
    rcases hc with z | z
    · rw [z]; exact nit b u e
    · exact nit c _ z
theorem Inv.tok (I : Inv X pins σ H s) (t : Nat) : Inv X pins σ H { s with toks := t } := I.un (h' := s.heap) (t' := t) Un.refl I.hok
/-- all objects kept -/
theorem Inv.kept {t' : Nat} (I : Inv X pins σ H s) (k : ∀ b u, s.heap.get? b = some u → h'.get? b = some u) : Inv X pins σ H { s with heap := h', toks := t' } := I.un (Un.kept k) (I.hok.kept k)
/-- a new object laid and tracked -/
theorem Inv.laid {a : Addr} {o : HO} {t' : Nat} (I : Inv X pins σ H s) (k : ∀ b u, s.heap.get? b = some u → h'.get? b = some u) (hp : s.heap.objs.size ≤ a) (new : ObjOk X.prog X.w (upd H a o) h' a o) :
    Inv X pins σ (upd H a o) { s with heap := h', toks := t' } := I.un (Un.laid k hp (I.hok.fresh hp)) (I.hok.laid k hp new)
/-- an object written -/
theorem Inv.write {x e : Addr} {o : HO} {t' : Nat} (I : Inv X pins σ H s) (mu : Mut (H x)) (he : e = x ∨ H e = some (.own x)) (k : ∀ b u, b ≠ e → s.heap.get? b = some u → h'.get? b = some u) (heo : ∃ u, h'.get? e = some u)
    (new : ObjOk X.prog X.w (upd H x o) h' x o) : Inv X pins σ (upd H x o) { s with heap := h', toks := t' } := I.un (Un.write mu he k heo) (I.hok.write mu he k heo new)
/-- forgetting slots, pins -/
theorem Inv.weak {σ' : List (Option V)} (I : Inv X pins σ H s) (hl : σ'.length = σ.length) (w : ∀ (i : Nat) v, σ'[i]? = some (some v) → σ[i]? = some (some v)) : Inv X pins σ' H s :=
  ⟨I.ok, I.os, I.bare, I.base, let ⟨m, hn, hl'⟩ := I.loc; ⟨m, hn, fun i x v e1 e2 e3 => hl' i x v e1 (w i v e2) e3⟩, I.cell, I.free, I.freeC, I.pin, I.hok, hl.trans I.len⟩
theorem Inv.pins_of {pins' : List (Addr × Obj)} (I : Inv X pins σ H s) (h : ∀ p ∈ pins', s.heap.get? p.1 = some p.2 ∧ H p.1 = none ∧ p.1 ≠ X.env.locals ∧ p.1 ∉ X.fs ∧ ∀ v, p.2.data ≠ .cell v) : Inv X pins' σ H s :=
  ⟨I.ok, I.os, I.bare, I.base, I.loc, I.cell, I.free, I.freeC, fun p hp => (List.mem_append.mp hp).elim (fun z => I.pin p (List.mem_append_left _ z)) (h p), I.hok, I.len⟩

theorem nodup_ix {N : List Str} (hN : N.Nodup) {i j : Nat} {x : Str} (a : N[i]? = some x) (b : N[j]? = some x) : i = j := by
  obtain ⟨h1, e1⟩ := List.getElem?_eq_some_iff.mp a
  obtain ⟨h2, e2⟩ := List.getElem?_eq_some_iff.mp b
  exact (List.getElem_inj hN).mp (e1.trans e2.symm)

/-- a name is stored; what changed -/
theorem store_ok2 {M : Model} {A : Around} {E : Value → Shared → Prop} {i : Nat} {x : Str} {v : V} {u : Value} {Q : Unit → Shared → Prop} (I : Inv X pins σ H s) (hN : X.N.Nodup) (hi : X.N[i]? = some x) (hx : Loc X.env.scope x) (r : RelV v u)
    (h : ∀ s', Inv X pins (σ.set i (some v)) H s' → (∃ a, Heap.SameBut a s.heap s'.heap ∧ (a = X.env.locals ∨ X.env.cells.lookup x = some a)) → Q () s') (hf : X.fn x = true ∨ X.env.scope.names.lookup x = some .local := by first | exact .inl rfl | exact .inr rfl | assumption) : wpAny M A (storeName X.env x u) Q E s := by
  obtain ⟨m, hn, hl⟩ := id I.loc
  have hcls : (X.env.scope.kind == .class || (X.env.scope.kind == .module && X.env.locals != X.env.globals)) = false := by rw [I.ok.kind]; rfl
  have hiσ : i < σ.length := by rw [I.len]; exact (List.getElem?_eq_some_iff.mp hi).1
  have cne := I.cne
  have tracked : ∀ {a : Addr} {h' : Heap}, (∃ o, s.heap.get? a = some o ∧ H a = none) → Heap.SameBut a s.heap h' → HOk X.prog X.w H h' := fun {a h'} ha hs b ob e => by
    obtain ⟨_, _, hfree⟩ := ha
    refine (I.hok b ob e).stay (fun c w' hc q => (hs.2 c ?_).trans q) (fun _ q => q) fun _ _ q => q
    rintro rfl
    rcases hc with rfl | hc
    · rw [hfree] at e; cases e
    · rw [hfree] at hc; cases hc
  rcases hx with hk | hk
  · refine wpAny_storeName_local hk hn (fun h' hn' hs => ?_) hcls
    obtain ⟨oL, _, _, hoL, _⟩ := id hn
    refine h _ ⟨I.ok, I.os, I.bare, ⟨fun b o e n hb hx => ?_, fun b o e n hb hx => ?_, I.base.free, fun b o e hx => ?_, I.base.tups, I.base.frzs, I.base.tbls⟩, ⟨_, hn', fun j y v' e1 e2 e3 => ?_⟩, fun y c e => ?_, I.free, I.freeC, fun p hp => ?_, tracked ⟨oL, hoL, I.free⟩ hs, by simpa using I.len⟩ ⟨_, hs, .inl rfl⟩
    · exact (hs.2 b (Nat.ne_of_lt (Nat.lt_of_lt_of_le (Heap.lt_size e) I.ok.above))).trans (I.base.keep b o e n hb hx)
    · obtain ⟨sl, e1⟩ := I.base.slot b o e n hb hx
      exact ⟨sl, (hs.2 b (Nat.ne_of_lt (Nat.lt_of_lt_of_le (Heap.lt_size e) I.ok.above))).trans e1⟩
    · obtain ⟨o', e1⟩ := I.base.there b o e hx
      exact ⟨o', (hs.2 b (Nat.ne_of_lt (Nat.lt_of_lt_of_le (Heap.lt_size e) I.ok.above))).trans e1⟩
    · by_cases hj : j = i
      · subst hj
        rw [hi] at e1; cases e1
        rw [List.getElem?_set_self hiσ] at e2
        cases e2
        exact ⟨u, r, .inl ⟨hk, by simp⟩⟩
      · rw [List.getElem?_set_ne (Ne.symm hj)] at e2
        obtain ⟨u', r', q⟩ := hl j y v' e1 e2 e3
        refine ⟨u', r', ?_⟩
        rcases q with ⟨k, e⟩ | ⟨k, c, e, z⟩
        · refine .inl ⟨k, ?_⟩
          have : y ≠ x := fun e => hj (nodup_ix hN e1 (e ▸ hi))
          simp [this, e]
        · exact .inr ⟨k, c, e, z.sameBut hs (cne y c e)⟩
    · obtain ⟨w', z⟩ := I.cell y c e
      exact ⟨w', z.sameBut hs (cne y c e)⟩
    · obtain ⟨e, n, ne, nf, d⟩ := I.pin p hp
      exact ⟨(hs.2 p.1 ne).trans e, n, ne, nf, d⟩
  · have hfn : X.fn x = true := by
      rcases hf with z | z
      · exact z
      · rw [z] at hk; cases hk
    obtain ⟨c, hc⟩ := I.ok.has x (.inl hk)
    obtain ⟨w', z⟩ := I.cell x c hc
    refine wpAny_storeName_cell I.ok.kind hk hc z (fun h' hc' hs => ?_)
    obtain ⟨oc, hoc, hocd⟩ := id z
    refine h { s with heap := h' } ⟨I.ok, I.os, I.bare, ⟨fun b o e n hb hx => ?_, fun b o e n hb hx => ?_, I.base.free, fun b o e hx => ?_, I.base.tups, I.base.frzs, I.base.tbls⟩, ⟨m, hn.sameBut hs (Ne.symm (cne x c hc)), fun j y v' e1 e2 e3 => ?_⟩, fun y c' e => ?_, I.free, I.freeC, fun p hp => ?_, tracked ⟨oc, hoc, I.freeC x c hc⟩ hs, by simpa using I.len⟩ ⟨c, hs, .inr hc⟩
    · exact (hs.2 b (Nat.ne_of_lt (Nat.lt_of_lt_of_le (Heap.lt_size e) (I.ok.cab x c hfn hc)))).trans (I.base.keep b o e n hb hx)
    · obtain ⟨sl, e1⟩ := I.base.slot b o e n hb hx
      exact ⟨sl, (hs.2 b (Nat.ne_of_lt (Nat.lt_of_lt_of_le (Heap.lt_size e) (I.ok.cab x c hfn hc)))).trans e1⟩
    · obtain ⟨o', e1⟩ := I.base.there b o e hx
      exact ⟨o', (hs.2 b (Nat.ne_of_lt (Nat.lt_of_lt_of_le (Heap.lt_size e) (I.ok.cab x c hfn hc)))).trans e1⟩
    · by_cases hj : j = i
      · subst hj
        rw [hi] at e1; cases e1
        rw [List.getElem?_set_self hiσ] at e2
        cases e2
        exact ⟨u, r, .inr ⟨.inl hk, c, hc, hc'⟩⟩
      · rw [List.getElem?_set_ne (Ne.symm hj)] at e2
        obtain ⟨u', r', q⟩ := hl j y v' e1 e2 e3
        refine ⟨u', r', ?_⟩
        rcases q with q | ⟨k, c', e, z'⟩
        · exact .inl q
        · refine .inr ⟨k, c', e, z'.sameBut hs ?_⟩
          rintro rfl
          exact hj (nodup_ix hN e1 (I.ok.inj _ _ _ e hc ▸ hi))
    · by_cases hcc : c' = c
      · subst hcc; exact ⟨_, hc'⟩
      · obtain ⟨w2, z2⟩ := I.cell y c' e
        exact ⟨w2, z2.sameBut hs hcc⟩
    · obtain ⟨e, n, ne, nf, d⟩ := I.pin p hp
      refine ⟨(hs.2 p.1 ?_).trans e, n, ne, nf, d⟩
      intro q
      rw [q, hoc] at e
      have q' : oc = p.2 := Option.some.inj e
      exact d w' (by rw [← q']; exact hocd)
theorem store_ok {M : Model} {A : Around} {E : Value → Shared → Prop} {i : Nat} {x : Str} {v : V} {u : Value} {Q : Unit → Shared → Prop} (I : Inv X pins σ H s) (hN : X.N.Nodup) (hi : X.N[i]? = some x) (hx : Loc X.env.scope x) (r : RelV v u)
    (h : ∀ s', Inv X pins (σ.set i (some v)) H s' → Q () s') (hf : X.fn x = true ∨ X.env.scope.names.lookup x = some .local := by first | exact .inl rfl | exact .inr rfl | assumption) : wpAny M A (storeName X.env x u) Q E s :=
  store_ok2 I hN hi hx r (fun s' I' _ => h s' I') hf
/-- behind a call or a block, the state as it is -/
theorem Inv.call' {s' : Shared} {ch : List Addr} (I : Inv X pins σ H s) (ho : s'.os = s.os) (u : Un (frs X.stack) ch H H' s.heap s'.heap) (hok : HOk X.prog X.w H' s'.heap) (hg : AllBare s'.gens)
    (hch : ∀ b ∈ ch, (b ∈ X.ex ∨ X.s_0.heap.objs.size ≤ b) ∧ b ≠ X.env.locals ∧ (∀ x c, X.env.cells.lookup x = some c → c ≠ b) ∧ ∀ p ∈ X.pn ++ pins, p.1 ≠ b) : Inv X pins σ H' s' := by
  obtain ⟨h', g', d', t', o'⟩ := s'
  have e : o' = s.os := ho
  subst e
  exact I.call (g' := g') (t' := t') (d' := d') u hok hg hch
end

/-- an exception: its class, its own dict's address (where it has one), the abstract heap behind it -/
abbrev XK := Value → Option Addr → Hp → Prop
abbrev St := List (Option V)
abbrev VK := V → Hp → Prop
/-- an expression's reading; a test's; an argument list's -/
abbrev TE := St → Hp → VK → Prop
abbrev TT := St → Hp → (Bool → Hp → Prop) → Prop
abbrev TA := St → Hp → (List V → Hp → Prop) → Prop
/-- what is wanted behind a statement -/
structure Ends where
  nx : St → Hp → Prop
  rt : VK
  bk : St → Hp → Prop := fun _ _ => False
  ct : St → Hp → Prop := fun _ _ => False
abbrev TS := Ends → St → Hp → Prop

def EP (X : Cx) (pins : List (Addr × Obj)) (σ : St) (Q : VK) (u : Value) (s' : Shared) : Prop := ∃ v H', Inv X pins σ H' s' ∧ RelV v u ∧ Q v H'
def TP (X : Cx) (pins : List (Addr × Obj)) (σ : St) (Q : Bool → Hp → Prop) (b : Bool) (s' : Shared) : Prop := ∃ H', Inv X pins σ H' s' ∧ Q b H'
def AP (X : Cx) (pins : List (Addr × Obj)) (σ : St) (Q : List V → Hp → Prop) (us : List Value) (s' : Shared) : Prop := ∃ vs H', Inv X pins σ H' s' ∧ Vals vs us ∧ Q vs H'
def SP (X : Cx) (pins : List (Addr × Obj)) (D : Ends) (f : Flow) (s' : Shared) : Prop :=
  match f with
  | .next => ∃ σ' H', Inv X pins σ' H' s' ∧ D.nx σ' H'
  | .brk => ∃ σ' H', Inv X pins σ' H' s' ∧ D.bk σ' H'
  | .cont => ∃ σ' H', Inv X pins σ' H' s' ∧ D.ct σ' H'
  | .ret u => ∃ v σ' H', Inv X pins σ' H' s' ∧ RelV v u ∧ D.rt v H'

def PE (X : Cx) (e : Expr) (t : TE) : Prop :=
  ∀ (pins : List (Addr × Obj)) (s : Shared) (σ : St) (H : Hp) (Q : VK), Inv X pins σ H s → t σ H Q → wpAny (model X.prog X.w) X.A (eval e X.env) (EP X pins σ Q) X.xe s
def PT (X : Cx) (e : Expr) (t : TT) : Prop :=
  ∀ (pins : List (Addr × Obj)) (s : Shared) (σ : St) (H : Hp) (Q : Bool → Hp → Prop), Inv X pins σ H s → t σ H Q → wpAny (model X.prog X.w) X.A (isTrue e X.env (eval e X.env)) (TP X pins σ Q) X.xe s
/-- a test whatever its 'whole' is (and, or) -/
def PW (X : Cx) (e : Expr) (t : TT) : Prop :=
  ∀ (whole : Sem Value) (pins : List (Addr × Obj)) (s : Shared) (σ : St) (H : Hp) (Q : Bool → Hp → Prop), Inv X pins σ H s → t σ H Q → wpAny (model X.prog X.w) X.A (isTrue e X.env whole) (TP X pins σ Q) X.xe s
theorem PW.pt {X : Cx} {e : Expr} {t : TT} (h : PW X e t) : PT X e t := h _
/-- an argument list (no star), from the left -/
def PA (X : Cx) (es : List Expr) (t : TA) : Prop :=
  ∀ (pos : Pos) (pins : List (Addr × Obj)) (s : Shared) (σ : St) (H : Hp) (Q : List V → Hp → Prop), Inv X pins σ H s → t σ H Q → wpAny (model X.prog X.w) X.A (spliced (backTo pos (starEach es X.env))) (AP X pins σ Q) X.xe s
def PS (X : Cx) (st : Stmt) (t : TS) : Prop :=
  ∀ (pins : List (Addr × Obj)) (s : Shared) (σ : St) (H : Hp) (D : Ends), Inv X pins σ H s → t D σ H → wpAny (model X.prog X.w) X.A (exec st X.env) (SP X pins D) X.xe s
def PSs (X : Cx) (st : List Stmt) (t : TS) : Prop :=
  ∀ (pins : List (Addr × Obj)) (s : Shared) (σ : St) (H : Hp) (D : Ends), Inv X pins σ H s → t D σ H → wpAny (model X.prog X.w) X.A (execs st X.env) (SP X pins D) X.xe s
/-- weaken the end -/
theorem thn {α : Type} {t : Sem α} {Q Q' : α → Shared → Prop} {M : Model} {A : Around} {E : Value → Shared → Prop} {s : Shared} (h : wpAny M A t Q E s) (hQ : ∀ a s, Q a s → Q' a s) : wpAny M A t Q' E s := wpAny_mono h hQ fun _ _ x => x
end L2

namespace L2
open PySem PySem.Spec PyProof.Rows
section
variable {X : Cx}

def tVar (i : Nat) : TE := fun σ H Q => ∃ v, σ[i]? = some (some v) ∧ Q v H
def tC (v : V) : TE := fun _ H Q => Q v H
theorem pe_var {i : Nat} {x : Str} {pos : Pos} (hN : X.N[i]? = some x) (hv : Vis X.env.scope x) (hd : (x == ("__debug__" : Str)) = false := by decide) (hcd : (x == ("__classdict__" : Str)) = false := by decide) : PE X (.Name x pos) (tVar i) := by
  intro pins s σ H Q I h
  obtain ⟨v, e, h⟩ := h
  obtain ⟨m, hn, hl⟩ := I.loc
  obtain ⟨u, r, l⟩ := hl i x v hN e hv
  have fin : EP X pins σ Q u s := ⟨v, H, I, r, h⟩
  rcases l with ⟨hk, hm⟩ | ⟨hk, c, hc, hcell⟩
  · exact wpAny_Name (wpAny_loadName_local I.ok.kind hk hn hm fin) hd
  · rcases hk with hk | hk
    · exact wpAny_Name (wpAny_loadName_cell I.ok.kind hk hc hcell fin) hd
    · exact wpAny_Name (wpAny_loadName_free I.ok.kind hk hc hcell fin hcd) hd
theorem pe_int {i j pos} : PE X (.Constant (.int i) j pos) (tC (.int i)) := fun _ _ _ H _ I h => wpAny_Constant_int ⟨.int i, H, I.tok _, ⟨_, rfl⟩, h⟩
theorem pe_bl {b j pos} : PE X (.Constant (.bool b) j pos) (tC (.bl b)) := fun _ _ _ H _ I h => Constant_bool ⟨.bl b, H, I, rfl, h⟩
theorem pe_str {x j pos} : PE X (.Constant (.str x) j pos) (tC (.str x)) := fun _ _ _ H _ I h => Calls.Constant_str ⟨.str x, H, I.tok _, ⟨_, rfl⟩, h⟩

/-- a global name of the def -/
def Gl (X : Cx) (x : Str) : Prop := X.env.kindOf x = some .globalImplicit
theorem ld_glob {E : Value → Shared → Prop} {pins : List (Addr × Obj)} {s : Shared} {σ : St} {H : Hp} {x : Str} {u : Value} {pos : Pos} {Q : Value → Shared → Prop} (I : Inv X pins σ H s) (hg : Gl X x) (hm : X.mg x = some u) (h : Q u s)
    (hd : (x == ("__debug__" : Str)) = false := by decide) : wpAny (model X.prog X.w) X.A (eval (.Name x pos) X.env) Q E s :=
  Calls.Name_function_global I.ok.kind hg (Calls.loadGlobal_global (by rw [I.ok.glob]; exact I.mod.glob.keeps I.bk) hm h) hd
theorem ld_blt {E : Value → Shared → Prop} {pins : List (Addr × Obj)} {s : Shared} {σ : St} {H : Hp} {x : Str} {u : Value} {pos : Pos} {Q : Value → Shared → Prop} (I : Inv X pins σ H s) (hg : Gl X x) (hm : X.mg x = none) (hv : bootBuiltins x = some u) (h : Q u s)
    (hn : x ≠ "__name__" := by decide) (hd : (x == ("__debug__" : Str)) = false := by decide) : wpAny (model X.prog X.w) X.A (eval (.Name x pos) X.env) Q E s := by
  obtain ⟨mb, h1, h2⟩ := I.mod.blt
  exact Calls.Name_function_global I.ok.kind hg (Calls.loadGlobal_builtin (by rw [I.ok.glob]; exact I.mod.glob.keeps I.bk) hm (by rw [I.ok.blt]; exact h1.keeps I.bk) ((h2 x hn).trans hv) h) hd
/-- a module's constant, a class, a function, as a value -/
theorem pe_glob {x : Str} {v : V} {u : Value} {pos : Pos} (hg : Gl X x) (hm : X.mg x = some u) (r : RelV v u) (hd : (x == ("__debug__" : Str)) = false := by decide) : PE X (.Name x pos) (tC v) :=
  fun _ _ _ H _ I h => ld_glob I hg hm ⟨v, H, I, r, h⟩ hd
theorem pe_bltn {x : Str} {v : V} {u : Value} {pos : Pos} (hg : Gl X x) (hm : X.mg x = none) (hv : bootBuiltins x = some u) (r : RelV v u) (hn : x ≠ "__name__" := by decide) (hd : (x == ("__debug__" : Str)) = false := by decide) : PE X (.Name x pos) (tC v) :=
  fun _ _ _ H _ I h => ld_blt I hg hm hv ⟨v, H, I, r, h⟩ hn hd

variable {a b : Expr} {ta tb : TE} {pos : Pos}
/-- a comparison as a value, as a test -/
def tB (t : TE) : TT := fun σ H Q => t σ H fun x H1 => ∃ c, x = .bl c ∧ Q c H1
/-- an expression whose value is a bool, as a test -/
theorem pt_val {e : Expr} {t : TE} (h : PE X e t) (he : ∀ whole, isTrue e X.env whole = (do let v ← whole; standAt e.pos; holding [v] (truthy v)) := by intro _; rfl) : PT X e (tB t) := by
  intro pins s σ H Q I hw
  refine isTrue_plain (thn (h pins s σ H _ I hw) fun v s1 ⟨x, H1, I1, r1, q1⟩ => ?_) (he _)
  obtain ⟨d, rfl, q⟩ := q1
  cases r1
  exact wpAny_truthy_bool ⟨H1, I1, q⟩

variable {tA tB' : TT} {rest : List Expr}
def tAnd (t u : TT) : TT := fun σ H Q => t σ H fun c H1 => if c = true then u σ H1 Q else Q false H1
def tOr (t u : TT) : TT := fun σ H Q => t σ H fun c H1 => if c = true then Q true H1 else u σ H1 Q
def tNot (t : TT) : TT := fun σ H Q => t σ H fun c H1 => Q (!c) H1
theorem pw_and1 (ha : PT X a tA) : PW X (.BoolOp .And [a] pos) tA := by
  intro wh pins s σ H Q I h
  refine isTrue_and (thn (ha pins s σ H Q I h) fun c s1 e => ?_)
  cases c with
  | true => exact isTrue_and_nil e
  | false => exact e
theorem pw_or1 (ha : PT X a tA) : PW X (.BoolOp .Or [a] pos) tA := by
  intro wh pins s σ H Q I h
  refine isTrue_or (thn (ha pins s σ H Q I h) fun c s1 e => ?_)
  cases c with
  | false => exact isTrue_or_nil e
  | true => exact e
theorem pw_and (ha : PT X a tA) (hb : PW X (.BoolOp .And (b :: rest) pos) tB') : PW X (.BoolOp .And (a :: b :: rest) pos) (tAnd tA tB') := by
  intro wh pins s σ H Q I h
  refine isTrue_and (thn (ha pins s σ H _ I h) fun c s1 ⟨H1, I1, q1⟩ => ?_)
  cases c with
  | true => exact hb wh pins s1 σ H1 Q I1 q1
  | false => exact ⟨H1, I1, q1⟩
theorem pw_or (ha : PT X a tA) (hb : PW X (.BoolOp .Or (b :: rest) pos) tB') : PW X (.BoolOp .Or (a :: b :: rest) pos) (tOr tA tB') := by
  intro wh pins s σ H Q I h
  refine isTrue_or (thn (ha pins s σ H _ I h) fun c s1 ⟨H1, I1, q1⟩ => ?_)
  cases c with
  | true => exact ⟨H1, I1, q1⟩
  | false => exact hb wh pins s1 σ H1 Q I1 q1
theorem pt_not (ha : PT X a tA) : PT X (.UnaryOp .Not a pos) (tNot tA) := by
  intro pins s σ H Q I h
  exact isTrue_not (ha pins s σ H (fun c H1 => Q (!c) H1) I h)
/-- .. as values (bools) -/
def tAndV (ta tb : TE) : TE := fun σ H Q => ta σ H fun x H1 => ∃ c, x = .bl c ∧ if c = true then tb σ H1 Q else Q (.bl false) H1
theorem pe_one {op} {t : TE} (h : PE X a t) : PE X (.BoolOp op [a] pos) t := fun pins s σ H Q I hw => BoolOp_one (h pins s σ H Q I hw)
theorem pe_and (ha : PE X a ta) (hb : PE X (.BoolOp .And (b :: rest) pos) tb) : PE X (.BoolOp .And (a :: b :: rest) pos) (tAndV ta tb) := by
  intro pins s σ H Q I h
  refine BoolOp_and (thn (ha pins s σ H _ I h) fun v s1 ⟨x, H1, I1, r1, q1⟩ => ?_)
  obtain ⟨c, rfl, q1⟩ := q1
  cases r1
  refine wpAny_truthy_bool ?_
  cases c with
  | true => exact hb pins s1 σ H1 Q I1 q1
  | false => exact ⟨.bl false, H1, I1, rfl, q1⟩
end
end L2

namespace L2
open PySem PySem.Spec PyProof.Rows

def SqL (K : PySem.W.Frag) (H : Hp) (a : Addr) (xs : List V) : Prop :=
  Rd H a (.lst xs) ∨
    ∃ (o : Obj) (its : Array Value) (n : Nat), K.lookup a = some o ∧ o.cls = .type "list" ∧ o.dict = none ∧ o.data = .seq its n ∧ its.size ≤ sizeLine ∧ Vals xs its.toList
def SqT (K : PySem.W.Frag) (H : Hp) (a : Addr) (xs : List V) : Prop :=
  Rd H a (.tup xs) ∨
    ∃ (o : Obj) (its : Array Value) (n : Nat), K.lookup a = some o ∧ o.cls = .type "tuple" ∧ o.data = .seq its n ∧ its.size ≤ sizeLine ∧ Vals xs its.toList
def absV : Value → Option V
  | .none => some .non
  | .bool b => some (.bl b)
  | .int i _ => some (.int i)
  | .str x _ => some (.str x)
  | .bytes b _ => some (.byt b)
  | .float b _ => some (.flt b)
  | .ref a => some (.ref a)
  | .type n => some (.ty n)
  | _ => none
theorem RelV.abs {x : V} {u : Value} (r : RelV x u) : absV u = some x := by
  cases x with
  | non => cases r; rfl
  | bl _ => cases r; rfl
  | int _ => obtain ⟨t, rfl⟩ := r; rfl
  | str _ => obtain ⟨t, rfl⟩ := r; rfl
  | byt _ => obtain ⟨t, rfl⟩ := r; rfl
  | flt _ => obtain ⟨t, rfl⟩ := r; rfl
  | ref _ => cases r; rfl
  | ty _ => cases r; rfl
theorem RelV.inj {x y : V} {u : Value} (r : RelV x u) (q : RelV y u) : x = y := Option.some.inj (r.abs.symm.trans q.abs)
theorem Vals.inj : ∀ {xs ys : List V} {us : List Value}, Vals xs us → Vals ys us → xs = ys
  | _, _, _, .nil, .nil => rfl
  | _, _, _, .cons r t, .cons r' t' => by rw [r.inj r', Vals.inj t t']
section
variable {X : Cx} {pins : List (Addr × Obj)} {σ : St} {H : Hp} {s : Shared} {a : Addr} {xs ys : List V}
theorem SqL.of {K : PySem.W.Frag} (h : H a = some (.lst xs)) : SqL K H a xs := .inl (.inl h)
theorem SqT.of {K : PySem.W.Frag} (h : H a = some (.tup xs)) : SqT K H a xs := .inl (.inl h)
theorem Inv.list (I : Inv X pins σ H s) (h : SqL X.K H a xs) : ∃ its : List Value, Vals xs its ∧ PlainL s.heap a its.toArray ∧ xs.length ≤ sizeLine := by
  rcases h with h | ⟨o, its, n, hk, hc, hd, hs, hz, r⟩
  · obtain ⟨z, its, n, r, e⟩ := h.ok I.hok
    exact ⟨its, r, ⟨_, n, e, rfl, rfl, rfl⟩, z⟩
  · refine ⟨its.toList, r, ⟨o, n, I.kIn a o hk, hc, hd, by simpa using hs⟩, ?_⟩
    have e := r.length
    simp only [Array.length_toList] at e
    omega
theorem Inv.tuple (I : Inv X pins σ H s) (h : SqT X.K H a xs) : ∃ its : List Value, Vals xs its ∧ IsTup s.heap a its.toArray ∧ xs.length ≤ sizeLine := by
  rcases h with h | ⟨o, its, n, hk, hc, hs, hz, r⟩
  · obtain ⟨z, its, r, p⟩ := h.ok I.hok
    exact ⟨its, r, p.is, z⟩
  · refine ⟨its.toList, r, ⟨o, I.kIn a o hk, hc, n, by simpa using hs⟩, ?_⟩
    have e := r.length
    simp only [Array.length_toList] at e
    omega
theorem Inv.list_inj (I : Inv X pins σ H s) (h : SqL X.K H a xs) (h' : SqL X.K H a ys) : xs = ys := by
  obtain ⟨its, r, ⟨o, n, e, _, _, d⟩, _⟩ := I.list h
  obtain ⟨its', r', ⟨o', n', e', _, _, d'⟩, _⟩ := I.list h'
  rw [e] at e'; cases e'
  rw [d] at d'
  injection d' with d1 _
  have : its = its' := by simpa using congrArg Array.toList d1
  subst this
  exact r.inj r'
theorem Inv.tuple_inj (I : Inv X pins σ H s) (h : SqT X.K H a xs) (h' : SqT X.K H a ys) : xs = ys := by
  obtain ⟨its, r, ⟨o, e, _, n, d⟩, _⟩ := I.tuple h
  obtain ⟨its', r', ⟨o', e', _, n', d'⟩, _⟩ := I.tuple h'
  rw [e] at e'; cases e'
  rw [d] at d'
  injection d' with d1 _
  have : its = its' := by simpa using congrArg Array.toList d1
  subst this
  exact r.inj r'
end

abbrev Cx.wish (X : Cx) (E : Value → Shared → Prop) : Cx := { X with xe := E }
/-- no exception leaves -/
abbrev Cx.nox (X : Cx) : Cx := X.wish fun _ _ => False
theorem Cx.Ok.wish {X : Cx} (ok : X.Ok) (E : Value → Shared → Prop) : (X.wish E).Ok :=
  ⟨ok.mod, ok.kind, ok.glob, ok.blt, ok.above, ok.inj, ok.has, ok.cab, ok.hd, ok.frames, ok.stk, ok.exf, ok.bs, ok.bsz, ok.noex, ok.exfs, ok.funs, ok.frf⟩
theorem Cx.Ok.unwish {X : Cx} {E : Value → Shared → Prop} (ok : (X.wish E).Ok) : X.Ok :=
  ⟨ok.mod, ok.kind, ok.glob, ok.blt, ok.above, ok.inj, ok.has, ok.cab, ok.hd, ok.frames, ok.stk, ok.exf, ok.bs, ok.bsz, ok.noex, ok.exfs, ok.funs, ok.frf⟩
section
variable {X : Cx} {pins : List (Addr × Obj)} {σ : St} {H : Hp} {s : Shared} {E : Value → Shared → Prop}
theorem Inv.wish (I : Inv X pins σ H s) (E : Value → Shared → Prop) : Inv (X.wish E) pins σ H s := ⟨I.ok.wish E, I.os, I.bare, I.base, I.loc, I.cell, I.free, I.freeC, I.pin, I.hok, I.len⟩
theorem Inv.unwish (I : Inv (X.wish E) pins σ H s) : Inv X pins σ H s := ⟨I.ok.unwish, I.os, I.bare, I.base, I.loc, I.cell, I.free, I.freeC, I.pin, I.hok, I.len⟩
theorem SP.unwish {D : Ends} {f : Flow} {s' : Shared} (h : SP (X.wish E) pins D f s') : SP X pins D f s' := by
  cases f with
  | next => obtain ⟨σ', H', I, q⟩ := h; exact ⟨σ', H', I.unwish, q⟩
  | brk => obtain ⟨σ', H', I, q⟩ := h; exact ⟨σ', H', I.unwish, q⟩
  | cont => obtain ⟨σ', H', I, q⟩ := h; exact ⟨σ', H', I.unwish, q⟩
  | ret u => obtain ⟨v, σ', H', I, r, q⟩ := h; exact ⟨v, σ', H', I.unwish, r, q⟩
theorem PE.nox {e : Expr} {t : TE} (h : PE X.nox e t) : PE X e t := fun pins s σ H Q I hw =>
  wpAny_mono (h pins s σ H Q (I.wish _) hw) (fun _ _ ⟨v, H', I', r, q⟩ => ⟨v, H', I'.unwish, r, q⟩) fun _ _ z => False.elim z
theorem PT.nox {e : Expr} {t : TT} (h : PT X.nox e t) : PT X e t := fun pins s σ H Q I hw =>
  wpAny_mono (h pins s σ H Q (I.wish _) hw) (fun _ _ ⟨H', I', q⟩ => ⟨H', I'.unwish, q⟩) fun _ _ z => False.elim z
theorem PSs.nox {st : List Stmt} {t : TS} (h : PSs X.nox st t) : PSs X st t := fun pins s σ H D I hw =>
  wpAny_mono (h pins s σ H D (I.wish _) hw) (fun _ _ q => q.unwish) fun _ _ z => False.elim z
end

section
variable {X : Cx} {st : Stmt} {rest : List Stmt} {t u : TS} {e : Expr} {te : TE} {pos : Pos}
def tNext : TS := fun D σ H => D.nx σ H
def tSeq (t u : TS) : TS := fun D σ H => t { D with nx := u D } σ H
theorem pss_nil : PSs X [] tNext := fun _ _ σ H _ I h => wpAny_execs_nil ⟨σ, H, I, h⟩
theorem pss_cons (h1 : PS X st t) (h2 : PSs X rest u) : PSs X (st :: rest) (tSeq t u) := by
  intro pins s σ H D I h
  refine wpAny_execs_cons (thn (h1 pins s σ H { D with nx := u D } I h) fun f s1 q => ?_)
  cases f with
  | next =>
    obtain ⟨σ', H', I', q⟩ := q
    exact h2 pins s1 σ' H' D I' q
  | ret v => exact q
  | brk => exact q
  | cont => exact q
theorem pss_one (h1 : PS X st t) : PSs X [st] t := by
  intro pins s σ H D I h
  refine wpAny_execs_cons (thn (h1 pins s σ H D I h) fun f s1 q => ?_)
  cases f with
  | next => exact wpAny_execs_nil q
  | ret v => exact q
  | brk => exact q
  | cont => exact q
/-- in a def's body nothing is shown -/
theorem Inv.quiet {pins : List (Addr × Obj)} {σ : St} {H : Hp} {s : Shared} (I : Inv X pins σ H s) : interactive X.env = false := by simp [interactive, I.ok.kind]
/-- an expression whose value is dropped -/
def tDrop (te : TE) : TS := fun D σ H => te σ H fun _ H1 => D.nx σ H1
theorem ps_expr (he : PE X e te) (hs : swapsWith e none pos.line X.env = pure false := by rfl) : PS X (.Expr e pos) (tDrop te) := by
  intro pins s σ H D I h
  exact wpAny_Expr_any (thn (he pins s σ H _ I h) fun v s1 ⟨x, H1, I1, r1, q1⟩ => ⟨σ, H1, I1, q1⟩) I.quiet hs
def tRet (te : TE) : TS := fun D σ H => te σ H D.rt
theorem ps_ret (he : PE X e te) : PS X (.Return (some e) pos) (tRet te) := by
  intro pins s σ H D I h
  exact wpAny_Return_some (thn (he pins s σ H _ I h) fun v s1 ⟨x, H1, I1, r1, q1⟩ => ⟨x, σ, H1, I1, r1, q1⟩)
def tIfS (c : TT) (t u : TS) : TS := fun D σ H => c σ H fun b H1 => if b = true then t D σ H1 else u D σ H1
theorem ps_if {c : Expr} {a b : List Stmt} {tc : TT} (hc : PT X c tc) (ha : PSs X a t) (hb : PSs X b u) : PS X (.If c a b pos) (tIfS tc t u) := by
  intro pins s σ H D I h
  refine wpAny_If (thn (hc pins s σ H _ I h) fun d s1 ⟨H1, I1, q1⟩ => ?_)
  cases d with
  | true => exact ha pins s1 σ H1 D I1 q1
  | false => exact hb pins s1 σ H1 D I1 q1
end

abbrev TG := V → St → Hp → (St → Hp → Prop) → Prop
abbrev TGs := List V → St → Hp → (St → Hp → Prop) → Prop
def PG (X : Cx) (target : Expr) (t : TG) : Prop :=
  ∀ (pins : List (Addr × Obj)) (s : Shared) (σ : St) (H : Hp) (v : V) (u : Value) (Q : St → Hp → Prop), Inv X pins σ H s → RelV v u → t v σ H Q →
    wpAny (model X.prog X.w) X.A (assign target X.env u) (fun _ s' => ∃ σ' H', Inv X pins σ' H' s' ∧ Q σ' H') X.xe s
/-- several targets, one after another -/
def PGs (X : Cx) (ts : List Expr) (t : TGs) : Prop :=
  ∀ (pins : List (Addr × Obj)) (s : Shared) (σ : St) (H : Hp) (vs : List V) (us : List Value) (Q : St → Hp → Prop), Inv X pins σ H s → Vals vs us → t vs σ H Q →
    wpAny (model X.prog X.w) X.A (assignInOrder ((assignEach ts X.env).map (·.2)) us) (fun _ s' => ∃ σ' H', Inv X pins σ' H' s' ∧ Q σ' H') X.xe s
/-- o[i] = v, by values -/
abbrev TSet := V → V → V → Hp → (Hp → Prop) → Prop
def PSet (X : Cx) (t : TSet) : Prop :=
  ∀ (pins : List (Addr × Obj)) (s : Shared) (σ : St) (H : Hp) (o i v : V) (ov iv u : Value) (Q : Hp → Prop), Inv X pins σ H s → RelV o ov → RelV i iv → RelV v u → t o i v H Q →
    wpAny (model X.prog X.w) X.A (setItem ov iv u) (fun _ s' => ∃ H', Inv X pins σ H' s' ∧ Q H') X.xe s
section
variable {X : Cx} {pos : Pos}
def gName (i : Nat) : TG := fun v σ H Q => Q (σ.set i (some v)) H
theorem pg_name {i : Nat} {x : Str} (hN : X.N.Nodup) (hi : X.N[i]? = some x) (hx : Loc X.env.scope x) (hf : X.fn x = true ∨ X.env.scope.names.lookup x = some .local := by first | exact .inl rfl | exact .inr rfl | assumption) : PG X (.Name x pos) (gName i) := by
  intro pins s σ H v u Q I r h
  exact wpAny_assign_Name (store_ok I hN hi hx r (fun s' I' => ⟨_, H, I', h⟩) hf)
def gNil : TGs := fun vs σ H Q => vs = [] ∧ Q σ H
def gCons (t : TG) (u : TGs) : TGs := fun vs σ H Q => ∃ v r, vs = v :: r ∧ t v σ H fun σ' H' => u r σ' H' Q
theorem pgs_nil : PGs X [] gNil := by
  intro pins s σ H vs us Q I r h
  obtain ⟨e, h⟩ := h
  subst e
  cases r
  exact assignInOrder_nil ⟨σ, H, I, h⟩
theorem pgs_cons {e : Expr} {es : List Expr} {t : TG} {u : TGs} (h1 : PG X e t) (h2 : PGs X es u)
    (hs : (assignEach (e :: es) X.env).map (·.2) = assign e X.env :: (assignEach es X.env).map (·.2) := by rfl) : PGs X (e :: es) (gCons t u) := by
  intro pins s σ H vs us Q I r h
  obtain ⟨v, vr, e1, h⟩ := h
  subst e1
  cases r with
  | cons r rr =>
    rw [hs]
    refine assignInOrder_cons (thn (h1 pins s σ H _ _ _ I r h) fun _ s1 ⟨σ1, H1, I1, q1⟩ => ?_)
    exact h2 pins s1 σ1 H1 _ _ Q I1 rr q1
/-- (a, b, ..) = a tuple of that length -/
def gTup (K : PySem.W.Frag) (n : Nat) (t : TGs) : TG := fun v σ H Q => ∃ a xs, v = .ref a ∧ SqT K H a xs ∧ xs.length = n ∧ t xs σ H Q
theorem pg_tup {es : List Expr} {k : Nat} {t : TGs} {n : Nat} (hc : X.calm = true) (h : PGs X es t)
    (hn : (assignEach es X.env).length = n := by rfl) (hst : (assignEach es X.env).findIdx? (·.1) = none := by rfl) : PG X (.Tuple es k pos) (gTup X.K n t) := by
  intro pins s σ H v u Q I r hw
  obtain ⟨a, xs, e1, hq, hl, hw⟩ := hw
  subst e1
  cases r
  obtain ⟨its, rv, ht, hz⟩ := I.tuple hq
  refine assign_Tuple_tuple (I.ok.hd hc) ht (by simp [hn, ← hl, rv.length]) hst fun h' hx => ?_
  have I1 : Inv X pins σ H { s with heap := h' } := I.kept (t' := s.toks) fun b o e => hx b o (Nat.ne_of_lt (Heap.lt_size e)) e
  exact h pins _ σ H xs _ Q I1 (by simpa using rv) hw
/-- o[i] = .. -/
def gSub (to ti : TE) (t : TSet) : TG := fun v σ H Q => to σ H fun o H1 => ti σ H1 fun i H2 => t o i v H2 fun H3 => Q σ H3
theorem pg_sub {o i : Expr} {to ti : TE} {t : TSet} (ho : PE X o to) (hi : PE X i ti) (hs : PSet X t)
    (ha : ∀ v, assign (.Subscript o i pos) X.env v = (do
      let ov ← holding [v] (eval o X.env)
      let iv ← holding [v, ov] (eval i X.env)
      standAt pos
      holding [v, ov, iv] (setItem ov iv v)
      release [v, ov, iv] []) := by intro _; rfl) : PG X (.Subscript o i pos) (gSub to ti t) := by
  intro pins s σ H v u Q I r h
  rw [ha]
  refine wpAny_bind (wpAny_holding (thn (ho pins s σ H _ I h) fun ov s1 ⟨x, H1, I1, r1, q1⟩ => ?_))
  refine wpAny_bind (wpAny_holding (thn (hi pins s1 σ H1 _ I1 q1) fun iv s2 ⟨y, H2, I2, r2, q2⟩ => ?_))
  refine wpAny_bind (wpAny_standAt (wpAny_bind (wpAny_holding (thn (hs pins s2 σ H2 x y v ov iv u _ I2 r1 r2 r q2) fun _ s3 ⟨H3, I3, q3⟩ => ?_))))
  exact wpAny_release ⟨σ, H3, I3, q3⟩
/-- target = value -/
def tAsg (te : TE) (g : TG) : TS := fun D σ H => te σ H fun x H1 => g x σ H1 D.nx
theorem ps_asg {tg e : Expr} {te : TE} {g : TG} (he : PE X e te) (hg : PG X tg g) (hs : swapsWithSole [tg] e pos.line X.env = pure false := by rfl) (hw : swappedStores [tg] e X.env = pure none := by rfl)
    (h1 : (assignEach [tg] X.env).map (·.2) = [assign tg X.env] := by rfl) : PS X (.Assign [tg] e pos) (tAsg te g) := by
  intro pins s σ H D I h
  refine wpAny_Assign_stores (thn (he pins s σ H _ I h) fun v s1 ⟨x, H1, I1, r1, q1⟩ => ?_) hs hw
  rw [h1]
  exact thn (hg pins s1 σ H1 x v _ I1 r1 q1) fun _ s2 q => q
/-- name = value -/
theorem ps_set {i : Nat} {x : Str} {e : Expr} {te : TE} {pos' : Pos} (hN : X.N.Nodup) (hi : X.N[i]? = some x) (hx : Loc X.env.scope x) (he : PE X e te) (hs : swapsWith e (some (.Name x pos')) pos.line X.env = pure false := by rfl) (hf : X.fn x = true ∨ X.env.scope.names.lookup x = some .local := by first | exact .inl rfl | exact .inr rfl | assumption) :
    PS X (.Assign [.Name x pos'] e pos) (tAsg te (gName i)) := by
  intro pins s σ H D I h
  refine wpAny_Assign_Name (thn (he pins s σ H _ I h) fun v s1 ⟨y, H1, I1, r1, q1⟩ => ?_) hs
  exact store_ok I1 hN hi hx r1 (fun s2 I2 => ⟨_, H1, I2, q1⟩) hf
end

section
variable {X : Cx} {pos : Pos}
end

/-- at turn i: it yields x (the heap may grow), or it stops -/
structure It where
  go : Nat → Hp → Prop
  yld : Nat → Hp → V → Hp → Prop
  stop : Nat → Hp → Prop
/-- the iterator's own objects may turn: they are not the frame's, not pinned, younger than the entry (or a comprehension's own) -/
def FpOk (X : Cx) (pins : List (Addr × Obj)) (H : Hp) (b : Addr) : Prop :=
  H b = none ∧ b ≠ X.env.locals ∧ b ∉ X.fs ∧ (b ∈ X.ex ∨ X.s_0.heap.objs.size ≤ b) ∧ (∀ x c, X.env.cells.lookup x = some c → c ≠ b) ∧ ∀ p ∈ X.pn ++ pins, p.1 ≠ b
theorem Inv.fpOk {X : Cx} {pins : List (Addr × Obj)} {σ : St} {H H' : Hp} {s : Shared} {b : Addr} (I : Inv X pins σ H s) (hb : s.heap.objs.size ≤ b) (hn : H' b = none) : FpOk X pins H' b := by
  refine ⟨hn, Nat.ne_of_gt (Nat.lt_of_lt_of_le I.lt hb), I.nofs hb, .inr (Nat.le_trans I.sz hb), fun x c e z => ?_, fun p hp z => ?_⟩
  · obtain ⟨v, q⟩ := I.cell x c e
    exact absurd (Nat.lt_of_lt_of_le q.lt (by rw [z]; exact hb)) (Nat.lt_irrefl _)
  · exact absurd (Nat.lt_of_lt_of_le (Heap.lt_size (I.pin p hp).1) (by rw [z]; exact hb)) (Nat.lt_irrefl _)
structure Turn (P : Program) (w : World) (K : PySem.W.Frag) (tg : Expr) (J : It) (fp : List Addr) (it : Addr) (tn : Nat → Heap → Prop) : Prop where
  mem : it ∈ fp
  obj : ∀ i h, tn i h → ∀ b ∈ fp, ∃ o, h.get? b = some o ∧ ∀ v, o.data ≠ .cell v
  keep : ∀ i h h', tn i h → (∀ b ∈ fp, ∀ o, h.get? b = some o → h'.get? b = some o) → tn i h'
  item : ∀ (X : Cx), X.prog = P → X.w = w → X.K = K → X.calm = true → ∀ (i : Nat) (pins : List (Addr × Obj)) (s : Shared) (σ : St) (H : Hp) (E : Value → Shared → Prop), Inv X pins σ H s → (∀ b ∈ fp, FpOk X pins H b) → tn i s.heap → J.go i H →
    wpAny (model P w) X.A (pyNext (.ref it)) (fun r s1 => ∃ u, r = some u ∧
      wpAny (model P w) X.A (letOwnedTupleGo tg (.ref it) u) (fun _ s2 => ∃ x H', Inv X pins σ H' s2 ∧ RelV x u ∧ J.yld i H x H' ∧ tn (i + 1) s2.heap ∧ ∀ b ∈ fp, H' b = none) E s1) E s
  done : ∀ (X : Cx), X.prog = P → X.w = w → X.K = K → X.calm = true → ∀ (i : Nat) (pins : List (Addr × Obj)) (s : Shared) (σ : St) (H : Hp) (E : Value → Shared → Prop), Inv X pins σ H s → (∀ b ∈ fp, FpOk X pins H b) → tn i s.heap → J.stop i H →
    wpAny (model P w) X.A (pyNext (.ref it)) (fun r s1 => r = none ∧ Inv X pins σ H s1) E s
  self : ∀ (A : Around) (i : Nat) (s : Shared) (Q : Value → Shared → Prop) (E : Value → Shared → Prop), tn i s.heap → Q (.ref it) s → wpAny (model P w) A (pyIter (.ref it)) Q E s
abbrev TI := St → Hp → (It → Hp → Prop) → Prop
/-- an iterator has come -/
def PIE (X : Cx) (pins : List (Addr × Obj)) (σ : St) (tg : Expr) (R : It → Hp → Prop) (itv : Value) (s2 : Shared) : Prop :=
  ∃ (it : Addr) (fp : List Addr) (tn : Nat → Heap → Prop) (J : It) (H' : Hp), itv = .ref it ∧ Inv X pins σ H' s2 ∧ Turn X.prog X.w X.K tg J fp it tn ∧ tn 0 s2.heap ∧ (∀ b ∈ fp, FpOk X pins H' b) ∧ R J H'
def PI (X : Cx) (tg iter : Expr) (wi : TI) : Prop :=
  ∀ (pins : List (Addr × Obj)) (s : Shared) (σ : St) (H : Hp) (R : It → Hp → Prop), Inv X pins σ H s → wi σ H R →
    wpAny (model X.prog X.w) X.A (eval iter X.env) (fun v s1 => wpAny (model X.prog X.w) X.A (pyIter v) (PIE X pins σ tg R) X.xe s1) X.xe s

/-- the step ahead of the store is nothing for an iterator that keeps no tuple -/
theorem go_of {M : Model} {A : Around} {E : Value → Shared → Prop} {s : Shared} {tg : Expr} {it : Addr} {u : Value} {o : Obj} {n : String} {vs : Array Value} {Q : Unit → Shared → Prop} (ho : s.heap.get? it = some o) (hc : o.cls = .type n) (hd : o.data = .fields vs)
    (hn : ["enumerate", "zip", "dict_itemiterator", "dict_reverseitemiterator", "odict_iterator", "itertools.zip_longest", "itertools.pairwise"].contains n = false) (hQ : Q () s) : wpAny M A (letOwnedTupleGo tg (.ref it) u) Q E s := by
  unfold letOwnedTupleGo
  cases tg <;> first
    | exact wpAny_pure hQ
    | (cases u <;> first
        | exact wpAny_pure hQ
        | (refine wpAny_bind (wpAny_load ho ?_)
           rw [hc, hd]
           show wpAny M A (if (["enumerate", "zip", "dict_itemiterator", "dict_reverseitemiterator", "odict_iterator", "itertools.zip_longest", "itertools.pairwise"].contains n && vs[0]? == some (rawInt _)) = true then _ else _) Q E s
           rw [if_neg (by intro h; rw [hn, Bool.false_and] at h; cases h)]
           exact wpAny_pure hQ))

/-- the list at a, as it stands at each turn (a loop may append to it) -/
def Itl (K : PySem.W.Frag) (a : Addr) : It :=
  ⟨fun i H => ∃ xs x, SqL K H a xs ∧ xs[i]? = some x, fun i H x H' => H' = H ∧ ∀ xs, SqL K H a xs → xs[i]? = some x, fun i H => ∃ xs, SqL K H a xs ∧ xs.length ≤ i⟩
def Itt (K : PySem.W.Frag) (a : Addr) : It :=
  ⟨fun i H => ∃ xs x, SqT K H a xs ∧ xs[i]? = some x, fun i H x H' => H' = H ∧ ∀ xs, SqT K H a xs → xs[i]? = some x, fun i H => ∃ xs, SqT K H a xs ∧ xs.length ≤ i⟩
/-- lo, lo + 1, .. (n of them) -/
def Itr (lo : Int) (n : Nat) : It := ⟨fun i _ => i < n, fun i H x H' => H' = H ∧ x = .int (lo + i), fun i _ => n ≤ i⟩
theorem turn_list {P : Program} {w : World} {K : PySem.W.Frag} {tg : Expr} (a it : Addr) : Turn P w K tg (Itl K a) [it] it (fun i h => h.IsListIter it a i) where
  mem := by simp
  obj := fun i h st b hb => by
    have e : b = it := by simpa using hb
    subst e
    obtain ⟨o, e, c, d⟩ := st
    exact ⟨o, e, fun v z => by rw [d] at z; cases z⟩
  keep := fun i h h' st k => st.at fun o e => k it (by simp) o e
  item := by
    intro X hP hw hK hc i pins s σ H E I hf st hg
    subst hP hw hK
    obtain ⟨xs, x, hq, hx⟩ := hg
    obtain ⟨its, rv, p, hz⟩ := I.list hq
    obtain ⟨u, hu, ru⟩ := rv.get hx
    obtain ⟨f0, f1, f2, f3, f4, f5⟩ := hf it (by simp)
    refine wpAny_pyNext_list_item st p.isList (x := u) (by simpa using hu) fun h' st' sb => ?_
    have I1 : Inv X pins σ H { s with heap := h' } := I.turned (t' := s.toks) (fun b o hb e => (sb.2 b hb).trans e) f0 f1 f3 f4 f5
    obtain ⟨o, e, c, d⟩ := id st'
    exact ⟨u, rfl, go_of (s := { s with heap := h' }) e c d (by decide) ⟨x, H, I1, ru, ⟨rfl, fun ys hy => by rw [I.list_inj hy hq]; exact hx⟩, st', fun b hb => (hf b hb).1⟩⟩
  done := by
    intro X hP hw hK hc i pins s σ H E I hf st hg
    subst hP hw hK
    obtain ⟨xs, hq, hx⟩ := hg
    obtain ⟨its, rv, p, hz⟩ := I.list hq
    obtain ⟨f0, f1, f2, f3, f4, f5⟩ := hf it (by simp)
    have hl := rv.length
    exact wpAny_pyNext_list_end (I.ok.hd hc) st p.isList (by simp; omega) fun h' eb => ⟨rfl, I.turned (t' := s.toks) (fun b o hb e => eb b o hb e) f0 f1 f3 f4 f5⟩
  self := fun _ _ _ _ _ st h => wpAny_pyIter_listiter st h
theorem turn_tuple {P : Program} {w : World} {K : PySem.W.Frag} {tg : Expr} (a it : Addr) : Turn P w K tg (Itt K a) [it] it (fun i h => h.IsTupleIter it a i) where
  mem := by simp
  obj := fun i h st b hb => by
    have e : b = it := by simpa using hb
    subst e
    obtain ⟨o, e, c, d⟩ := st
    exact ⟨o, e, fun v z => by rw [d] at z; cases z⟩
  keep := fun i h h' st k => st.at fun o e => k it (by simp) o e
  item := by
    intro X hP hw hK hc i pins s σ H E I hf st hg
    subst hP hw hK
    obtain ⟨xs, x, hq, hx⟩ := hg
    obtain ⟨its, rv, p, hz⟩ := I.tuple hq
    obtain ⟨u, hu, ru⟩ := rv.get hx
    obtain ⟨f0, f1, f2, f3, f4, f5⟩ := hf it (by simp)
    refine wpAny_pyNext_tuple_item st (show s.heap.IsTuple a its.toArray from p) (x := u) (by simpa using hu) fun h' st' sb => ?_
    have I1 : Inv X pins σ H { s with heap := h' } := I.turned (t' := s.toks) (fun b o hb e => (sb.2 b hb).trans e) f0 f1 f3 f4 f5
    obtain ⟨o, e, c, d⟩ := id st'
    exact ⟨u, rfl, go_of (s := { s with heap := h' }) e c d (by decide) ⟨x, H, I1, ru, ⟨rfl, fun ys hy => by rw [I.tuple_inj hy hq]; exact hx⟩, st', fun b hb => (hf b hb).1⟩⟩
  done := by
    intro X hP hw hK hc i pins s σ H E I hf st hg
    subst hP hw hK
    obtain ⟨xs, hq, hx⟩ := hg
    obtain ⟨its, rv, p, hz⟩ := I.tuple hq
    obtain ⟨f0, f1, f2, f3, f4, f5⟩ := hf it (by simp)
    have hl := rv.length
    exact wpAny_pyNext_tuple_end (I.ok.hd hc) st (show s.heap.IsTuple a its.toArray from p) (by simp; omega) fun h' eb => ⟨rfl, I.turned (t' := s.toks) (fun b o hb e => eb b o hb e) f0 f1 f3 f4 f5⟩
  self := fun _ _ _ _ _ st h => wpAny_pyIter_tupleiter st h
theorem turn_range {P : Program} {w : World} {K : PySem.W.Frag} {tg : Expr} (it : Addr) (lo : Int) (n : Nat) : Turn P w K tg (Itr lo n) [it] it (fun i h => IsRangeIter h it (lo + (i : Nat) * 1) ((n : Int) - (i : Nat)) 1) where
  mem := by simp
  obj := fun i h st b hb => by
    have e : b = it := by simpa using hb
    subst e
    exact ⟨_, st, fun v z => by
      have z' : Data.fields _ = Data.cell v := z
      cases z'⟩
  keep := fun i h h' st k => k it (by simp) _ st
  item := by
    intro X hP hw hK hc i pins s σ H E I hf st hg
    subst hP hw hK
    obtain ⟨f0, f1, f2, f3, f4, f5⟩ := hf it (by simp)
    have W := Walks.range (prog := X.prog) (w := X.w) (I.ok.hd hc) it lo 1 n
    refine W.item i s _ _ hg st fun v h' tk hv st' kk => ?_
    obtain ⟨t, rfl⟩ := hv
    have I1 : Inv X pins σ H { s with heap := h', toks := tk } := I.turned (fun b o hb e => kk b o (by simpa using hb) e) f0 f1 f3 f4 f5
    refine ⟨_, rfl, go_of (s := { s with heap := h', toks := tk }) (n := "range_iterator") st' rfl rfl (by decide) ⟨.int (lo + i), H, I1, ⟨t, ?_⟩, ⟨rfl, rfl⟩, st', fun b hb => (hf b hb).1⟩⟩
    rw [Int.mul_one]
  done := by
    intro X hP hw hK hc i pins s σ H E I hf st hg
    subst hP hw hK
    obtain ⟨f0, f1, f2, f3, f4, f5⟩ := hf it (by simp)
    exact wpAny_pyNext_range_end (I.ok.hd hc) st (by have : n ≤ i := hg; omega) fun h' eb => ⟨rfl, I.turned (t' := s.toks) (fun b o hb e => eb b o hb e) f0 f1 f3 f4 f5⟩
  self := fun _ _ _ _ _ st h => wpAny_pyIter_rangeiter st h
end L2

namespace L2
open PySem PySem.Spec PyProof.Rows
section
variable {X : Cx} {tg : Expr}
def iList (K : PySem.W.Frag) (tl : TE) : TI := fun σ H R => tl σ H fun x H1 => ∃ a, x = .ref a ∧ (∃ xs, SqL K H1 a xs) ∧ R (Itl K a) H1
def iTup (K : PySem.W.Frag) (tl : TE) : TI := fun σ H R => tl σ H fun x H1 => ∃ a, x = .ref a ∧ (∃ xs, SqT K H1 a xs) ∧ R (Itt K a) H1
theorem pi_list {l : Expr} {tl : TE} (hl : PE X l tl) : PI X tg l (iList X.K tl) := by
  intro pins s σ H R I h
  refine thn (hl pins s σ H _ I h) fun v s1 ⟨x, H1, I1, r1, q1⟩ => ?_
  obtain ⟨a, e, ⟨xs, hq⟩, q⟩ := q1
  subst e
  cases r1
  obtain ⟨its, rv, p, hz⟩ := I1.list hq
  refine wpAny_pyIter_list p.isList ?_
  refine ⟨s1.heap.objs.size, [s1.heap.objs.size], _, _, H1, rfl, I1.kept (t' := s1.toks) fun b o e => Heap.get?_push_of_some _ e, turn_list a _, ⟨_, Heap.get?_push_size _ rfl, rfl, rfl⟩, fun b hb => ?_, q⟩
  have e : b = s1.heap.objs.size := by simpa using hb
  subst e
  exact I1.fpOk (Nat.le_refl _) (I1.hok.fresh (Nat.le_refl _))
theorem pi_tup {l : Expr} {tl : TE} (hl : PE X l tl) : PI X tg l (iTup X.K tl) := by
  intro pins s σ H R I h
  refine thn (hl pins s σ H _ I h) fun v s1 ⟨x, H1, I1, r1, q1⟩ => ?_
  obtain ⟨a, e, ⟨xs, hq⟩, q⟩ := q1
  subst e
  cases r1
  obtain ⟨its, rv, p, hz⟩ := I1.tuple hq
  refine wpAny_pyIter_tuple (show s1.heap.IsTuple a its.toArray from p) ?_
  refine ⟨s1.heap.objs.size, [s1.heap.objs.size], _, _, H1, rfl, I1.kept (t' := s1.toks) fun b o e => Heap.get?_push_of_some _ e, turn_tuple a _, ⟨_, Heap.get?_push_size _ rfl, rfl, rfl⟩, fun b hb => ?_, q⟩
  have e : b = s1.heap.objs.size := by simpa using hb
  subst e
  exact I1.fpOk (Nat.le_refl _) (I1.hok.fresh (Nat.le_refl _))
/-- a range object just made, walked -/
theorem range_it {pins : List (Addr × Obj)} {σ : St} {H : Hp} {s : Shared} {R : It → Hp → Prop} {E : Value → Shared → Prop} {lo hi : Int} {t u v : Tok} {tk : Nat} (I : Inv X pins σ H s) (h1 : -(2 ^ 62) ≤ lo) (h2 : lo < 2 ^ 62) (h3 : -(2 ^ 62) ≤ hi) (h4 : hi < 2 ^ 62)
    (q : R (Itr lo (hi - lo).toNat) H) : wpAny (model X.prog X.w) X.A (pyIter (.ref s.heap.objs.size)) (PIE X pins σ tg R) E { s with heap := s.heap.push { cls := .type "range", data := .fields #[.int lo t, .int hi u, .int 1 v] }, toks := tk } := by
  refine wpAny_pyIter_range (IsRange.new ..) (small_one h1 h2 h3 h4) ?_
  have I1 : Inv X pins σ H { s with heap := s.heap.push { cls := .type "range", data := .fields #[.int lo t, .int hi u, .int 1 v] }, toks := tk } := I.kept fun b o e => Heap.get?_push_of_some _ e
  refine ⟨(s.heap.push { cls := .type "range", data := .fields #[.int lo t, .int hi u, .int 1 v] }).objs.size, [(s.heap.push { cls := .type "range", data := .fields #[.int lo t, .int hi u, .int 1 v] }).objs.size], _, _, H, rfl,
    I1.kept (t' := tk) fun b o e => Heap.get?_push_of_some _ e, turn_range _ lo (hi - lo).toNat, ?_, fun b hb => ?_, q⟩
  · have e1 : lo + ((0 : Nat) : Int) * 1 = lo := by simp
    have e2 : (((hi - lo).toNat : Nat) : Int) - ((0 : Nat) : Int) = Builtin.Range.rangeSize lo hi 1 := by rw [rangeSize_one]; split <;> omega
    show IsRangeIter _ _ (lo + ((0 : Nat) : Int) * 1) ((((hi - lo).toNat : Nat) : Int) - ((0 : Nat) : Int)) 1
    rw [e1, e2]
    exact Heap.get?_push_size _ rfl
  · have e : b = (s.heap.push { cls := .type "range", data := .fields #[.int lo t, .int hi u, .int 1 v] }).objs.size := by simpa using hb
    subst e
    exact I1.fpOk (Nat.le_refl _) (I1.hok.fresh (Nat.le_refl _))
def iRng1 (ta : TA) : TI := fun σ H R => ta σ H fun vs H1 => ∃ j : Int, vs = [.int j] ∧ -(2 ^ 62) ≤ j ∧ j < 2 ^ 62 ∧ R (Itr 0 j.toNat) H1
def iRng2 (ta : TA) : TI := fun σ H R => ta σ H fun vs H1 => ∃ i j : Int, vs = [.int i, .int j] ∧ (-(2 ^ 62) ≤ i ∧ i < 2 ^ 62 ∧ -(2 ^ 62) ≤ j ∧ j < 2 ^ 62) ∧ R (Itr i (j - i).toNat) H1
theorem pi_range1 {a : Expr} {ta : TA} {p pos : Pos} (hg : Gl X "range") (hm : X.mg "range" = none) (ha : PA X [a] ta) (hs : starEach [a] X.env = [(false, eval a X.env)] := by rfl) : PI X tg (.Call (.Name "range" p) [a] [] pos) (iRng1 ta) := by
  intro pins s σ H R I h
  refine Call_ (ld_blt I hg hm boot_range (PyProof.Rows.callWith_type1 (thn (ha pos pins s σ H _ I h) fun us s1 ⟨vs, H1, I1, r1, q1⟩ => ?_) hs rfl))
  obtain ⟨j, e, q1, q2, q⟩ := q1
  subst e
  cases r1 with
  | cons r rr =>
    cases rr
    obtain ⟨t, rfl⟩ := r
    exact call_range_1 (range_it I1 (by omega) (by omega) q1 q2 (by simpa using q))
theorem pi_range2 {a b : Expr} {ta : TA} {p pos : Pos} (hg : Gl X "range") (hm : X.mg "range" = none) (ha : PA X [a, b] ta) (hs : starEach [a, b] X.env = [(false, eval a X.env), (false, eval b X.env)] := by rfl) (hs2 : starEach [b] X.env = [(false, eval b X.env)] := by rfl) :
    PI X tg (.Call (.Name "range" p) [a, b] [] pos) (iRng2 ta) := by
  intro pins s σ H R I h
  refine Call_ (ld_blt I hg hm boot_range (PyProof.Rows.callWith_type1 (thn (ha pos pins s σ H _ I h) fun us s1 ⟨vs, H1, I1, r1, q1⟩ => ?_) (by rw [hs, hs2]) (by rw [hs2]; rfl)))
  obtain ⟨i, j, e, ⟨q1, q2, q3, q4⟩, q⟩ := q1
  subst e
  cases r1 with
  | cons r rr =>
    cases rr with
    | cons r' rr =>
      cases rr
      obtain ⟨t, rfl⟩ := r
      obtain ⟨t', rfl⟩ := r'
      exact call_range_2 (range_it I1 q1 q2 q3 q4 q)

/-- W: the invariant by the turn and a measure; N: what the body is to reach -/
def tFor (wi : TI) (g : TG) (tb : TS) : TS := fun D σ H => wi σ H fun J H1 => ∃ W : Nat → Nat → St → Hp → Prop, (∃ m, W 0 m σ H1) ∧ ∀ i m σ H, W i m σ H →
  (J.stop i H ∧ D.nx σ H) ∨ (J.go i H ∧ ∃ N : St → Hp → Prop, (∀ σ' H', N σ' H' → ∃ m', m' < m ∧ W (i + 1) m' σ' H') ∧ ∀ x H', J.yld i H x H' → g x σ H' fun σ2 H2 => tb { D with nx := N, ct := N, bk := D.nx } σ2 H2)
/-- the records at fp as they stand -/
def pinsAt (fp : List Addr) (h : Heap) : List (Addr × Obj) := fp.filterMap fun b => (h.get? b).map fun o => (b, o)
theorem mem_pinsAt {fp : List Addr} {h : Heap} {b : Addr} {o : Obj} (hb : b ∈ fp) (e : h.get? b = some o) : (b, o) ∈ pinsAt fp h := List.mem_filterMap.mpr ⟨b, hb, by rw [e]; rfl⟩
theorem of_pinsAt {fp : List Addr} {h : Heap} {p : Addr × Obj} (hp : p ∈ pinsAt fp h) : p.1 ∈ fp ∧ h.get? p.1 = some p.2 := by
  obtain ⟨b, hb, e⟩ := List.mem_filterMap.mp hp
  cases q : h.get? b with
  | none => rw [q] at e; cases e
  | some o =>
    rw [q] at e
    have e' : (b, o) = p := Option.some.inj e
    subst e'
    exact ⟨hb, q⟩
theorem Inv.pinned {pins : List (Addr × Obj)} {σ : St} {H : Hp} {s : Shared} {fp : List Addr} (I : Inv X pins σ H s) (hf : ∀ b ∈ fp, FpOk X pins H b) (ho : ∀ b ∈ fp, ∃ o, s.heap.get? b = some o ∧ ∀ v, o.data ≠ .cell v) : Inv X (pins ++ pinsAt fp s.heap) σ H s :=
  I.pins_of fun p hp => (List.mem_append.mp hp).elim (fun z => I.pin p (List.mem_append_right _ z)) fun z => by
    obtain ⟨hb, e⟩ := of_pinsAt z
    obtain ⟨f0, f1, f2, _⟩ := hf p.1 hb
    obtain ⟨o, e', d⟩ := ho p.1 hb
    rw [e] at e'; cases e'
    exact ⟨e, f0, f1, f2, d⟩
theorem Inv.unpinned {pins pl : List (Addr × Obj)} {σ : St} {H : Hp} {s : Shared} (I : Inv X (pins ++ pl) σ H s) : Inv X pins σ H s := I.pins_of fun p hp => I.pin p (List.mem_append_right _ (List.mem_append_left _ hp))
theorem ps_for {iter : Expr} {body : List Stmt} {wi : TI} {g : TG} {tb : TS} {pos : Pos} (hp : PassesOwn (model X.prog X.w) X.A X.env X.xe) (hc : X.calm = true) (hi : PI X tg iter wi) (hg : PG X tg g) (hb : PSs X body tb)
    (hs : ∀ x, foldedSetIterable iter X.env x = pure x := by intro _; rfl) : PS X (.For tg iter body [] pos) (tFor wi g tb) := by
  intro pins s σ H D I h
  refine wpAny_For (thn (hi pins s σ H _ I h) fun v s1 h1 => thn h1 fun itv s2 h2 => ?_) hs
  obtain ⟨it, fp, tn, J, H2, e, I2, T, st2, f2, W, ⟨m0, w0⟩, turn⟩ := h2
  subst e
  -- what stays true of the iterator's objects through the loop
  have stat : ∀ {H' : Hp}, (∀ b ∈ fp, H' b = none) → ∀ b ∈ fp, FpOk X pins H' b := fun hn b hb => ⟨hn b hb, (f2 b hb).2⟩
  refine codeAny_forLoop_any (fun n s' => ∃ i σ' H', Inv X pins σ' H' s' ∧ tn i s'.heap ∧ (∀ b ∈ fp, H' b = none) ∧ W i n σ' H') ?_ m0 ⟨0, σ, H2, I2, st2, fun b hb => (f2 b hb).1, w0⟩
  rintro n s3 ⟨i, σ3, H3, I3, st3, fr3, w3⟩
  rcases turn i n σ3 H3 w3 with ⟨stop, qn⟩ | ⟨go, N, hN, step⟩
  · refine wpAny_passesOwn hp (thn (T.done X rfl rfl rfl hc i pins s3 σ3 H3 X.xe I3 (stat fr3) st3 stop) fun r s4 ⟨hr, I4⟩ => ?_)
    subst hr
    exact wpAny_execs_nil ⟨σ3, H3, I4, qn⟩
  · refine wpAny_passesOwn hp (thn (T.item X rfl rfl rfl hc i pins s3 σ3 H3 X.xe I3 (stat fr3) st3 go) fun r s4 ⟨u, hr, h4⟩ => ?_)
    subst hr
    refine wpAny_passesOwn hp (thn h4 fun _ s5 ⟨x, H5, I5, r5, y5, st5, fr5⟩ => ?_)
    have I5' := I5.pinned (stat fr5) (T.obj _ _ st5)
    refine wpAny_passesOwn hp (thn (hg _ s5 σ3 H5 x u _ I5' r5 (step x H5 y5)) fun _ s6 ⟨σ6, H6, I6, q6⟩ => ?_)
    refine wpAny_passesOwn hp (thn (hb _ s6 σ6 H6 _ I6 q6) fun f s7 q7 => ?_)
    have again : ∀ {σ7 : St} {H7 : Hp}, Inv X (pins ++ pinsAt fp s5.heap) σ7 H7 s7 → N σ7 H7 → ∃ m, m < n ∧ ∃ i σ' H', Inv X pins σ' H' s7 ∧ tn i s7.heap ∧ (∀ b ∈ fp, H' b = none) ∧ W i m σ' H' := fun {σ7 H7} I7 n7 => by
      obtain ⟨m', hm, w7⟩ := hN σ7 H7 n7
      refine ⟨m', hm, i + 1, σ7, H7, I7.unpinned, T.keep _ _ _ st5 fun b hb o e => (I7.pin (b, o) (List.mem_append_right _ (List.mem_append_right _ (mem_pinsAt hb e)))).1, fun b hb => ?_, w7⟩
      obtain ⟨o, e, d⟩ := T.obj _ _ st5 b hb
      exact (I7.pin (b, o) (List.mem_append_right _ (List.mem_append_right _ (mem_pinsAt hb e)))).2.1
    cases f with
    | next => obtain ⟨σ7, H7, I7, n7⟩ := q7; exact again I7 n7
    | cont => obtain ⟨σ7, H7, I7, n7⟩ := q7; exact again I7 n7
    | brk => obtain ⟨σ7, H7, I7, q7⟩ := q7; exact ⟨σ7, H7, I7.unpinned, q7⟩
    | ret v => obtain ⟨x7, σ7, H7, I7, r7, q7⟩ := q7; exact ⟨x7, σ7, H7, I7.unpinned, r7, q7⟩
end

/-- over a list that the body leaves as it is -/
theorem for_list {K : PySem.W.Frag} {a : Addr} {xs : List V} {g : TG} {tb : TS} {D : Ends} {σ : St} {H : Hp} (Pv : Nat → St → Hp → Prop) (h0 : Pv 0 σ H) (hl : ∀ i σ H, i ≤ xs.length → Pv i σ H → SqL K H a xs)
    (hs : ∀ i x σ H, xs[i]? = some x → Pv i σ H → g x σ H fun σ2 H2 => tb { D with nx := Pv (i + 1), ct := Pv (i + 1), bk := D.nx } σ2 H2) (hd : ∀ σ H, Pv xs.length σ H → D.nx σ H) :
    ∃ W : Nat → Nat → St → Hp → Prop, (∃ m, W 0 m σ H) ∧ ∀ i m σ H, W i m σ H →
      ((Itl K a).stop i H ∧ D.nx σ H) ∨ ((Itl K a).go i H ∧ ∃ N : St → Hp → Prop, (∀ σ' H', N σ' H' → ∃ m', m' < m ∧ W (i + 1) m' σ' H') ∧ ∀ x H', (Itl K a).yld i H x H' → g x σ H' fun σ2 H2 => tb { D with nx := N, ct := N, bk := D.nx } σ2 H2) := by
  refine ⟨fun i m σ H => m = xs.length - i ∧ i ≤ xs.length ∧ Pv i σ H, ⟨xs.length, by simp, Nat.zero_le _, h0⟩, ?_⟩
  rintro i m σ H ⟨rfl, hi, p⟩
  have q := hl i σ H hi p
  by_cases hlt : i < xs.length
  · refine .inr ⟨⟨xs, xs[i], q, by simp [hlt]⟩, Pv (i + 1), fun σ' H' p' => ⟨xs.length - (i + 1), by omega, rfl, hlt, p'⟩, fun x H' y => ?_⟩
    obtain ⟨e, y⟩ := y
    subst e
    exact hs i x σ _ (y xs q) p
  · have e : i = xs.length := by omega
    subst e
    exact .inl ⟨⟨xs, q, Nat.le_refl _⟩, hd σ H p⟩
theorem for_tup {K : PySem.W.Frag} {a : Addr} {xs : List V} {g : TG} {tb : TS} {D : Ends} {σ : St} {H : Hp} (Pv : Nat → St → Hp → Prop) (h0 : Pv 0 σ H) (hl : ∀ i σ H, i ≤ xs.length → Pv i σ H → SqT K H a xs)
    (hs : ∀ i x σ H, xs[i]? = some x → Pv i σ H → g x σ H fun σ2 H2 => tb { D with nx := Pv (i + 1), ct := Pv (i + 1), bk := D.nx } σ2 H2) (hd : ∀ σ H, Pv xs.length σ H → D.nx σ H) :
    ∃ W : Nat → Nat → St → Hp → Prop, (∃ m, W 0 m σ H) ∧ ∀ i m σ H, W i m σ H →
      ((Itt K a).stop i H ∧ D.nx σ H) ∨ ((Itt K a).go i H ∧ ∃ N : St → Hp → Prop, (∀ σ' H', N σ' H' → ∃ m', m' < m ∧ W (i + 1) m' σ' H') ∧ ∀ x H', (Itt K a).yld i H x H' → g x σ H' fun σ2 H2 => tb { D with nx := N, ct := N, bk := D.nx } σ2 H2) := by
  refine ⟨fun i m σ H => m = xs.length - i ∧ i ≤ xs.length ∧ Pv i σ H, ⟨xs.length, by simp, Nat.zero_le _, h0⟩, ?_⟩
  rintro i m σ H ⟨rfl, hi, p⟩
  have q := hl i σ H hi p
  by_cases hlt : i < xs.length
  · refine .inr ⟨⟨xs, xs[i], q, by simp [hlt]⟩, Pv (i + 1), fun σ' H' p' => ⟨xs.length - (i + 1), by omega, rfl, hlt, p'⟩, fun x H' y => ?_⟩
    obtain ⟨e, y⟩ := y
    subst e
    exact hs i x σ _ (y xs q) p
  · have e : i = xs.length := by omega
    subst e
    exact .inl ⟨⟨xs, q, Nat.le_refl _⟩, hd σ H p⟩
theorem for_range {lo : Int} {n : Nat} {g : TG} {tb : TS} {D : Ends} {σ : St} {H : Hp} (Pv : Nat → St → Hp → Prop) (h0 : Pv 0 σ H)
    (hs : ∀ i σ H, i < n → Pv i σ H → g (.int (lo + i)) σ H fun σ2 H2 => tb { D with nx := Pv (i + 1), ct := Pv (i + 1), bk := D.nx } σ2 H2) (hd : ∀ σ H, Pv n σ H → D.nx σ H) :
    ∃ W : Nat → Nat → St → Hp → Prop, (∃ m, W 0 m σ H) ∧ ∀ i m σ H, W i m σ H →
      ((Itr lo n).stop i H ∧ D.nx σ H) ∨ ((Itr lo n).go i H ∧ ∃ N : St → Hp → Prop, (∀ σ' H', N σ' H' → ∃ m', m' < m ∧ W (i + 1) m' σ' H') ∧ ∀ x H', (Itr lo n).yld i H x H' → g x σ H' fun σ2 H2 => tb { D with nx := N, ct := N, bk := D.nx } σ2 H2) := by
  refine ⟨fun i m σ H => m = n - i ∧ i ≤ n ∧ Pv i σ H, ⟨n, by simp, Nat.zero_le _, h0⟩, ?_⟩
  rintro i m σ H ⟨rfl, hi, p⟩
  by_cases hlt : i < n
  · refine .inr ⟨hlt, Pv (i + 1), fun σ' H' p' => ⟨n - (i + 1), by omega, rfl, hlt, p'⟩, fun x H' y => ?_⟩
    obtain ⟨e, y⟩ := y
    subst e y
    exact hs i σ _ hlt p
  · have e : i = n := by omega
    subst e
    exact .inl ⟨Nat.le_refl _, hd σ H p⟩
end L2

namespace L2
open PySem PySem.Spec PyProof.Rows

abbrev R2 := V → V → Hp → VK → Prop
/-- a two-place operation on values: f is binaryOp op, inplaceOp op or compareOp op -/
def OpR (X : Cx) (f : Value → Value → Sem Value) (r : R2) : Prop :=
  ∀ (pins : List (Addr × Obj)) (s : Shared) (σ : St) (H : Hp) (x y : V) (v u : Value) (Q : VK), Inv X pins σ H s → RelV x v → RelV y u → r x y H Q →
    wpAny (model X.prog X.w) X.A (f v u) (EP X pins σ Q) X.xe s
/-- a call of a value that is known (a builtin, a type) with values -/
def CallR (X : Cx) (f : Value) (r : List V → Hp → VK → Prop) : Prop :=
  ∀ (pins : List (Addr × Obj)) (s : Shared) (σ : St) (H : Hp) (xs : List V) (us : List Value) (Q : VK), Inv X pins σ H s → Vals xs us → r xs H Q →
    wpAny (model X.prog X.w) X.A (call f us) (EP X pins σ Q) X.xe s
def tOp (r : R2) (ta tb : TE) : TE := fun σ H Q => ta σ H fun x H1 => tb σ H1 fun y H2 => r x y H2 Q
/-- ints in, under C, and a value out -/
def rI (C : Int → Int → Prop) (g : Int → Int → V) : R2 := fun x y H Q => ∃ i j, x = .int i ∧ y = .int j ∧ C i j ∧ Q (g i j) H
def rI0 (g : Int → Int → V) : R2 := fun x y H Q => ∃ i j, x = .int i ∧ y = .int j ∧ Q (g i j) H
section
variable {X : Cx} {a b c : Expr} {ta tb tc : TE} {pos : Pos}

theorem binT (ha : PE X a ta) (hb : PE X b tb) {pins : List (Addr × Obj)} {s : Shared} {σ : St} {H : Hp} {R : V → V → Hp → Prop} (I : Inv X pins σ H s)
    (h : ta σ H fun x H1 => tb σ H1 fun y H2 => R x y H2) {Q : Value → Shared → Prop} {f : Value → Value → Sem Value}
    (hf : ∀ v u s2 x y H2, Inv X pins σ H2 s2 → RelV x v → RelV y u → R x y H2 → wpAny (model X.prog X.w) X.A (f v u) Q X.xe s2) :
    wpAny (model X.prog X.w) X.A (eval a X.env) (fun v s₁ => wpAny (model X.prog X.w) X.A (eval b X.env) (fun u s₂ => wpAny (model X.prog X.w) X.A (f v u) Q X.xe s₂) X.xe s₁) X.xe s := by
  refine thn (ha pins s σ H _ I h) fun v s1 ⟨x, H1, I1, r1, q1⟩ => ?_
  refine thn (hb pins s1 σ H1 _ I1 q1) fun u s2 ⟨y, H2, I2, r2, q2⟩ => ?_
  exact hf v u s2 x y H2 I2 r1 r2 q2

theorem pe_op {op : Operator} {r : R2} (ho : OpR X (binaryOp op) r) (ha : PE X a ta) (hb : PE X b tb) : PE X (.BinOp a op b pos) (tOp r ta tb) := by
  intro pins s σ H Q I h
  exact wpAny_BinOp (binT ha hb I h fun v u s2 x y H2 I2 rx ry q => ho pins s2 σ H2 x y v u Q I2 rx ry q)
theorem opI {f : Value → Value → Sem Value} {C : Int → Int → Prop} {g : Int → Int → Int}
    (rule : ∀ (i j : Int) (t u : Tok) (s : Shared) (Q : Value → Shared → Prop) (E : Value → Shared → Prop), C i j → Q (.int (g i j) s.toks) { s with toks := s.toks + 1 } → wpAny (model X.prog X.w) X.A (f (.int i t) (.int j u)) Q E s) :
    OpR X f (rI C fun i j => .int (g i j)) := by
  intro pins s σ H x y v u Q I rx ry h
  obtain ⟨i, j, rfl, rfl, hc, q⟩ := h
  obtain ⟨t, rfl⟩ := rx
  obtain ⟨t', rfl⟩ := ry
  exact rule i j t t' s _ _ hc ⟨.int (g i j), H, I.tok _, ⟨_, rfl⟩, q⟩
theorem opI0 {f : Value → Value → Sem Value} {g : Int → Int → Int}
    (rule : ∀ (i j : Int) (t u : Tok) (s : Shared) (Q : Value → Shared → Prop) (E : Value → Shared → Prop), Q (.int (g i j) s.toks) { s with toks := s.toks + 1 } → wpAny (model X.prog X.w) X.A (f (.int i t) (.int j u)) Q E s) :
    OpR X f (rI0 fun i j => .int (g i j)) := by
  intro pins s σ H x y v u Q I rx ry h
  obtain ⟨i, j, rfl, rfl, q⟩ := h
  obtain ⟨t, rfl⟩ := rx
  obtain ⟨t', rfl⟩ := ry
  exact rule i j t t' s _ _ ⟨.int (g i j), H, I.tok _, ⟨_, rfl⟩, q⟩
theorem opB0 {f : Value → Value → Sem Value} {g : Int → Int → Bool}
    (rule : ∀ (i j : Int) (t u : Tok) (s : Shared) (Q : Value → Shared → Prop) (E : Value → Shared → Prop), Q (.bool (g i j)) s → wpAny (model X.prog X.w) X.A (f (.int i t) (.int j u)) Q E s) :
    OpR X f (rI0 fun i j => .bl (g i j)) := by
  intro pins s σ H x y v u Q I rx ry h
  obtain ⟨i, j, rfl, rfl, q⟩ := h
  obtain ⟨t, rfl⟩ := rx
  obtain ⟨t', rfl⟩ := ry
  exact rule i j t t' s _ _ ⟨.bl (g i j), H, I, rfl, q⟩

def CPow (i j : Int) : Prop := 0 ≤ j ∧ j ≤ 1000000 ∧ i.natAbs < 2 ^ 64
def CMul (i j : Int) : Prop := (-(2 ^ 64) < i ∧ i < 2 ^ 64) ∨ (-(2 ^ 64) < j ∧ j < 2 ^ 64)
theorem CMul.ok {i j : Int} (h : CMul i j) : IntMulOk i j := by
  rcases h with ⟨h1, h2⟩ | ⟨h1, h2⟩
  · exact .of_left (intBits_le_64 h1 h2)
  · exact .of_right (intBits_le_64 h1 h2)
theorem op_add : OpR X (binaryOp .Add) (rI0 fun i j => .int (i + j)) := opI0 fun _ _ _ _ _ _ _ q => add_int q
theorem op_sub : OpR X (binaryOp .Sub) (rI0 fun i j => .int (i - j)) := opI0 fun _ _ _ _ _ _ _ q => sub_int q
theorem op_mul : OpR X (binaryOp .Mult) (rI CMul fun i j => .int (i * j)) := opI fun _ _ _ _ _ _ _ hc q => mul_int q hc.ok
/-- % by a positive divisor of any size -/
theorem op_mod : OpR X (binaryOp .Mod) (rI (fun _ j => 0 < j) fun i j => .int (i % j)) := opI fun i j _ _ _ _ _ hc q => by
  have h1 : (0 : Int) < j := hc
  exact mod_int' (by omega) (by rw [Int.fmod_eq_emod_of_nonneg i (by omega)]; exact q)
theorem op_pow : OpR X (binaryOp .Pow) (rI CPow fun i j => .int (i ^ j.toNat)) := opI fun _ _ _ _ _ _ _ hc q => pow_int_small hc.1 hc.2.1 hc.2.2 q
end

/-- the scalars that == tells apart as data does -/
def scal : V → V → Bool
  | .non, .non => true | .non, .int _ => true | .int _, .non => true | .non, .bl _ => true | .bl _, .non => true | .non, .str _ => true | .str _, .non => true
  | .int _, .int _ => true | .bl _, .bl _ => true | .str _, .str _ => true | .byt _, .byt _ => true
  | .int _, .str _ => true | .str _, .int _ => true | .bl _, .str _ => true | .str _, .bl _ => true
  | _, _ => false
def rEq : R2 := fun x y H Q => scal x y = true ∧ Q (.bl (decide (x = y))) H
def rNe : R2 := fun x y H Q => scal x y = true ∧ Q (.bl (!decide (x = y))) H

theorem dec_int {i j : Int} : decide (V.int i = V.int j) = (i == j) := by
  rw [Bool.eq_iff_iff]
  simp
theorem dec_bl {i j : Bool} : decide (V.bl i = V.bl j) = (i == j) := by
  rw [Bool.eq_iff_iff]
  simp
theorem dec_str {i j : Str} : decide (V.str i = V.str j) = (i == j) := by
  rw [Bool.eq_iff_iff]
  simp
theorem dec_byt {i j : Array UInt8} : decide (V.byt i = V.byt j) = (i.toList == j.toList) := by
  rw [Bool.eq_iff_iff]
  cases i
  cases j
  simp

section
variable {X : Cx} {a b c : Expr} {ta tb tc : TE} {pos : Pos}
theorem fin_bl {pins : List (Addr × Obj)} {σ : St} {H : Hp} {s : Shared} {Q : VK} {k k' : Bool} (I : Inv X pins σ H s) (q : Q (.bl k) H) (e : k = k') : EP X pins σ Q (.bool k') s := by
  subst e
  exact ⟨.bl k, H, I, rfl, q⟩
theorem op_eq : OpR X (compareOp .Eq) rEq := by
  intro pins s σ H x y v u Q I rx ry h
  obtain ⟨hs, q⟩ := h
  cases x with
  | non =>
    cases rx
    cases y with
    | non => cases ry; exact PySem.EqNone.eq_none_none (fin_bl I q (by simp))
    | bl j => cases ry; exact PySem.EqNone.eq_none_bool (fin_bl I q (by simp))
    | int j => obtain ⟨t', rfl⟩ := ry; exact PySem.EqNone.eq_none_int (fin_bl I q (by simp))
    | str j => obtain ⟨t', rfl⟩ := ry; exact PySem.EqNone.eq_none_str (fin_bl I q (by simp))
    | _ => exact absurd (show false = true from hs) Bool.false_ne_true
  | bl i =>
    cases rx
    cases y with
    | non => cases ry; exact PySem.EqNone.eq_bool_none (fin_bl I q (by simp))
    | bl j => cases ry; exact eq_bool (fin_bl I q dec_bl)
    | str j => obtain ⟨t', rfl⟩ := ry; exact PySem.EqMixed.eq_bool_str (fin_bl I q (by simp))
    | _ => exact absurd (show false = true from hs) Bool.false_ne_true
  | int i =>
    obtain ⟨t, rfl⟩ := rx
    cases y with
    | non => cases ry; exact PySem.EqNone.eq_int_none (fin_bl I q (by simp))
    | int j => obtain ⟨t', rfl⟩ := ry; exact eq_int (fin_bl I q dec_int)
    | str j => obtain ⟨t', rfl⟩ := ry; exact PySem.EqMixed.eq_int_str (fin_bl I q (by simp))
    | _ => exact absurd (show false = true from hs) Bool.false_ne_true
  | str i =>
    obtain ⟨t, rfl⟩ := rx
    cases y with
    | non => cases ry; exact PySem.EqNone.eq_str_none (fin_bl I q (by simp))
    | bl j => cases ry; exact PySem.EqMixed.eq_str_bool (fin_bl I q (by simp))
    | int j => obtain ⟨t', rfl⟩ := ry; exact PySem.EqMixed.eq_str_int (fin_bl I q (by simp))
    | str j => obtain ⟨t', rfl⟩ := ry; exact eq_str (fin_bl I q dec_str)
    | _ => exact absurd (show false = true from hs) Bool.false_ne_true
  | byt i =>
    obtain ⟨t, rfl⟩ := rx
    cases y with
    | byt j => obtain ⟨t', rfl⟩ := ry; exact PySem.W.eq_bytes (fin_bl I q dec_byt)
    | _ => exact absurd (show false = true from hs) Bool.false_ne_true
  | _ => cases y <;> exact absurd (show false = true from hs) Bool.false_ne_true
theorem op_ne : OpR X (compareOp .NotEq) rNe := by
  intro pins s σ H x y v u Q I rx ry h
  obtain ⟨hs, q⟩ := h
  cases x with
  | non =>
    cases rx
    cases y with
    | non => cases ry; exact PySem.EqNone.ne_none_none (fin_bl I q (by simp))
    | bl j => cases ry; exact PySem.EqNone.ne_none_bool (fin_bl I q (by simp))
    | int j => obtain ⟨t', rfl⟩ := ry; exact PySem.EqNone.ne_none_int (fin_bl I q (by simp))
    | str j => obtain ⟨t', rfl⟩ := ry; exact PySem.EqNone.ne_none_str (fin_bl I q (by simp))
    | _ => exact absurd (show false = true from hs) Bool.false_ne_true
  | bl i =>
    cases rx
    cases y with
    | non => cases ry; exact PySem.EqNone.ne_bool_none (fin_bl I q (by simp))
    | bl j => cases ry; exact ne_bool (fin_bl I q (congrArg not dec_bl))
    | str j => obtain ⟨t', rfl⟩ := ry; exact PySem.EqMixed.ne_bool_str (fin_bl I q (by simp))
    | _ => exact absurd (show false = true from hs) Bool.false_ne_true
  | int i =>
    obtain ⟨t, rfl⟩ := rx
    cases y with
    | non => cases ry; exact PySem.EqNone.ne_int_none (fin_bl I q (by simp))
    | int j => obtain ⟨t', rfl⟩ := ry; exact ne_int (fin_bl I q (congrArg not dec_int))
    | str j => obtain ⟨t', rfl⟩ := ry; exact PySem.EqMixed.ne_int_str (fin_bl I q (by simp))
    | _ => exact absurd (show false = true from hs) Bool.false_ne_true
  | str i =>
    obtain ⟨t, rfl⟩ := rx
    cases y with
    | non => cases ry; exact PySem.EqNone.ne_str_none (fin_bl I q (by simp))
    | bl j => cases ry; exact PySem.EqMixed.ne_str_bool (fin_bl I q (by simp))
    | int j => obtain ⟨t', rfl⟩ := ry; exact PySem.EqMixed.ne_str_int (fin_bl I q (by simp))
    | str j => obtain ⟨t', rfl⟩ := ry; exact ne_str (fin_bl I q (congrArg not dec_str))
    | _ => exact absurd (show false = true from hs) Bool.false_ne_true
  | byt i =>
    obtain ⟨t, rfl⟩ := rx
    cases y with
    | byt j => obtain ⟨t', rfl⟩ := ry; exact PySem.W.ne_bytes (fin_bl I q (congrArg not dec_byt))
    | _ => exact absurd (show false = true from hs) Bool.false_ne_true
  | _ => cases y <;> exact absurd (show false = true from hs) Bool.false_ne_true

theorem op_lt : OpR X (compareOp .Lt) (rI0 fun i j => .bl (decide (i < j))) := opB0 fun _ _ _ _ _ _ _ q => lt_int q
theorem op_le : OpR X (compareOp .LtE) (rI0 fun i j => .bl (decide (i ≤ j))) := opB0 fun _ _ _ _ _ _ _ q => le_int q
theorem op_gt : OpR X (compareOp .Gt) (rI0 fun i j => .bl (decide (j < i))) := opB0 fun _ _ _ _ _ _ _ q => gt_int q
/-- two rules for one operation: by cases -/
theorem OpR.or {f : Value → Value → Sem Value} {r r' : R2} (h : OpR X f r) (h' : OpR X f r') : OpR X f (fun x y H Q => r x y H Q ∨ r' x y H Q) := by
  intro pins s σ H x y v u Q I rx ry q
  rcases q with q | q
  · exact h pins s σ H x y v u Q I rx ry q
  · exact h' pins s σ H x y v u Q I rx ry q

theorem nomark (b : Expr) {op : CmpOp} (h : op ≠ .In := by decide) (h2 : op ≠ .NotIn := by decide) : behindInMarks op b = false := by
  have e1 : (op == CmpOp.In) = false := by cases op <;> first | rfl | exact absurd rfl h
  have e2 : (op == CmpOp.NotIn) = false := by cases op <;> first | rfl | exact absurd rfl h2
  cases b <;> simp [behindInMarks, e1, e2]
/-- a comparison as a value; hm: nomark b, or (for in, not in) by with_unfolding_all rfl -/
theorem pe_cmpR {op : CmpOp} {r : R2} (ho : OpR X (compareOp op) r) (ha : PE X a ta) (hb : PE X b tb) (hm : behindInMarks op b = false) : PE X (.Compare a [op] [b] pos) (tOp r ta tb) := by
  intro pins s σ H Q I h
  exact wpAny_Compare1 (binT ha hb I h fun v u s2 x y H2 I2 rx ry q => ho pins s2 σ H2 x y v u Q I2 rx ry q) hm
/-- a reading of a value as a test -/
def tTest (t : TE) : TT := fun σ H Q => t σ H fun x H' => ∃ k, x = .bl k ∧ Q k H'
theorem pt_cmpR {op : CmpOp} {r : R2} (ho : OpR X (compareOp op) r) (ha : PE X a ta) (hb : PE X b tb) (hm : behindInMarks op b = false) : PT X (.Compare a [op] [b] pos) (tTest (tOp r ta tb)) := by
  intro pins s σ H Q I h
  refine wpAny_isTrue_Compare1 (thn (ha pins s σ H _ I h) fun v s1 ⟨x, H1, I1, r1, q1⟩ => thn (hb pins s1 σ H1 _ I1 q1) fun u s2 ⟨y, H2, I2, r2, q2⟩ =>
    thn (ho pins s2 σ H2 x y v u _ I2 r1 r2 q2) fun c s3 ⟨z, H3, I3, r3, k, e, q3⟩ => ?_) hm
  subst e
  cases r3
  exact wpAny_truthy_bool ⟨H3, I3, q3⟩
/-- a op1 b op2 c -/
def tChain (r r' : R2) (ta tb tc : TE) : TE := fun σ H Q => ta σ H fun x H1 => tb σ H1 fun y H2 => r x y H2 fun z H3 => ∃ k, z = .bl k ∧
  (if k = true then tc σ H3 fun w' H4 => r' y w' H4 Q else Q (.bl false) H3)
theorem pe_chain {op op' : CmpOp} {r r' : R2} (ho : OpR X (compareOp op) r) (ho' : OpR X (compareOp op') r') (ha : PE X a ta) (hb : PE X b tb) (hc : PE X c tc)
    (hm : lastMarks [op, op'] [b, c] = false := by with_unfolding_all rfl) : PE X (.Compare a [op, op'] [b, c] pos) (tChain r r' ta tb tc) := by
  intro pins s σ H Q I h
  refine Compare_chain (thn (ha pins s σ H _ I h) fun v s1 ⟨x, H1, I1, r1, q1⟩ => chain_link (thn (hb pins s1 σ H1 _ I1 q1) fun u s2 ⟨y, H2, I2, r2, q2⟩ =>
    thn (ho pins s2 σ H2 x y v u _ I2 r1 r2 q2) fun d s3 ⟨z, H3, I3, r3, k, e, q3⟩ => ?_)) hm
  subst e
  cases r3
  refine wpAny_truthy_bool ?_
  cases k with
  | false => exact ite_ff ⟨.bl false, H3, I3, rfl, q3⟩
  | true => exact ite_tt (chain_last (thn (hc pins s3 σ H3 _ I3 q3) fun w' s4 ⟨z', H4, I4, r4, q4⟩ => ho' pins s4 σ H4 y z' u w' Q I4 r2 r4 q4))
theorem pt_chain {op op' : CmpOp} {r r' : R2} (ho : OpR X (compareOp op) r) (ho' : OpR X (compareOp op') r') (ha : PE X a ta) (hb : PE X b tb) (hc : PE X c tc)
    (hm : lastMarks [op, op'] [b, c] = false := by with_unfolding_all rfl) : PT X (.Compare a [op, op'] [b, c] pos) (tTest (tChain r r' ta tb tc)) := by
  intro pins s σ H Q I h
  refine isTrue_chain (thn (ha pins s σ H _ I h) fun v s1 ⟨x, H1, I1, r1, q1⟩ => test_link (thn (hb pins s1 σ H1 _ I1 q1) fun u s2 ⟨y, H2, I2, r2, q2⟩ =>
    thn (ho pins s2 σ H2 x y v u _ I2 r1 r2 q2) fun d s3 ⟨z, H3, I3, r3, k, e, q3⟩ => ?_)) hm
  subst e
  cases r3
  refine wpAny_truthy_bool ?_
  cases k with
  | false =>
    obtain ⟨k', e', q'⟩ := q3
    cases e'
    exact ite_ff ⟨H3, I3, q'⟩
  | true =>
    refine ite_tt (test_last (thn (hc pins s3 σ H3 _ I3 q3) fun w' s4 ⟨z', H4, I4, r4, q4⟩ => thn (ho' pins s4 σ H4 y z' u w' _ I4 r2 r4 q4) fun d' s5 ⟨z2, H5, I5, r5, k2, e2, q5⟩ => ?_))
    subst e2
    cases r5
    exact wpAny_truthy_bool ⟨H5, I5, q5⟩

theorem line63 : (sizeLine : Nat) < 2 ^ 63 := by rw [sizeLine_eq]; decide
theorem op_add_str : OpR X (binaryOp .Add) (fun x y H Q => ∃ i j, x = .str i ∧ y = .str j ∧ i.length + j.length ≤ sizeLine ∧ Q (.str (i ++ j)) H) := by
  intro pins s σ H x y v u Q I rx ry h
  obtain ⟨i, j, rfl, rfl, hz, q⟩ := h
  obtain ⟨t, rfl⟩ := rx
  obtain ⟨t', rfl⟩ := ry
  exact add_str (fun t' tk => ⟨.str (i ++ j), H, I.tok _, ⟨_, rfl⟩, q⟩) hz
theorem vals1 {x : V} {us : List Value} (r : Vals [x] us) : ∃ u, us = [u] ∧ RelV x u := by
  cases r with
  | cons r1 r2 => cases r2; exact ⟨_, rfl, r1⟩
theorem vals2 {x y : V} {us : List Value} (r : Vals [x, y] us) : ∃ u w', us = [u, w'] ∧ RelV x u ∧ RelV y w' := by
  cases r with
  | cons r1 r2 =>
    cases r2 with
    | cons r3 r4 => cases r4; exact ⟨_, _, rfl, r1, r3⟩
theorem call_max2 (hc : X.calm = true) : CallR X (.builtin "max") (fun xs H Q => ∃ i j, xs = [.int i, .int j] ∧ Q (.int (if j > i then j else i)) H) := by
  intro pins s σ H xs us Q I r h
  obtain ⟨i, j, rfl, q⟩ := h
  obtain ⟨u, w', rfl, ⟨t, rfl⟩, ⟨t', rfl⟩⟩ := vals2 r
  refine max_two_ints (I.ok.hd hc) fun h' tk k => ⟨_, H, I.kept k, ?_, q⟩
  by_cases hj : j > i
  · rw [if_pos hj, if_pos hj]; exact ⟨_, rfl⟩
  · rw [if_neg hj, if_neg hj]; exact ⟨_, rfl⟩
theorem call_min2 (hc : X.calm = true) : CallR X (.builtin "min") (fun xs H Q => ∃ i j, xs = [.int i, .int j] ∧ Q (.int (if j < i then j else i)) H) := by
  intro pins s σ H xs us Q I r h
  obtain ⟨i, j, rfl, q⟩ := h
  obtain ⟨u, w', rfl, ⟨t, rfl⟩, ⟨t', rfl⟩⟩ := vals2 r
  refine min_two_ints (I.ok.hd hc) fun h' tk k => ⟨_, H, I.kept k, ?_, q⟩
  by_cases hj : j < i
  · rw [if_pos hj, if_pos hj]; exact ⟨_, rfl⟩
  · rw [if_neg hj, if_neg hj]; exact ⟨_, rfl⟩
theorem call_int1 : CallR X (.type "int") (fun xs H Q => (∃ i, xs = [.int i] ∧ Q (.int i) H) ∨ ∃ k, xs = [.bl k] ∧ Q (.int (if k then 1 else 0)) H) := by
  intro pins s σ H xs us Q I r h
  rcases h with ⟨i, rfl, q⟩ | ⟨k, rfl, q⟩
  · obtain ⟨u, rfl, t, rfl⟩ := vals1 r
    exact call_int_int ⟨.int i, H, I, ⟨_, rfl⟩, q⟩
  · obtain ⟨u, rfl, r1⟩ := vals1 r
    cases r1
    exact call_int_bool ⟨.int (if k then 1 else 0), H, I.tok _, ⟨_, rfl⟩, q⟩
end
end L2

namespace L2
open PySem PySem.Spec PyProof.Rows

structure ObjM (h : Heap) (x dx C : Addr) (mA : Str → Option Value) : Prop where
  obj : h.get? x = some (PySem.W.instObj C dx)
  ns : h.Ns1 dx mA
  ne : dx ≠ x

theorem lookIn_ns {h : Heap} {dx : Addr} {mA : Str → Option Value} (n : h.Ns1 dx mA) : ∃ od, h.get? dx = some od ∧ ∀ name, PySem.W.lookIn name od = some (mA name) := by
  obtain ⟨o, es, ep, ho, hd, hk, _, hm⟩ := n
  refine ⟨o, ho, fun name => ?_⟩
  have e := hm name
  unfold nsFind findBy at e
  rw [← Array.find?_toList] at e
  unfold PySem.W.lookIn
  rw [hd]
  dsimp only
  split
  · rename_i y q
    rw [q] at e
    exact congrArg some e
  · rename_i q
    rw [q] at e
    have a : es.toList.any (·.refKey) = false := by
      rw [List.any_eq_false]
      intro y hy
      obtain ⟨z, t, hkey⟩ := hk y (Array.mem_toList_iff.mp hy)
      simp [DictEntry.refKey, hkey]
    have a' : ¬ es.toList.any (·.refKey) = true := by rw [a]; exact Bool.false_ne_true
    rw [if_neg a']
    exact congrArg some e

theorem ObjM.look {h : Heap} {x dx C : Addr} {mA : Str → Option Value} (I : ObjM h x dx C mA) : ∃ od, PySem.W.InstAt h x (PySem.W.instObj C dx) C (some od) ∧ ∀ name, PySem.W.lookIn name od = some (mA name) :=
  let ⟨od, ho, hl⟩ := lookIn_ns I.ns
  ⟨od, ⟨I.obj, rfl, rfl, ho⟩, hl⟩

section
variable {prog : Program} {w : World} {A : Around} {E : Value → Shared → Prop} {s : Shared} {K : PySem.W.Frag} {x dx C f : Addr} {mA : Str → Option Value} {name : Str} {v : Value}

end

section
variable {P : Program} {w : World} {H H' : Hp} {h h' : Heap} {a C dx : Addr} {fs fs' : List (Str × V)}
theorem ins_get (hok : HOk P w H h) (e : H a = some (.ins C dx fs)) : ∃ mA, ObjM h a dx C mA ∧ (∀ f, RelO (fs.lookup f) (mA f)) ∧ PySem.Within mA (fs.map (·.1)) ∧ fs.length ≤ 1000 ∧ H dx = some (.own a) := by
  obtain ⟨d, z, ne, ob, mA, n, r, q⟩ := (show ObjOk P w H h a (.ins C dx fs) from hok a _ e)
  exact ⟨mA, ⟨ob, n, ne⟩, r, q, z, d⟩
end

structure Cls (K : PySem.W.Frag) (C : Addr) : Prop where
  pg : PySem.W.plainGet K C Str.empty = true
  hd : PySem.W.hasDictIn K C = true
  po : PySem.W.plainOver K C = true
  sa : PySem.W.findIn K (.ref C) "__setattr__" = some (some (.builtin "object.__setattr__"))
theorem Cls.get {K : PySem.W.Frag} {C : Addr} (c : Cls K C) (f : Str) : PySem.W.plainGet K C f = true := c.pg
/-- a constant of the class -/
structure Con (K : PySem.W.Frag) (C : Addr) (f : Str) (v : V) (u : Value) : Prop where
  at_ : PySem.W.findIn K (.ref C) f = some (some u)
  rel : RelV v u
  get : PySem.W.specialIn K u "__get__" = some none
  cp : PySem.W.copiedNames.contains f = false
/-- a method: a plain def of the class or of one above it -/
structure Meth (K : PySem.W.Frag) (C : Addr) (m : Str) (f : Addr) : Prop where
  at_ : PySem.W.findIn K (.ref C) m = some (some (.ref f))
  fn : PySem.W.isFn K (.ref f) = true
  kp : PySem.W.keepIn K (.ref f) = true

section
variable {X : Cx} {pins : List (Addr × Obj)} {σ : St} {H : Hp} {s : Shared} {a C dx : Addr} {fs : List (Str × V)} {f : Str} {v : V} {A : Around} {E : Value → Shared → Prop}

/-- a new instance, tracked, without attributes -/
theorem Inv.made (I : Inv X pins σ H s) : Inv X pins σ (upd (upd H s.heap.objs.size (.own (s.heap.objs.size + 1))) (s.heap.objs.size + 1) (.ins C s.heap.objs.size []))
    { s with heap := (s.heap.push PySem.W.emptyDict).push (PySem.W.instObj C s.heap.objs.size) } := by
  have e1 : (s.heap.push PySem.W.emptyDict).get? s.heap.objs.size = some PySem.W.emptyDict := Heap.get?_push_size s.heap rfl
  have e2 : ((s.heap.push PySem.W.emptyDict).push (PySem.W.instObj C s.heap.objs.size)).get? (s.heap.objs.size + 1) = some (PySem.W.instObj C s.heap.objs.size) := by
    have := Heap.get?_push_size (s.heap.push PySem.W.emptyDict) (o := PySem.W.instObj C s.heap.objs.size) rfl
    rwa [Heap.size_push] at this
  have e3 : (s.heap.push PySem.W.emptyDict).Ns s.heap.objs.size (fun _ => none) := ⟨PySem.W.emptyDict, #[], _, e1, rfl, (fun e he => absurd he (by simp)), fun _ => rfl⟩
  have I1 := I.laid (a := s.heap.objs.size) (o := .own (s.heap.objs.size + 1)) (h' := s.heap.push PySem.W.emptyDict) (t' := s.toks) (fun b u q => Heap.get?_push_of_some _ q) (Nat.le_refl _) ⟨_, e1⟩
  refine I1.laid (a := s.heap.objs.size + 1) (o := .ins C s.heap.objs.size []) (t' := s.toks) (fun b u q => Heap.get?_push_of_some _ q) (Nat.le_of_eq (Heap.size_push _ _)) ?_
  have ne : s.heap.objs.size ≠ s.heap.objs.size + 1 := Nat.ne_of_lt (Nat.lt_succ_self _)
  refine ⟨by rw [upd_ne ne, upd_same], Nat.zero_le _, ne, e2, fun _ => none, (Heap.Ns1.of_empty e3).at fun o q => Heap.get?_push_of_some _ q, fun _ => True.intro, fun y hy => absurd rfl hy⟩

end

section
variable {X : Cx} {o e value : Expr} {f : Str} {pos pos' tpos : Pos} {ta tv : TE}
end

section
variable {X : Cx} {pins : List (Addr × Obj)} {σ : St} {H : Hp} {s : Shared} {A : Around} {E : Value → Shared → Prop} {Q : Value → Shared → Prop} {c : Value} {b : Bool}
/-- the type of a value, as the fragment's deciders take it; for an instance its class -/
inductive TyOf (K : PySem.W.Frag) (H : Hp) : V → Value → Prop where
  | non : TyOf K H .non (.type "NoneType")
  | bl (x : Bool) : TyOf K H (.bl x) (.type "bool")
  | int (i : Int) : TyOf K H (.int i) (.type "int")
  | str (x : Str) : TyOf K H (.str x) (.type "str")
  | flt (x : UInt64) : TyOf K H (.flt x) (.type "float")
  | lst {a : Addr} {xs : List V} (e : H a = some (.lst xs)) : TyOf K H (.ref a) (.type "list")
  | frz {a : Addr} {o : Obj} {xs : List V} (e : H a = some (.frz o (.lst xs))) : TyOf K H (.ref a) (.type "list")
  | tup {a : Addr} {xs : List V} (e : H a = some (.tup xs)) : TyOf K H (.ref a) (.type "tuple")
  | dK {a : Addr} {kvs : List (Key × V)} (e : H a = some (.dK kvs)) : TyOf K H (.ref a) (.type "dict")
  | dT {a : Addr} {kvs : List (List Key × V)} (e : H a = some (.dT kvs)) : TyOf K H (.ref a) (.type "dict")
  | ins {a C dx : Addr} {fs : List (Str × V)} (e : H a = some (.ins C dx fs)) (cl : Cls K C) (ha : PySem.W.findIn K (.ref C) "__class__" = some (some (.builtin "object.__class__")))
      (hn : PySem.W.specialIn K (.builtin "object.__class__") "__get__" = some (some (.builtin "getset_descriptor.__get__"))) (htk : PySem.W.takesIn K (.builtin "object.__class__") = some true)
      (hm : PySem.W.mroIn K C (.type "object") = some true) : TyOf K H (.ref a) (.ref C)
/-- isinstance(x, c) for one class c, a built-in or an own one: kitOne's answer -/
theorem isinst_ok {x : V} {u t : Value} (I : Inv X pins σ H s) (rx : RelV x u) (ty : TyOf X.K H x t) (e : PySem.W.kitOne X.K t c = some b) (h : ∀ tk, Q (.bool b) { s with toks := tk }) :
    wpAny (model X.prog X.w) A (call (.builtin "isinstance") [u, c]) Q E s := by
  cases ty with
  | non => cases (show u = Value.none from rx); exact PySem.W.kia_one PySem.W.kitx_none I.kIn True.intro e (fun z => nomatch z) h
  | bl y => cases (show u = Value.bool y from rx); exact PySem.W.kia_one PySem.W.kitx_bool I.kIn True.intro e (fun z => nomatch z) h
  | int i => obtain ⟨t, q⟩ := (show ∃ t, u = Value.int i t from rx); cases q; exact PySem.W.kia_one PySem.W.kitx_int I.kIn True.intro e (fun z => nomatch z) h
  | str y => obtain ⟨t, q⟩ := (show ∃ t, u = Value.str y t from rx); cases q; exact PySem.W.kia_one PySem.W.kitx_str I.kIn True.intro e (fun z => nomatch z) h
  | flt y => obtain ⟨t, q⟩ := (show ∃ t, u = Value.float y t from rx); cases q; exact PySem.W.kia_one PySem.W.kitx_float I.kIn True.intro e (fun z => nomatch z) h
  | @lst a xs ea =>
    cases (show u = Value.ref a from rx)
    obtain ⟨_, _, n, _, h1⟩ := (show ObjOk X.prog X.w H s.heap a (.lst xs) from I.hok a _ ea)
    exact PySem.W.kia_one PySem.W.kitx_list I.kIn ⟨_, h1, rfl⟩ e (fun z => nomatch z) h
  | @frz a ob xs ea =>
    cases (show u = Value.ref a from rx)
    obtain ⟨_, _, _, n, _, h1⟩ := (show ObjOk X.prog X.w H s.heap a (.frz ob (.lst xs)) from I.hok a _ ea)
    exact PySem.W.kia_one PySem.W.kitx_list I.kIn ⟨_, h1, rfl⟩ e (fun z => nomatch z) h
  | @tup a xs ea =>
    cases (show u = Value.ref a from rx)
    obtain ⟨_, _, _, p⟩ := (show ObjOk X.prog X.w H s.heap a (.tup xs) from I.hok a _ ea)
    obtain ⟨o, h1, h2, _⟩ := p
    exact PySem.W.kia_one PySem.W.kitx_tuple I.kIn ⟨o, h1, h2⟩ e (fun z => nomatch z) h
  | @dK a kvs ea =>
    cases (show u = Value.ref a from rx)
    obtain ⟨_, _, vs, _, p⟩ := (show ObjOk X.prog X.w H s.heap a (.dK kvs) from I.hok a _ ea)
    obtain ⟨o, es, ep, h1, h2, _⟩ := p
    exact PySem.W.kia_one PySem.W.kitx_dict I.kIn ⟨o, h1, h2.1⟩ e (fun z => nomatch z) h
  | @dT a kvs ea =>
    cases (show u = Value.ref a from rx)
    obtain ⟨_, _, xs, _, o, es, ep, h1, h2, _⟩ := (show ObjOk X.prog X.w H s.heap a (.dT kvs) from I.hok a _ ea)
    exact PySem.W.kia_one PySem.W.kitx_dict I.kIn ⟨o, h1, h2.1⟩ e (fun z => nomatch z) h
  | @ins a C dx fs ea cl ha hn htk hm =>
    cases (show u = Value.ref a from rx)
    obtain ⟨mA, O, _⟩ := ins_get I.hok ea
    obtain ⟨od, J, _⟩ := O.look
    exact PySem.W.kia_one (PySem.W.kitx_own (cl.get _) cl.hd ha hn htk hm) I.kIn J e (fun z => nomatch z) h
end
end L2

namespace L2
open PySem PySem.Spec PyProof.Rows

structure Room (k : Nat) (A : Around) : Prop where
  hd : A.handled = none
  dp : A.depth + 3 * k + 5 < recursionLimit
  un : A.units + 16 * k + 200 < cLine
theorem Room.mono {j k : Nat} {A : Around} (r : Room k A) (h : j ≤ k) : Room j A := ⟨r.hd, by have := r.dp; omega, by have := r.un; omega⟩
theorem Room.deeper {k : Nat} {A : Around} (r : Room (k + 1) A) (env : Env) : Room k (A.deeper env) :=
  ⟨r.hd, by have := r.dp; show A.depth + 1 + 3 * k + 5 < _; omega, by have := r.un; show A.units + 3 + 16 * k + 200 < _; omega⟩
theorem Room.in1 {k : Nat} {A : Around} (r : Room (k + 1) A) : Room k A.in1 :=
  ⟨r.hd, by have := r.dp; show A.depth + 3 * k + 5 < _; omega, by have := r.un; show A.units + 1 + 16 * k + 200 < _; omega⟩
theorem make_depth {A : Around} {C : Addr} {us : List Value} {kw : List (Str × Value)} : (A.under (.builtin "type.__call__" ⟨.ref C :: us, kw⟩)).depth = A.depth + 1 := by
  first | rfl | simp [Around.under, Code.weight, Code.isCreation, Code.isGuard, Code.isCaller, Code.frames, Code.isFrame, guardIds]
theorem make_units {A : Around} {C : Addr} {us : List Value} {kw : List (Str × Value)} : (A.under (.builtin "type.__call__" ⟨.ref C :: us, kw⟩)).units = A.units + 1 := by
  first | rfl | simp [Around.under, Code.cUnits, Code.frames, Code.isFrame]
theorem Room.make {k : Nat} {A : Around} (r : Room (k + 1) A) (C : Addr) (us : List Value) (kw : List (Str × Value)) : Room k (A.under (.builtin "type.__call__" ⟨.ref C :: us, kw⟩)) :=
  ⟨r.hd, by have := r.dp; rw [make_depth]; omega, by have := r.un; rw [make_units]; omega⟩
theorem Room.depth {k : Nat} {A : Around} (r : Room k A) : A.depth < recursionLimit := by have := r.dp; omega
theorem Room.units {k : Nat} {A : Around} (r : Room k A) : A.units + 64 < cLine := by have := r.un; omega
def tNil : TA := fun _ H Q => Q [] H
def tCons (ta : TE) (tr : TA) : TA := fun σ H Q => ta σ H fun x H1 => tr σ H1 fun xs H2 => Q (x :: xs) H2
section
variable {X : Cx} {e : Expr} {es : List Expr} {te : TE} {t : TA} {pos : Pos}
theorem pa_nil : PA X [] tNil := fun _ _ _ _ H Q I h => Calls.spliced_nil ⟨[], H, I, .nil, h⟩
theorem pa_cons (ha : PE X e te) (hr : PA X es t) (hs : starEach (e :: es) X.env = (false, eval e X.env) :: starEach es X.env := by rfl) : PA X (e :: es) (tCons te t) := by
  intro pos pins s σ H Q I h
  rw [hs]
  show wpAny _ _ (spliced ((false, eval e X.env) :: backTo pos (starEach es X.env))) _ _ s
  refine Calls.spliced_cons (thn (ha pins s σ H _ I h) fun u s1 ⟨x, H1, I1, r1, q1⟩ => ?_)
  exact thn (hr pos pins s1 σ H1 _ I1 q1) fun us s2 ⟨xs, H2, I2, r2, q2⟩ => ⟨x :: xs, H2, I2, .cons r1 r2, q2⟩

/-- a tuple, a list of written items -/
def tTup (t : TA) : TE := fun σ H Q => t σ H fun xs H1 => xs.length ≤ sizeLine ∧ ∀ p, H1 p = none → Q (.ref p) (upd H1 p (.tup xs))
def tLst (t : TA) : TE := fun σ H Q => t σ H fun xs H1 => xs.length ≤ sizeLine ∧ ∀ p, H1 p = none → Q (.ref p) (upd H1 p (.lst xs))
theorem pe_tup {x1} (h : PA X es t) : PE X (.Tuple es x1 pos) (tTup t) := by
  intro pins s σ H Q I hq
  refine wpAny_Tuple_spliced (thn (h pos pins s σ H _ I hq) fun us s1 ⟨xs, H1, I1, r, z, q⟩ => ⟨by rw [← r.length]; exact z, ?_⟩)
  have hf : H1 s1.heap.objs.size = none := I1.hok.fresh (Nat.le_refl _)
  refine ⟨.ref s1.heap.objs.size, upd H1 s1.heap.objs.size (.tup xs), I1.laid (t' := s1.toks) (fun b u e => Heap.get?_push_of_some _ e) (Nat.le_refl _) ?_, rfl, q _ hf⟩
  exact ⟨z, us, r, ⟨_, Heap.get?_push_size _ rfl, rfl, rfl, _, rfl⟩⟩
theorem pe_lst (h : PA X es t) : PE X (.List es pos) (tLst t) := by
  intro pins s σ H Q I hq
  refine wpAny_List_spliced (thn (h pos pins s σ H _ I hq) fun us s1 ⟨xs, H1, I1, r, z, q⟩ => ⟨by rw [← r.length]; exact z, ?_⟩)
  have hf : H1 s1.heap.objs.size = none := I1.hok.fresh (Nat.le_refl _)
  refine ⟨.ref s1.heap.objs.size, upd H1 s1.heap.objs.size (.lst xs), I1.laid (t' := s1.toks) (fun b u e => Heap.get?_push_of_some _ e) (Nat.le_refl _) ?_, rfl, q _ hf⟩
  exact ⟨z, us, 0, r, Heap.get?_push_size _ rfl⟩
end

/-- a def's promise: the bound arguments in the parameters' order, the heap, the wanted end, the wanted exception -/
abbrev Sp := List V → Hp → VK → XK → Prop
/-- how an exception lies behind a call (file 08 gives it): the callers' frames, abstract heap and state ahead of the call, the wish, the exception, the state -/
abbrev CXT := List Env → Hp → Shared → XK → Value → Shared → Prop

/-- the state at a call -/
structure Env0 (P : Program) (w : World) (K : PySem.W.Frag) (mg : Str → Option Value) (base : Heap) (A : Around) (outer : List Env) (s : Shared) (H : Hp) : Prop where
  frames : A.frames = some outer
  mod : Mod K mg base
  bs : ∀ b o, base.get? b = some o → s.heap.get? b = some o ∧ H b = none
  bsz : base.objs.size ≤ s.heap.objs.size
  funs : s.heap.FunFrames base outer
  frf : ∀ b ∈ frs outer, H b = none
  hok : HOk P w H s.heap
  bare : AllBare s.gens
/-- a call's end -/
def CE (outer : List Env) (P : Program) (w : World) (H : Hp) (s : Shared) (Q : VK) (u : Value) (s' : Shared) : Prop :=
  ∃ v H', s'.os = s.os ∧ AllBare s'.gens ∧ Un (frs outer) [] H H' s.heap s'.heap ∧ HOk P w H' s'.heap ∧ RelV v u ∧ Q v H'
def CR (CX : CXT) (outer : List Env) (P : Program) (w : World) (H : Hp) (s : Shared) (Q : VK) (E : XK) (r : Result) (s' : Shared) : Prop :=
  match r with
  | .ok (.ret u) => CE outer P w H s Q u s'
  | .ok _ => False
  | .error e => CX outer H s E e s'
structure FnOk (P : Program) (w : World) (K : PySem.W.Frag) (mg : Str → Option Value) (base : Heap) (CX : CXT) (k : Nat) (f : Addr) (fd : FuncData) (ps : List Str) (sp : Sp) : Prop where
  len : ∀ vs H Q E, sp vs H Q E → vs.length = ps.length
  run : ∀ (A : Around) (outer : List Env) (s : Shared) (H : Hp) (args : Args) (us : List Value) (vs : List V) (Q : VK) (E : XK), Room k A → Env0 P w K mg base A outer s H → BindsTo s fd args (ps.zip us) → Vals vs us → sp vs H Q E →
    codeAny (model P w) A (.call (.ref f) args) (CR CX outer P w H s Q E) s
theorem FnOk.mono {P : Program} {w : World} {K : PySem.W.Frag} {mg : Str → Option Value} {base : Heap} {CX : CXT} {j k : Nat} {f : Addr} {fd : FuncData} {ps : List Str} {sp : Sp} (F : FnOk P w K mg base CX j f fd ps sp) (h : j ≤ k) :
    FnOk P w K mg base CX k f fd ps sp := ⟨F.len, fun A outer s H args us vs Q E hr => F.run A outer s H args us vs Q E (hr.mono h)⟩
/-- a weaker promise -/
theorem FnOk.imp {P : Program} {w : World} {K : PySem.W.Frag} {mg : Str → Option Value} {base : Heap} {CX : CXT} {k : Nat} {f : Addr} {fd : FuncData} {ps : List Str} {sp sp' : Sp} (F : FnOk P w K mg base CX k f fd ps sp)
    (h : ∀ vs H Q E, sp' vs H Q E → sp vs H Q E) : FnOk P w K mg base CX k f fd ps sp' :=
  ⟨fun vs H Q E q => F.len vs H Q E (h _ _ _ _ q), fun A outer s H args us vs Q E hr he hb hv hs => F.run A outer s H args us vs Q E hr he hb hv (h _ _ _ _ hs)⟩

theorem Env0.make {P : Program} {w : World} {K : PySem.W.Frag} {mg : Str → Option Value} {base : Heap} {A : Around} {outer : List Env} {s : Shared} {H : Hp} (e : Env0 P w K mg base A outer s H) (C : Addr) (us : List Value) (kw : List (Str × Value)) :
    Env0 P w K mg base (A.under (.builtin "type.__call__" ⟨.ref C :: us, kw⟩)) outer s H := ⟨by first | exact e.frames | (simpa [Around.under, Code.envs, Code.isFrame, pushEnvs] using e.frames), e.mod, e.bs, e.bsz, e.funs, e.frf, e.hok, e.bare⟩
theorem Env0.in1 {P : Program} {w : World} {K : PySem.W.Frag} {mg : Str → Option Value} {base : Heap} {A : Around} {outer : List Env} {s : Shared} {H : Hp} (e : Env0 P w K mg base A outer s H) :
    Env0 P w K mg base A.in1 outer s H := ⟨e.frames, e.mod, e.bs, e.bsz, e.funs, e.frf, e.hok, e.bare⟩

section
variable {X : Cx} {pins : List (Addr × Obj)} {σ : St} {H : Hp} {s s' : Shared}
/-- from a body: what a callee wants -/
theorem Inv.env0 (I : Inv X pins σ H s) : Env0 X.prog X.w X.K X.mg X.base X.A X.stack s H :=
  ⟨I.ok.frames, I.ok.mod, I.bs, Nat.le_trans I.ok.bsz I.sz, I.stack, I.stkFree, I.hok, I.bare⟩
/-- behind a call -/
theorem Inv.after {Q : VK} {u : Value} (I : Inv X pins σ H s) (h : CE X.stack X.prog X.w H s Q u s') : EP X pins σ Q u s' := by
  obtain ⟨v, H', os, bare, un, hok, r, q⟩ := h
  obtain ⟨hh, g, d, t, os'⟩ := s'
  obtain rfl : os' = s.os := os
  exact ⟨v, H', I.call (h' := hh) (g' := g) (d' := d) (t' := t) (ch := []) un hok bare (fun b z => absurd z (by simp)), r, q⟩
end

/-- f(..): the written arguments, then the defaults dvs; E: what is wanted of an exception -/
def tCall (sp : Sp) (dvs : List V) (E : XK) (t : TA) : TE := fun σ H Q => t σ H fun vs H1 => sp (vs ++ dvs) H1 Q E
/-- how the parameters are bound: us the positional arguments, kw the keywords' values by name, ds the defaults that fill up -/
def Binds (K : PySem.W.Frag) (fd : FuncData) (ps : List Str) (ds : List Value) : Prop :=
  ∀ (s : Shared) (us : List Value), K.In s.heap → (us ++ ds).length = ps.length → BindsTo s fd ⟨us, []⟩ (ps.zip (us ++ ds))
/-- every parameter is given -/
theorem Binds.all {K : PySem.W.Frag} {fd : FuncData} {ps : List Str} (h : ∀ us : List Value, us.length = ps.length → bindArgs fd ⟨us, []⟩ = pure (ps.zip us)) : Binds K fd ps [] := fun s us _ hl => by
  rw [List.append_nil] at hl ⊢
  exact .of_eq (h us hl)

/-- an exception of a callee reaches what this body wants of exceptions -/
def Passes (CX : CXT) (X : Cx) (E : XK) : Prop := ∀ (pins : List (Addr × Obj)) (σ : St) (H : Hp) (s : Shared) (e : Value) (s' : Shared), Inv X pins σ H s → CX X.stack H s E e s' → X.xe e s'

section
variable {X : Cx} {CX : CXT} {k : Nat} {f C : Addr} {fd : FuncData} {ps : List Str} {sp : Sp} {dvs : List V} {ds : List Value} {E : XK} {x m : Str} {p pos apos : Pos} {e o : Expr} {es : List Expr} {ta : TE} {t : TA}

/-- the callee runs -/
theorem run_fn {pins : List (Addr × Obj)} {σ : St} {H : Hp} {s : Shared} {Q : VK} {us : List Value} {vs : List V} (F : FnOk X.prog X.w X.K X.mg X.base CX k f fd ps sp) (hr : Room k X.A) (hb : Binds X.K fd ps ds) (hd : Vals dvs ds) (hx : Passes CX X E)
    (I : Inv X pins σ H s) (r : Vals vs us) (h : sp (vs ++ dvs) H Q E) : wpAny (model X.prog X.w) X.A (call (.ref f) us) (EP X pins σ Q) X.xe s := by
  have r2 : Vals (vs ++ dvs) (us ++ ds) := r.append hd
  have hl : (us ++ ds).length = ps.length := by rw [← r2.length]; exact F.len _ _ _ _ h
  refine wpAny_call (codeAny_mono (F.run X.A X.stack s H ⟨us, []⟩ (us ++ ds) (vs ++ dvs) Q E hr I.env0 (hb s us I.kIn hl) r2 h) fun r s' hq => ?_)
  cases r with
  | error e => exact hx pins σ H s e s' I hq
  | ok fl =>
    cases fl with
    | ret u => exact I.after hq
    | next => exact False.elim hq
    | brk => exact False.elim hq
    | cont => exact False.elim hq

theorem pe_call (F : FnOk X.prog X.w X.K X.mg X.base CX k f fd ps sp) (hr : Room k X.A) (hg : Gl X x) (hm : X.mg x = some (.ref f)) (hk : PySem.W.keepIn X.K (.ref f) = true) (hb : Binds X.K fd ps ds) (hd : Vals dvs ds) (hx : Passes CX X E)
    (ha : PA X (e :: es) t) (hdb : (x == ("__debug__" : Str)) = false := by decide) (he : starEach (e :: es) X.env = (false, eval e X.env) :: starEach es X.env := by rfl) (hpl : (backTo pos (starEach es X.env)).any (·.1) = false := by rfl) :
    PE X (.Call (.Name x p) (e :: es) [] pos) (tCall sp dvs E t) := by
  intro pins s σ H Q I h
  refine wpAny_Call_Name_kw (ld_glob I hg hm ?_ hdb)
  refine PySem.W.callWith_K (h₀ := X.base) I.ok.mod.kin hk (thn (ha pos pins s σ H _ I h) fun us s1 ⟨vs, H1, I1, r, q⟩ => ⟨I1.kIn, ?_⟩) he hpl
  exact run_fn F hr hb hd hx I1 r q
/-- what a class must have to be made -/
structure Mk (K : PySem.W.Frag) (C f : Addr) : Prop where
  makes : PySem.W.makesIn K C = true
  init : PySem.W.findIn K (.ref C) "__init__" = some (some (.ref f))
  fn : PySem.W.isFn K (.ref f) = true
  kp : PySem.W.keepIn K (.ref C) = true

end

section
variable {X : Cx} {CX : CXT} {k : Nat} {f C : Addr} {fd : FuncData} {ps ks : List Str} {sp : Sp} {E : XK} {x m : Str} {p pos apos kpos : Pos} {e o : Expr} {es : List Expr} {kws : List Keyword} {te ta : TE} {t tk : TA} {nm : Option Str}
/-- how a call with keywords binds: g puts the positional values us and the keywords' values ws (names ks) in the parameters' order, defaults among them -/
structure KBinds (K : PySem.W.Frag) (fd : FuncData) (ps ks : List Str) (g : List Value → List Value → List Value) (gV : List V → List V → List V) : Prop where
  to : ∀ (s : Shared) (us ws : List Value), K.In s.heap → (g us ws).length = ps.length → BindsTo s fd ⟨us, ks.zip ws⟩ (ps.zip (g us ws))
  rel : ∀ {vs : List V} {us : List Value} {zs : List V} {ws : List Value}, Vals vs us → Vals zs ws → Vals (gV vs zs) (g us ws)
variable {g : List Value → List Value → List Value} {gV : List V → List V → List V}
end

/-- names: the parameters first -/
structure FnScope (N P : List Str) (sc : Scope) : Prop where
  kind : sc.kind = .function
  co : sc.isCoroutine = false
  gen : sc.isGenerator = false
  nd : N.Nodup
  pre : N.take P.length = P
  par : ∀ x ∈ P, sc.names.lookup x = some .local ∨ sc.names.lookup x = some .cell
  nofree : ∀ y ∈ sc.names, y.2 ≠ .free

theorem bindL_out {kindOf : Str → Option NameKind} {x : Str} : ∀ {binds : List (Str × Value)} {m : Str → Option Value}, (∀ v, (x, v) ∉ binds) → bindL kindOf binds m x = m x
  | [], _, _ => rfl
  | (n, v) :: r, m, h => by
    unfold bindL
    rw [bindL_out fun w hw => h w (List.mem_cons_of_mem _ hw)]
    split
    · have : x ≠ n := by rintro rfl; exact h v List.mem_cons_self
      simp [this]
    · rfl
theorem bindC_out {kindOf : Str → Option NameKind} {x : Str} : ∀ {binds : List (Str × Value)} {m : Str → Option Value}, (∀ v, (x, v) ∉ binds) → bindC kindOf binds m x = m x
  | [], _, _ => rfl
  | (n, v) :: r, m, h => by
    unfold bindC
    rw [bindC_out fun w hw => h w (List.mem_cons_of_mem _ hw)]
    split
    · rfl
    · have : x ≠ n := by rintro rfl; exact h v List.mem_cons_self
      simp [this]
theorem bindL_get {kindOf : Str → Option NameKind} {x : Str} {v : Value} : ∀ {P : List Str} {vs : List Value} {i : Nat} {m : Str → Option Value}, P.Nodup → P[i]? = some x → vs[i]? = some v → kindOf x = some .local →
    bindL kindOf (P.zip vs) m x = some v
  | [], _, _, _, _, h, _, _ => by simp at h
  | _ :: _, [], _, _, _, _, h, _ => by simp at h
  | p :: P, w :: vs, 0, m, nd, h1, h2, hk => by
    simp at h1 h2; subst h1; subst h2
    show bindL kindOf ((p, w) :: P.zip vs) m p = _
    unfold bindL
    rw [bindL_out fun v hv => (List.nodup_cons.mp nd).1 (List.of_mem_zip hv).1, if_pos hk]
    simp
  | p :: P, w :: vs, i + 1, m, nd, h1, h2, hk => by
    show bindL kindOf ((p, w) :: P.zip vs) m x = _
    unfold bindL
    exact bindL_get (i := i) (List.nodup_cons.mp nd).2 (by simpa using h1) (by simpa using h2) hk
theorem bindC_get {kindOf : Str → Option NameKind} {x : Str} {v : Value} : ∀ {P : List Str} {vs : List Value} {i : Nat} {m : Str → Option Value}, P.Nodup → P[i]? = some x → vs[i]? = some v → kindOf x ≠ some .local →
    bindC kindOf (P.zip vs) m x = some v
  | [], _, _, _, _, h, _, _ => by simp at h
  | _ :: _, [], _, _, _, _, h, _ => by simp at h
  | p :: P, w :: vs, 0, m, nd, h1, h2, hk => by
    simp at h1 h2; subst h1; subst h2
    show bindC kindOf ((p, w) :: P.zip vs) m p = _
    unfold bindC
    rw [bindC_out fun v hv => (List.nodup_cons.mp nd).1 (List.of_mem_zip hv).1, if_neg hk]
    simp
  | p :: P, w :: vs, i + 1, m, nd, h1, h2, hk => by
    show bindC kindOf ((p, w) :: P.zip vs) m x = _
    unfold bindC
    exact bindC_get (i := i) (List.nodup_cons.mp nd).2 (by simpa using h1) (by simpa using h2) hk

/-- the names' values at the entry -/
def start (N : List Str) (vs : List V) : St := vs.map some ++ List.replicate (N.length - vs.length) none

/-- the context of a def's body, at its entry; an exception leaves the frame, then lies as CX says -/
def cxOf (CX : CXT) (P : Program) (w : World) (K : PySem.W.Frag) (mg : Str → Option Value) (base : Heap) (N : List Str) (qual : Str) (scope : Scope) (f : Addr) (cd : Value) (A : Around) (outer : List Env) (s : Shared) (H : Hp) (E : XK) : Cx where
  prog := P
  w := w
  K := K
  mg := mg
  base := base
  A := A.deeper (envOfC qual scope s.heap.objs.size f cd)
  N := N
  s_0 := s
  H_0 := H
  env := envOfC qual scope s.heap.objs.size f cd
  outer := outer
  stack := envOfC qual scope s.heap.objs.size f cd :: outer
  ex := []
  calm := true
  fn := fun _ => true
  pn := []
  xe := fun e s' => wpAny (model P w) (A.deeper (envOfC qual scope s.heap.objs.size f cd)) (leaving (envOfC qual scope s.heap.objs.size f cd) e) (fun _ s'' => CX outer H s E e s'') (fun e' s'' => CX outer H s E e' s'') s'

theorem cell_has {sc : Scope} {n : Nat} {x : Str} (h : sc.names.lookup x = some .cell) : ∃ c, (cellsFrom n sc.names []).lookup x = some c := by
  have q := PySem.W.cellsFrom_some sc.names n [] (.inl h)
  exact Option.isSome_iff_exists.mp q

theorem inv_start {CX : CXT} {P : Program} {w : World} {K : PySem.W.Frag} {mg : Str → Option Value} {base : Heap} {N ps : List Str} {qual : Str} {scope : Scope} {f : Addr} {cd : Value} {A : Around} {outer : List Env} {s s1 : Shared} {H : Hp} {E : XK} {us : List Value} {vs : List V}
    (S : FnScope N ps scope) (hd : A.handled = none) (e0 : Env0 P w K mg base A outer s H) (hl : vs.length = ps.length) (r : Vals vs us)
    (x : InCallC s s.heap.objs.size (bindL (envOfC qual scope s.heap.objs.size f cd).kindOf (ps.zip us) fun _ => none) (cellsFrom (s.heap.objs.size + 1) scope.names []) (bindC (envOfC qual scope s.heap.objs.size f cd).kindOf (ps.zip us) fun _ => none) s1) :
    Inv (cxOf CX P w K mg base N qual scope f cd A outer s H E) [] (start N vs) H s1 := by
  have hpl : ps.length ≤ N.length := by have := congrArg List.length S.pre; rw [List.length_take] at this; omega
  obtain ⟨h1, tk, rfl, hk⟩ := x.done
  have noA : ∀ b : Addr, b ∉ (cxOf CX P w K mg base N qual scope f cd A outer s H E).ex := fun b z => absurd (show b ∈ ([] : List Addr) from z) (by simp)
  refine ⟨⟨e0.mod, S.kind, rfl, rfl, Nat.le_refl _, fun y z c h1 h2 => ?_, fun y hy => ?_, fun y c _ h => ?_, fun _ => hd, Around.frames_deeper e0.frames, .inr ⟨rfl, rfl⟩, fun b z => absurd z (noA b), e0.bs, e0.bsz, fun b _ _ => noA b, fun b z => absurd z (noA b), e0.funs, e0.frf⟩,
    rfl, e0.bare, Un.kept hk, ⟨_, x.toInCall.ns, fun i y v h1 h2 h3 => ?_⟩, fun y c h => ⟨_, x.cell y c h⟩, e0.hok.fresh (Nat.le_refl _), fun y c h => ?_, fun p hp => absurd (show p ∈ ([] : List (Addr × Obj)) from hp) (by simp), e0.hok.kept hk, ?_⟩
  · exact name_of_addr x.apart (PySem.mem_of_lookup h1) (PySem.mem_of_lookup h2)
  · have hy : scope.names.lookup y = some .cell ∨ scope.names.lookup y = some .free := hy
    rcases hy with hy | hy
    · exact cell_has hy
    · exact absurd rfl (S.nofree _ (PySem.mem_of_lookup hy))
  · exact Nat.le_of_lt (x.above y c (PySem.mem_of_lookup h))
  · have hi : i < vs.length := by
      unfold start at h2
      by_cases hi : i < vs.length
      · exact hi
      · rw [List.getElem?_append_right (by simpa using hi)] at h2
        rw [List.getElem?_replicate] at h2
        split at h2 <;> cases h2
    have ha : vs[i]? = some v := by
      unfold start at h2
      rw [List.getElem?_append_left (by simpa using hi), List.getElem?_map] at h2
      cases e : vs[i]? with
      | none => rw [e] at h2; cases h2
      | some a => rw [e] at h2; cases h2; rfl
    obtain ⟨u, hu, rv⟩ := r.get ha
    have hp : ps[i]? = some y := by
      rw [← S.pre, List.getElem?_take_of_lt (by omega)]; exact h1
    have ndP : ps.Nodup := by rw [← S.pre]; exact S.nd.sublist (List.take_sublist _ _)
    refine ⟨u, rv, ?_⟩
    rcases S.par y (List.mem_of_getElem? hp) with k | k
    · exact .inl ⟨k, bindL_get ndP hp hu k⟩
    · obtain ⟨c, e⟩ := cell_has (n := s.heap.objs.size + 1) k
      refine .inr ⟨.inl k, c, e, ?_⟩
      have q := x.cell y c e
      rw [bindC_get ndP hp hu (by show scope.names.lookup y ≠ _; rw [k]; decide)] at q
      exact q
  · exact e0.hok.fresh (Nat.le_of_lt (x.above y c (PySem.mem_of_lookup h)))
  · unfold start
    show _ = N.length
    rw [List.length_append, List.length_map, List.length_replicate]
    omega

/-- THE RULE: a def (or a method) of the text, by its body. The body's reading t is chosen for each entry; it is run at the parameters' values -/
theorem fn_of {CX : CXT} {P : Program} {w : World} {K : PySem.W.Frag} {mg : Str → Option Value} {base : Heap} {k : Nat} {f : Addr} {name qual : Str} {params : Arguments} {body : List Stmt} {scope : Scope} {dV kV doc pm cdv ct oc : Value} {an od : Option Addr}
    {osl : Array (Option Value)} {N ps : List Str} {sp : Sp} (lk : K.lookup f = some ⟨oc, od, .func (PySem.W.fnOf name qual params body scope dV kV doc pm an cdv ct), osl⟩) (hcd : PySem.W.codeIn K cdv qual = true) (S : FnScope N ps scope)
    (len : ∀ vs H Q E, sp vs H Q E → vs.length = ps.length)
    (hbody : ∀ (A : Around) (outer : List Env) (s : Shared) (H : Hp) (vs : List V) (Q : VK) (E : XK), Room k (A.deeper (envOfC qual scope s.heap.objs.size f cdv)) → sp vs H Q E →
      ∃ t, PSs (cxOf CX P w K mg base N qual scope f cdv A outer s H E) body t ∧ t { nx := fun _ H' => Q .non H', rt := Q } (start N vs) H) :
    FnOk P w K mg base CX (k + 1) f (PySem.W.fnOf name qual params body scope dV kV doc pm an cdv ct) ps sp := by
  refine ⟨len, fun A outer s H args us vs Q E hr e0 hb r hsp => ?_⟩
  have hl := len _ _ _ _ hsp
  have KX : K.In s.heap := e0.mod.kin.keeps fun b o e => (e0.bs b o e).1
  have lim : s.heap.NoLimit := e0.mod.nolimit.keeps fun b o e => (e0.bs b o e).1
  have hkind : ∀ y ∈ ps.zip us, scope.names.lookup y.1 = some .local ∨ (scope.names.lookup y.1 = some .cell ∧ ((cellsFrom (s.heap.objs.size + 1) scope.names []).lookup y.1).isSome = true) := fun ⟨n, v⟩ hy => by
    rcases S.par n (List.of_mem_zip hy).1 with q | q
    · exact .inl q
    · exact .inr ⟨q, PySem.W.cellsFrom_some _ _ _ (.inl q)⟩
  refine codeAny_call_function hr.depth (KX _ _ lk) rfl S.co S.gen rfl (PySem.W.codeRec_of KX hcd) (hb _ _ _ _ ?_)
  refine wpAny_newFunctionEnv_cells S.kind hkind fun env he s1 x => ?_
  subst he
  refine ⟨lim.keeps x.toInCall.keep, codeAny_func ?_⟩
  obtain ⟨t, ht, hq⟩ := hbody A outer s H vs Q E (hr.deeper _) hsp
  have I : Inv (cxOf CX P w K mg base N qual scope f cdv A outer s H E) [] (start N vs) H s1 := inv_start S hr.hd e0 hl r x
  refine wpAny_mono (ht [] s1 (start N vs) H _ I hq) (fun fl s' hs => ?_) fun e s' hs => hs
  have fin : ∀ {σ' : St} {H' : Hp} {v : V} {u : Value}, Inv (cxOf CX P w K mg base N qual scope f cdv A outer s H E) [] σ' H' s' → RelV v u → Q v H' → CE outer P w H s Q u s' :=
    fun {σ' H' v u} J rv q => ⟨v, H', J.os, J.bare, J.base, J.hok, rv, q⟩
  cases fl with
  | ret u =>
    obtain ⟨v, σ', H', J, rv, q⟩ := hs
    exact fin J rv q
  | next =>
    obtain ⟨σ', H', J, q⟩ := hs
    exact fin (v := V.non) (u := Value.none) J rfl q
  | brk =>
    obtain ⟨_, _, _, q⟩ := hs
    exact False.elim q
  | cont =>
    obtain ⟨_, _, _, q⟩ := hs
    exact False.elim q
end L2

namespace L2
open PySem PySem.Spec PyProof.Rows
section
variable {X : Cx} {x : Str} {p pos : Pos} {e : Expr} {es : List Expr} {t : TA} {id T : String} {r : List V → Hp → VK → Prop}

def tCB (r : List V → Hp → VK → Prop) (t : TA) : TE := fun σ H Q => t σ H fun vs H1 => r vs H1 Q
/-- f(e, ..), f a built-in function -/
theorem pe_callB (hc : CallR X (.builtin id) r) (hg : Gl X x) (hm : X.mg x = none) (hv : bootBuiltins x = some (.builtin id)) (ha : PA X (e :: es) t) (hn : x ≠ "__name__" := by decide) (hdb : (x == ("__debug__" : Str)) = false := by decide)
    (he : starEach (e :: es) X.env = (false, eval e X.env) :: starEach es X.env := by rfl) (hpl : (backTo pos (starEach es X.env)).any (·.1) = false := by rfl) : PE X (.Call (.Name x p) (e :: es) [] pos) (tCB r t) := by
  intro pins s σ H Q I h
  refine wpAny_Call_Name_kw (ld_blt I hg hm hv ?_ hn hdb)
  exact PyProof.Rows.callWith_builtin1 (thn (ha pos pins s σ H _ I h) fun us s1 ⟨vs, H1, I1, r1, q1⟩ => hc pins s1 σ H1 vs us Q I1 r1 q1) he hpl
/-- T(e, ..), T a built-in type -/
theorem pe_callTy (hc : CallR X (.type T) r) (hg : Gl X x) (hm : X.mg x = none) (hv : bootBuiltins x = some (.type T)) (ha : PA X (e :: es) t) (hn : x ≠ "__name__" := by decide) (hdb : (x == ("__debug__" : Str)) = false := by decide)
    (he : starEach (e :: es) X.env = (false, eval e X.env) :: starEach es X.env := by rfl) (hpl : (backTo pos (starEach es X.env)).any (·.1) = false := by rfl) : PE X (.Call (.Name x p) (e :: es) [] pos) (tCB r t) := by
  intro pins s σ H Q I h
  refine wpAny_Call_Name_kw (ld_blt I hg hm hv ?_ hn hdb)
  exact PyProof.Rows.callWith_type1 (thn (ha pos pins s σ H _ I h) fun us s1 ⟨vs, H1, I1, r1, q1⟩ => hc pins s1 σ H1 vs us Q I1 r1 q1) he hpl
end
end L2

namespace HT
open PySem PyProof.Rows

section
open PySem.SeqAt
open PySem.AutoSeq1 (wpAny_loadPart')
open PySem.MeetsSeq PySem.MeetsSeq2 PySem.MeetsSeq3

end

section
variable {prog : Program} {w : World} {A : Around} {E : Value → Shared → Prop} {s : Shared}

/-- a slice's bound as a place among n (d where it is left out) -/
def sIx (n d : Nat) : Option Int → Nat
  | none => d
  | some v => if v < 0 then (v + (n : Int)).toNat else min v.toNat n
theorem sIx_none (n d : Nat) : sIx n d none = d := rfl
theorem sIx_nat (n d k : Nat) : sIx n d (some (k : Int)) = min k n := by
  show (if (k : Int) < 0 then ((k : Int) + (n : Int)).toNat else min (k : Int).toNat n) = min k n
  rw [if_neg (by omega), Int.toNat_natCast]
theorem sIx_le (n d : Nat) (hd : d ≤ n) (o : Option Int) : sIx n d o ≤ n := by
  cases o with
  | none => exact hd
  | some v =>
    show (if v < 0 then (v + (n : Int)).toNat else min v.toNat n) ≤ n
    by_cases hv : v < 0
    · rw [if_pos hv]; omega
    · rw [if_neg hv]; exact Nat.min_le_right _ _
end
end HT

namespace L2
open PySem PySem.Spec PyProof.Rows

abbrev TO := St → Hp → (Option Int → Hp → Prop) → Prop
/-- a slice's part (left out, or an int) -/
def PO (X : Cx) (e : Option Expr) (t : TO) : Prop :=
  ∀ (pins : List (Addr × Obj)) (s : Shared) (σ : St) (H : Hp) (Q : Option Int → Hp → Prop), Inv X pins σ H s → t σ H Q →
    wpAny (model X.prog X.w) X.A (evalPart e X.env) (fun u s' => ∃ o H', Inv X pins σ H' s' ∧ IsPart u o ∧ Q o H') X.xe s
def tNoPart : TO := fun _ H Q => Q none H
def tPart (t : TE) : TO := fun σ H Q => t σ H fun x H1 => ∃ i, x = .int i ∧ Q (some i) H1

section
variable {X : Cx} {e : Expr} {te : TE} {lo hi : Option Expr} {tl th : TO} {pos p2 : Pos}

theorem po_none : PO X none tNoPart := by
  intro pins s σ H Q I h
  rw [evalPart_none]
  exact wpAny_pure ⟨none, H, I, .none, h⟩
theorem po_some (h : PE X e te) : PO X (some e) (tPart te) := by
  intro pins s σ H Q I hw
  rw [evalPart_some]
  refine thn (h pins s σ H _ I hw) fun u s1 ⟨x, H1, I1, r1, q1⟩ => ?_
  obtain ⟨i, rfl, q⟩ := q1
  obtain ⟨t, rfl⟩ := r1
  exact ⟨some i, H1, I1, .int i t, q⟩

/-- what a slice of a value is, by values: the slice object stands at sl -/
def SlR (X : Cx) (r : V → Option Int → Option Int → Hp → VK → Prop) : Prop :=
  ∀ (pins : List (Addr × Obj)) (s : Shared) (σ : St) (H : Hp) (x : V) (v vl vu : Value) (lo hi : Option Int) (sl : Addr) (Q : VK), Inv X pins σ H s → RelV x v → s.heap.IsSliceOf sl vl vu .none → IsPart vl lo → IsPart vu hi → r x lo hi H Q →
    ∃ T id, typeLookup (.type T) "__getitem__" = pure (some (.builtin id)) ∧ s.TypeIs v T ∧ wpAny (model X.prog X.w) X.A (getItem v (.ref sl)) (EP X pins σ Q) X.xe s
theorem SlR.or {r r' : V → Option Int → Option Int → Hp → VK → Prop} (h : SlR X r) (h' : SlR X r') : SlR X (fun x lo hi H Q => r x lo hi H Q ∨ r' x lo hi H Q) := by
  intro pins s σ H x v vl vu lo hi sl Q I rx hs pl pu q
  rcases q with q | q
  · exact h pins s σ H x v vl vu lo hi sl Q I rx hs pl pu q
  · exact h' pins s σ H x v vl vu lo hi sl Q I rx hs pl pu q
def tSl (r : V → Option Int → Option Int → Hp → VK → Prop) (te : TE) (tl th : TO) : TE := fun σ H Q => te σ H fun x H1 => tl σ H1 fun l H2 => th σ H2 fun u H3 => r x l u H3 Q
/-- a[lo:hi], any a -/
theorem pe_slice {r : V → Option Int → Option Int → Hp → VK → Prop} (hr : SlR X r) (he : PE X e te) (hl : PO X lo tl) (hu : PO X hi th) : PE X (.Subscript e (.Slice lo hi none p2) pos) (tSl r te tl th) := by
  intro pins s σ H Q I h
  refine Subscript_ (thn (he pins s σ H _ I h) fun v s1 ⟨x, H1, I1, r1, q1⟩ => ?_)
  refine wpAny_Slice (thn (hl pins s1 σ H1 _ I1 q1) fun vl s2 ⟨l, H2, I2, pl, q2⟩ => thn (hu pins s2 σ H2 _ I2 q2) fun vu s3 ⟨u, H3, I3, pu, q3⟩ => ?_)
  rw [evalPart_none]
  refine wpAny_pure ?_
  have I4 : Inv X pins σ H3 { s3 with heap := s3.heap.push { cls := .type "slice", data := .fields #[vl, vu, .none] } } := I3.kept (t' := s3.toks) fun b ob q => Heap.get?_push_of_some _ q
  obtain ⟨T, id, hT, ht, hg⟩ := hr pins { s3 with heap := s3.heap.push { cls := .type "slice", data := .fields #[vl, vu, .none] } } σ H3 x v vl vu l u s3.heap.objs.size Q I4 r1 (Heap.IsSliceOf.new ..) pl pu q3
  show wpAny (model X.prog X.w) X.A (subscriptTail e (.Slice lo hi none p2) v (.ref s3.heap.objs.size)) (EP X pins σ Q) X.xe { s3 with heap := s3.heap.push { cls := .type "slice", data := .fields #[vl, vu, .none] } }
  exact tail_any (ops := [.ref s3.heap.objs.size, v]) ht hT hg (by with_unfolding_all rfl)

/-- the items of xs[lo:hi] -/
def cutV (xs : List V) (lo hi : Option Int) : List V := (xs.drop (HT.sIx xs.length 0 lo)).take (HT.sIx xs.length xs.length hi - HT.sIx xs.length 0 lo)
theorem cutV_length (xs : List V) (lo hi : Option Int) : (cutV xs lo hi).length ≤ xs.length := by
  unfold cutV
  rw [List.length_take, List.length_drop]
  omega
end
end L2

namespace L2
open PySem PySem.Spec PyProof.Rows

/-- the place that an index of any sign means -/
def ixN (n : Nat) (i : Int) : Option Nat := if 0 ≤ i then (if i < n then some i.toNat else none) else if -(n : Int) ≤ i then some (i + n).toNat else none
def atI {α : Type} (xs : List α) (i : Int) : Option α := (ixN xs.length i).bind fun j => xs[j]?
theorem ixN_seq {n : Nat} {i : Int} {j : Nat} (h : ixN n i = some j) : seqIndex? i n = some j ∧ j < n ∧ -(n : Int) ≤ i ∧ i < n := by
  unfold ixN at h
  by_cases h0 : 0 ≤ i
  · rw [if_pos h0] at h
    by_cases h1 : i < n
    · rw [if_pos h1] at h
      have e : i.toNat = j := Option.some.inj h
      exact ⟨by rw [seqIndex_of h0 h1, e], by omega, by omega, h1⟩
    · rw [if_neg h1] at h; cases h
  · rw [if_neg h0] at h
    by_cases h1 : -(n : Int) ≤ i
    · rw [if_pos h1] at h
      have e : (i + n).toNat = j := Option.some.inj h
      exact ⟨by rw [seqIndex_neg (by omega) h1, e], by omega, h1, by omega⟩
    · rw [if_neg h1] at h; cases h
theorem atI_get {α : Type} {xs : List α} {i : Int} {v : α} (h : atI xs i = some v) : ∃ j, seqIndex? i xs.length = some j ∧ xs[j]? = some v ∧ j < xs.length ∧ -(xs.length : Int) ≤ i ∧ i < xs.length := by
  unfold atI at h
  cases e : ixN xs.length i with
  | none => rw [e] at h; cases h
  | some j =>
    rw [e] at h
    obtain ⟨h1, h2, h3, h4⟩ := ixN_seq e
    exact ⟨j, h1, h, h2, h3, h4⟩
theorem atI_nat {α : Type} {xs : List α} {j : Nat} {v : α} (h : xs[j]? = some v) : atI xs (j : Int) = some v := by
  have hj : j < xs.length := (List.getElem?_eq_some_iff.mp h).1
  have e : ixN xs.length (j : Int) = some j := by
    unfold ixN
    rw [if_pos (by omega), if_pos (by omega)]; simp
  unfold atI; rw [e]; exact h
/-- what stands as an index of a plain subscript -/
def PlainIx (b : Expr) : Prop := ∀ o i, subscripted b false o i = operate [o, i] (getItem o i)
/-- a subscript by values -/
def IxR (X : Cx) (r : R2) : Prop :=
  ∀ (value slice : Expr) (pins : List (Addr × Obj)) (s : Shared) (σ : St) (H : Hp) (x y : V) (v u : Value) (Q : VK), Inv X pins σ H s → RelV x v → RelV y u → r x y H Q →
    subscripted slice false v u = operate [v, u] (getItem v u) → wpAny (model X.prog X.w) X.A (subscriptTail value slice v u) (EP X pins σ Q) X.xe s
/-- a call of a builtin's method by values: the receiver, the arguments -/
def MtR (X : Cx) (id : String) (r : V → List V → Hp → VK → Prop) : Prop :=
  ∀ (pins : List (Addr × Obj)) (s : Shared) (σ : St) (H : Hp) (x : V) (xs : List V) (v : Value) (us : List Value) (Q : VK), Inv X pins σ H s → RelV x v → Vals xs us → r x xs H Q →
    wpAny (model X.prog X.w) X.A (call (.builtin id) (v :: us)) (EP X pins σ Q) X.xe s
section
variable {X : Cx} {a b : Expr} {ta tb : TE} {pos : Pos}
theorem IxR.or {r r' : R2} (h : IxR X r) (h' : IxR X r') : IxR X (fun x y H Q => r x y H Q ∨ r' x y H Q) := by
  intro value slice pins s σ H x y v u Q I rx ry q hs
  rcases q with q | q
  · exact h value slice pins s σ H x y v u Q I rx ry q hs
  · exact h' value slice pins s σ H x y v u Q I rx ry q hs
theorem MtR.or {id : String} {r r' : V → List V → Hp → VK → Prop} (h : MtR X id r) (h' : MtR X id r') : MtR X id (fun x xs H Q => r x xs H Q ∨ r' x xs H Q) := by
  intro pins s σ H x xs v us Q I rx rs q
  rcases q with q | q
  · exact h pins s σ H x xs v us Q I rx rs q
  · exact h' pins s σ H x xs v us Q I rx rs q
/-- a[b] -/
theorem pe_ix {r : R2} (hr : IxR X r) (ha : PE X a ta) (hb : PE X b tb) (hs : PlainIx b) : PE X (.Subscript a b pos) (tOp r ta tb) := by
  intro pins s σ H Q I h
  exact Subscript_ (binT ha hb I h fun v u s2 x y H2 I2 rx ry q => hr a b pins s2 σ H2 x y v u Q I2 rx ry q (hs _ _))

def rIxL (K : PySem.W.Frag) : R2 := fun x y H Q => ∃ p xs i v, x = .ref p ∧ y = .int i ∧ SqL K H p xs ∧ atI xs i = some v ∧ Q v H
def rIxT (K : PySem.W.Frag) : R2 := fun x y H Q => ∃ p xs i v, x = .ref p ∧ y = .int i ∧ SqT K H p xs ∧ atI xs i = some v ∧ Q v H
def rIxS : R2 := fun x y H Q => ∃ z i c, x = .str z ∧ y = .int i ∧ z.length ≤ sizeLine ∧ atI z.cps.toList i = some c ∧ Q (.str ⟨#[c]⟩) H
theorem ix_list : IxR X (rIxL X.K) := by
  intro value slice pins s σ H x y v u Q I rx ry h hs
  obtain ⟨p, xs, i, z, rfl, rfl, hq, he, q⟩ := h
  cases rx
  obtain ⟨t, rfl⟩ := ry
  obtain ⟨its, r, pl, hz⟩ := I.list hq
  obtain ⟨j, h1, h2, h3, h4, h5⟩ := atI_get he
  obtain ⟨w, ew, rw'⟩ := r.get h2
  have hl := r.length
  have hn := line63
  have fin : EP X pins σ Q w s := ⟨z, H, I, rw', q⟩
  by_cases h0 : 0 ≤ i
  · have hj : i.toNat = j := by
      rw [seqIndex_of h0 h5] at h1
      exact Option.some.inj h1
    exact item_listR pl.isList h0 (by omega) (by rw [hj]; simpa using ew) fin hs
  · have hj : (i + (its.toArray.size : Int)).toNat = j := by
      rw [seqIndex_neg (by omega) h4] at h1
      rw [List.size_toArray, ← hl]
      exact Option.some.inj h1
    exact subscriptTail_builtinR (x := w) pl.isList.typeIs slot_list_getitem.lookup
      (wpAny_getItem_list_neg (Q := fun r s' => r = w ∧ EP X pins σ Q r s') pl.isList (by omega) (by rw [List.size_toArray] <;> omega) (by omega) (by rw [hj]; simpa using ew) ⟨rfl, fin⟩) hs
theorem ix_tup : IxR X (rIxT X.K) := by
  intro value slice pins s σ H x y v u Q I rx ry h hs
  obtain ⟨p, xs, i, z, rfl, rfl, hq, he, q⟩ := h
  cases rx
  obtain ⟨t, rfl⟩ := ry
  obtain ⟨its, r, pl, hz⟩ := I.tuple hq
  obtain ⟨j, h1, h2, h3, h4, h5⟩ := atI_get he
  obtain ⟨w, ew, rw'⟩ := r.get h2
  have hl := r.length
  have hn := line63
  have fin : EP X pins σ Q w s := ⟨z, H, I, rw', q⟩
  exact subscriptTail_builtinR (x := w) pl.typeIs slot_tuple_getitem.lookup
    (getItem_tuple (j := j) (Q := fun r s' => r = w ∧ EP X pins σ Q r s') pl (by omega) (by omega) (by rw [List.size_toArray, ← hl]; exact h1) (by simpa using ew) ⟨rfl, fin⟩) hs
theorem ix_str : IxR X rIxS := by
  intro value slice pins s σ H x y v u Q I rx ry h hs
  obtain ⟨z, i, c, rfl, rfl, hz, he, q⟩ := h
  obtain ⟨t, rfl⟩ := rx
  obtain ⟨t', rfl⟩ := ry
  obtain ⟨j, h1, h2, h3, h4, h5⟩ := atI_get he
  have hl : z.cps.toList.length = z.length := by simp [Str.length]
  rw [hl] at h1 h4 h5
  have hn := line63
  exact tail_any (typeIs_str s z t) slot_str_getitem.lookup (getItem_str (c := c) (by
    have e1 : decide (i < -(2 ^ 63 : Int)) = false := decide_eq_false (by omega)
    have e2 : decide (i ≥ 2 ^ 63) = false := decide_eq_false (by omega)
    rw [e1, e2, Bool.or_false]) (by rw [h1]; simpa using h2) ⟨.str ⟨#[c]⟩, H, I.tok _, ⟨_, rfl⟩, q⟩) hs
/-- the list's object behind a store -/
theorem mapSeq_set (its : List Value) (n j : Nat) (u : Value) : Obj.mapSeq (·.setIfInBounds j u) { cls := .type "list", data := .seq its.toArray n } = { cls := .type "list", data := .seq (its.set j u).toArray n } := by
  simp [Obj.mapSeq]
theorem Inv.lst {pins : List (Addr × Obj)} {σ : St} {H : Hp} {s : Shared} {p : Addr} {xs : List V} (I : Inv X pins σ H s) (h : H p = some (.lst xs)) :
    ∃ (its : List Value) (n : Nat), Vals xs its ∧ s.heap.get? p = some { cls := .type "list", data := .seq its.toArray n } ∧ xs.length ≤ sizeLine := by
  obtain ⟨z, its, n, r, e⟩ := I.hok p _ h
  exact ⟨its, n, r, e, z⟩
/-- the list at p is written by an update of its object -/
theorem Inv.lstUpd {pins : List (Addr × Obj)} {σ : St} {H : Hp} {s : Shared} {p : Addr} {xs ys : List V} {its its' : List Value} {n n' : Nat} {f : Obj → Obj} (I : Inv X pins σ H s) (h : H p = some (.lst xs))
    (ho : s.heap.get? p = some { cls := .type "list", data := .seq its.toArray n }) (hf : f { cls := .type "list", data := .seq its.toArray n } = { cls := .type "list", data := .seq its'.toArray n' }) (r : Vals ys its') (hz : ys.length ≤ sizeLine) (t : Nat) :
    Inv X pins σ (upd H p (.lst ys)) { s with heap := s.heap.update p f, toks := t } := by
  have e : (s.heap.update p f).get? p = some { cls := .type "list", data := .seq its'.toArray n' } := by
    rw [Heap.get?_update_self f ho (by rw [hf] <;> rfl), hf]
  refine I.write (x := p) (e := p) (by rw [h]; trivial) (.inl rfl) (fun b u hb q => (Heap.get?_update_other _ _ (Ne.symm hb)).trans q) ⟨_, e⟩ ?_
  exact ⟨hz, its', n', r, e⟩
def rSetL : V → V → V → Hp → (Hp → Prop) → Prop := fun o i v H Q => ∃ p xs k j, o = .ref p ∧ i = .int k ∧ H p = some (.lst xs) ∧ ixN xs.length k = some j ∧ Q (upd H p (.lst (xs.set j v)))
theorem set_list : PSet X rSetL := by
  intro pins s σ H o i v ov iv u Q I ro ri rv h
  obtain ⟨p, xs, k, j, rfl, rfl, hp, hj, q⟩ := h
  cases ro
  obtain ⟨t, rfl⟩ := ri
  obtain ⟨its, n, r, ho, hz⟩ := I.lst hp
  obtain ⟨h1, h2, h3, h4⟩ := ixN_seq hj
  have hl := r.length
  have hn := line63
  have I' : Inv X pins σ (upd H p (.lst (xs.set j v))) { s with heap := s.heap.update p (Obj.mapSeq (·.setIfInBounds j u)) } :=
    I.lstUpd hp ho (mapSeq_set its n j u) (r.set rv j) (by rw [List.length_set]; exact hz) s.toks
  by_cases h0 : 0 ≤ k
  · have hk : k.toNat = j := by
      rw [seqIndex_of h0 h4] at h1
      exact Option.some.inj h1
    exact PySem.W.ki_setAt ho h0 (by omega) (by rw [List.size_toArray, ← hl]; exact h4) (by rw [hk]; exact ⟨_, I', q⟩)
  · have hk : (k + (its.toArray.size : Int)).toNat = j := by
      rw [seqIndex_neg (by omega) h3] at h1
      rw [List.size_toArray, ← hl]
      exact Option.some.inj h1
    exact PySem.W.ki_setBack ho (by omega) (by rw [List.size_toArray, ← hl]; exact h3) (by omega) (by rw [hk]; exact ⟨_, I', q⟩)

theorem slice_bounds (lo hi : Option Int) (n : Nat) : (sliceBounds lo hi none n).1 = ((HT.sIx n 0 lo : Nat) : Int) ∧ (sliceBounds lo hi none n).2.1 = ((HT.sIx n n hi : Nat) : Int) ∧ (sliceBounds lo hi none n).2.2 = 1 := by
  refine ⟨?_, ?_, rfl⟩
  · cases lo with
    | none => simp [sliceBounds, HT.sIx]
    | some i =>
      simp only [sliceBounds, HT.sIx, Option.getD_none, show (1 : Int) > 0 by decide, if_true]
      by_cases h : i < 0
      · simp only [h, if_true] <;> omega
      · simp only [h, if_false] <;> omega
  · cases hi with
    | none => simp [sliceBounds, HT.sIx]
    | some i =>
      simp only [sliceBounds, HT.sIx, Option.getD_none, show (1 : Int) > 0 by decide, if_true]
      by_cases h : i < 0
      · simp only [h, if_true] <;> omega
      · simp only [h, if_false] <;> omega
theorem slicePick_cut (its : List Value) (lo hi : Option Int) : slicePick its.toArray lo hi none = ((its.drop (HT.sIx its.length 0 lo)).take (HT.sIx its.length its.length hi - HT.sIx its.length 0 lo)).toArray := by
  obtain ⟨h1, h2, h3⟩ := slice_bounds lo hi its.toArray.size
  unfold slicePick
  rw [h1, h2, h3]
  simp only [sliceRange_one, pick_run, List.size_toArray] <;> rfl
/-- xs[lo:hi] of a list: a new list -/
def rSlL (K : PySem.W.Frag) : V → Option Int → Option Int → Hp → VK → Prop := fun x lo hi H Q => ∃ a xs, x = .ref a ∧ SqL K H a xs ∧ ∀ p, H p = none → Q (.ref p) (upd H p (.lst (cutV xs lo hi)))
theorem sl_list : SlR X (rSlL X.K) := by
  intro pins s σ H x v vl vu lo hi sl Q I rx hs pl pu h
  obtain ⟨a, xs, rfl, hx, q⟩ := h
  cases rx
  obtain ⟨its, r, ht, hz⟩ := I.list hx
  have hlen := r.length
  refine ⟨"list", _, slot_list_getitem.lookup, ht.isList.typeIs, ?_⟩
  refine wpAny_getItem_list_slice ht.isList hs pl pu .none (by simp) ?_ (by rw [List.size_toArray] <;> omega)
  rw [slicePick_cut, ← hlen]
  refine ⟨.ref s.heap.objs.size, _, I.laid (t' := s.toks) (o := .lst (cutV xs lo hi)) (fun b ob q => Heap.get?_push_of_some _ q) (Nat.le_refl _) ?_, rfl, q _ (I.hok.fresh (Nat.le_refl _))⟩
  exact ⟨Nat.le_trans (cutV_length xs lo hi) hz, _, 0, (r.drop (HT.sIx xs.length 0 lo)).take (HT.sIx xs.length xs.length hi - HT.sIx xs.length 0 lo), Heap.get?_push_size _ rfl⟩

def flatV : V → Bool
  | .non => true
  | .bl _ => true
  | .int _ => true
  | .str _ => true
  | _ => false
/-- == of flat values -/
def eqV : V → V → Bool
  | .non, .non => true
  | .bl a, .bl b => a == b
  | .bl a, .int b => (if a then 1 else 0) == b
  | .int a, .bl b => a == (if b then 1 else 0)
  | .int a, .int b => a == b
  | .str a, .str b => a == b
  | _, _ => false
theorem eqAt_V {A : Around} {s : Shared} {y x : V} {u v : Value} (ry : RelV y u) (rx : RelV x v) (fy : flatV y = true) (fx : flatV x = true) : SeqAt.EqAt A s u v (eqV y x) := by
  cases y with
  | non =>
    cases ry
    cases x with
    | non => cases rx; exact SeqAt.EqAt.same _
    | bl b => cases rx; exact SeqAt.EqAt.none_bool b
    | int b => obtain ⟨t, rfl⟩ := rx; exact SeqAt.EqAt.none_int b t
    | str b => obtain ⟨t, rfl⟩ := rx; exact SeqAt.EqAt.none_str b t
    | _ => exact absurd (show false = true from fx) Bool.false_ne_true
  | bl a =>
    cases ry
    cases x with
    | non => cases rx; exact SeqAt.EqAt.bool_none a
    | bl b => cases rx; exact SeqAt.EqAt.bool_bool a b
    | int b => obtain ⟨t, rfl⟩ := rx; exact SeqAt.EqAt.bool_int a b t
    | str b => obtain ⟨t, rfl⟩ := rx; exact SeqAt.EqAt.bool_str a b t
    | _ => exact absurd (show false = true from fx) Bool.false_ne_true
  | int a =>
    obtain ⟨t', rfl⟩ := ry
    cases x with
    | non => cases rx; exact SeqAt.EqAt.int_none a t'
    | bl b => cases rx; exact SeqAt.EqAt.int_bool a t' b
    | int b => obtain ⟨t, rfl⟩ := rx; exact SeqAt.EqAt.int_int a t' b t
    | str b => obtain ⟨t, rfl⟩ := rx; exact SeqAt.EqAt.int_str a t' b t
    | _ => exact absurd (show false = true from fx) Bool.false_ne_true
  | str a =>
    obtain ⟨t', rfl⟩ := ry
    cases x with
    | non => cases rx; exact SeqAt.EqAt.str_none a t'
    | bl b => cases rx; exact SeqAt.EqAt.str_bool a t' b
    | int b => obtain ⟨t, rfl⟩ := rx; exact SeqAt.EqAt.str_int a t' b t
    | str b => obtain ⟨t, rfl⟩ := rx; exact SeqAt.EqAt.str_str a t' b t
    | _ => exact absurd (show false = true from fx) Bool.false_ne_true
  | _ => exact absurd (show false = true from fy) Bool.false_ne_true
/-- the items' answers, read off the values (a value's own answer does not lean on its token) -/
def eqU (x : V) (u : Value) : Bool := match u with
  | .none => eqV .non x
  | .bool b => eqV (.bl b) x
  | .int i _ => eqV (.int i) x
  | .str z _ => eqV (.str z) x
  | _ => false
theorem eqU_of {x y : V} {u : Value} (r : RelV y u) (f : flatV y = true) : eqU x u = eqV y x := by
  cases y with
  | non => cases r; rfl
  | bl b => cases r; rfl
  | int i => obtain ⟨t, rfl⟩ := r; rfl
  | str z => obtain ⟨t, rfl⟩ := r; rfl
  | _ => exact absurd (show false = true from f) Bool.false_ne_true
theorem any_eqU {x : V} : ∀ {xs : List V} {us : List Value}, Vals xs us → xs.all flatV = true → us.any (eqU x) = xs.any fun y => eqV y x
  | _, _, .nil, _ => rfl
  | y :: xs, u :: us, .cons r t, f => by
    rw [List.all_cons, Bool.and_eq_true] at f
    rw [List.any_cons, List.any_cons, eqU_of r f.1, any_eqU t f.2]
theorem mem_eqAt {A : Around} {s : Shared} {x : V} {v : Value} (rx : RelV x v) (fx : flatV x = true) : ∀ {xs : List V} {us : List Value}, Vals xs us → xs.all flatV = true → ∀ u ∈ us, SeqAt.EqAt A s u v (eqU x u)
  | _, _, .nil, _ => fun u hu => by cases hu
  | y :: xs, u :: us, .cons r t, f => fun u' hu => by
    rw [List.all_cons, Bool.and_eq_true] at f
    rcases List.mem_cons.mp hu with rfl | hu
    · rw [eqU_of r f.1]; exact eqAt_V r rx f.1 fx
    · exact mem_eqAt rx fx t f.2 u' hu
def inV (x : V) (xs : List V) : Bool := xs.any fun y => eqV y x
/-- x in a list or tuple of flat items -/
def rIn (K : PySem.W.Frag) (neg : Bool) : R2 := fun x y H Q => ∃ p xs, y = .ref p ∧ (SqL K H p xs ∨ SqT K H p xs) ∧ flatV x = true ∧ xs.all flatV = true ∧ Q (.bl (if neg then !inV x xs else inV x xs)) H
theorem op_in_seq : OpR X (compareOp .In) (rIn X.K false) := by
  intro pins s σ H x y v u Q I rx ry h
  obtain ⟨p, xs, rfl, hq, fx, fs, q⟩ := h
  cases ry
  rcases hq with hq | hq
  · obtain ⟨its, r, pl, hz⟩ := I.list hq
    refine SeqAt.in_listAt (eqU x) pl.isList (fun w hw => mem_eqAt rx fx r fs w (by simpa using hw)) ⟨.bl _, H, I, rfl, ?_⟩
    rw [show its.toArray.any (eqU x) = its.any (eqU x) by simp, any_eqU r fs]
    exact q
  · obtain ⟨its, r, pl, hz⟩ := I.tuple hq
    refine SeqAt.in_tupleAt (eqU x) pl (fun w hw => mem_eqAt rx fx r fs w (by simpa using hw)) ⟨.bl _, H, I, rfl, ?_⟩
    rw [show its.toArray.any (eqU x) = its.any (eqU x) by simp, any_eqU r fs]
    exact q
theorem call_len_seq : CallR X (.builtin "len") (fun xs H Q => ∃ p ys, xs = [.ref p] ∧ (SqL X.K H p ys ∨ SqT X.K H p ys) ∧ Q (.int ys.length) H) := by
  intro pins s σ H xs us Q I r h
  obtain ⟨p, ys, rfl, hq, q⟩ := h
  obtain ⟨u, rfl, rx⟩ := vals1 r
  cases rx
  have hn := line63
  rcases hq with hq | hq
  · obtain ⟨its, r', pl, hz⟩ := I.list hq
    have hlen := r'.length
    exact Calls.call_len_list pl.isList (by simp only [List.size_toArray] <;> omega) ⟨.int ys.length, H, I.tok _, ⟨s.toks + 1, by rw [List.size_toArray, hlen]⟩, q⟩
  · obtain ⟨its, r', pl, hz⟩ := I.tuple hq
    have hlen := r'.length
    exact len_tuple pl (by simp only [List.size_toArray] <;> omega) ⟨.int ys.length, H, I.tok _, ⟨s.toks + 1, by rw [List.size_toArray, hlen]⟩, q⟩
theorem call_len_str : CallR X (.builtin "len") (fun xs H Q => ∃ z, xs = [.str z] ∧ z.length ≤ sizeLine ∧ Q (.int z.length) H) := by
  intro pins s σ H xs us Q I r h
  obtain ⟨z, rfl, hz, q⟩ := h
  obtain ⟨u, rfl, t, rfl⟩ := vals1 r
  have hn := line63
  exact len_str (by omega) ⟨.int z.length, H, I.tok _, ⟨_, rfl⟩, q⟩
theorem CallR.or {f : Value} {r r' : List V → Hp → VK → Prop} (h : CallR X f r) (h' : CallR X f r') : CallR X f (fun xs H Q => r xs H Q ∨ r' xs H Q) := by
  intro pins s σ H xs us Q I rs q
  rcases q with q | q
  · exact h pins s σ H xs us Q I rs q
  · exact h' pins s σ H xs us Q I rs q
theorem call_list_of : CallR X (.type "list") (fun xs H Q => ∃ p ys, xs = [.ref p] ∧ (SqL X.K H p ys ∨ SqT X.K H p ys) ∧ ∀ l, H l = none → Q (.ref l) (upd H l (.lst ys))) := by
  intro pins s σ H xs us Q I r h
  obtain ⟨p, ys, rfl, hq, q⟩ := h
  obtain ⟨u, rfl, rx⟩ := vals1 r
  cases rx
  have fin : ∀ (its : List Value), Vals ys its → ys.length ≤ sizeLine → ∀ (h' : Heap) (c' : Nat), (∀ b o', s.heap.get? b = some o' → h'.get? b = some o') →
      h'.get? s.heap.objs.size = some { cls := .type "list", dict := none, data := .seq its.toArray c', slots := #[] } → EP X pins σ Q (.ref s.heap.objs.size) { s with heap := h' } := fun its r' hz h' c' kp e =>
    ⟨.ref s.heap.objs.size, _, I.laid (t' := s.toks) kp (Nat.le_refl _) (show ObjOk X.prog X.w _ h' _ (.lst ys) from ⟨hz, its, c', r', e⟩), rfl, q _ (I.hok.fresh (Nat.le_refl _))⟩
  rcases hq with hq | hq
  · obtain ⟨its, r', pl, hz⟩ := I.list hq
    have hlen := r'.length
    obtain ⟨o, ho, hc, n, hd⟩ := pl.isList
    exact call_list_seq p (.inl rfl) ho hc hd (fun h' c' kp e => fin its r' hz h' c' kp e) (by simp only [List.size_toArray] <;> omega)
  · obtain ⟨its, r', pl, hz⟩ := I.tuple hq
    have hlen := r'.length
    obtain ⟨o, ho, hc, n, hd⟩ := pl
    exact call_list_seq p (.inr rfl) ho hc hd (fun h' c' kp e => fin its r' hz h' c' kp e) (by simp only [List.size_toArray] <;> omega)
theorem call_tuple_of : CallR X (.type "tuple") (fun xs H Q => ∃ p ys, xs = [.ref p] ∧ ((SqL X.K H p ys ∧ ∀ l, H l = none → Q (.ref l) (upd H l (.tup ys))) ∨ (SqT X.K H p ys ∧ Q (.ref p) H))) := by
  intro pins s σ H xs us Q I r h
  obtain ⟨p, ys, rfl, h⟩ := h
  obtain ⟨u, rfl, rx⟩ := vals1 r
  cases rx
  rcases h with ⟨hq, q⟩ | ⟨hq, q⟩
  · obtain ⟨its, r', pl, hz⟩ := I.list hq
    have hlen := r'.length
    refine call_tuple_list pl.isList (fun h' kp => ?_) (by simp only [List.size_toArray] <;> omega)
    have I1 : Inv X pins σ H { s with heap := h' } := I.kept (t' := s.toks) kp
    have I2 : Inv X pins σ (upd H h'.objs.size (.tup ys)) { s with heap := h'.push { cls := .type "tuple", data := .seq its.toArray } } :=
      I1.laid (t' := s.toks) (fun b o e => Heap.get?_push_of_some _ e) (Nat.le_refl _) (show ObjOk X.prog X.w _ _ _ (.tup ys) from ⟨hz, its, r', IsTupN.new _ _⟩)
    exact ⟨.ref h'.objs.size, _, I2, rfl, q _ (I1.hok.fresh (Nat.le_refl _))⟩
  · obtain ⟨its, r', pl, hz⟩ := I.tuple hq
    exact call_tuple_same pl ⟨.ref p, H, I, rfl, q⟩

/-- the value is of that builtin type -/
def tyV (K : PySem.W.Frag) (T : String) (x : V) (H : Hp) : Prop := match x with
  | .str _ => T = "str"
  | .int _ => T = "int"
  | .ref p => (T = "list" ∧ ∃ xs, SqL K H p xs) ∨ (T = "tuple" ∧ ∃ o, K.lookup p = some o ∧ o.cls = .type "tuple" ∧ o.dict = none) ∨
      (T = "dict" ∧ ((∃ kvs, H p = some (.dK kvs)) ∨ ∃ kvs, H p = some (.dT kvs))) ∨ (T = "set" ∧ ∃ S n, H p = some (.set S n))
  | _ => False
theorem tyV_is {pins : List (Addr × Obj)} {σ : St} {H : Hp} {s : Shared} {T : String} {x : V} {v : Value} (I : Inv X pins σ H s) (r : RelV x v) (ty : tyV X.K T x H) :
    s.TypeIs v T ∧ ∀ a, v = .ref a → ∃ ob, s.heap.get? a = some ob ∧ ob.dict = none := by
  cases x with
  | str z =>
    obtain ⟨t, rfl⟩ := r
    cases (show T = "str" from ty)
    exact ⟨typeIs_str s z t, fun _ e => nomatch e⟩
  | int i =>
    obtain ⟨t, rfl⟩ := r
    cases (show T = "int" from ty)
    exact ⟨typeIs_int s i t, fun _ e => nomatch e⟩
  | ref p =>
    cases r
    rcases ty with ⟨rfl, xs, hq⟩ | ⟨rfl, o, hk, hc, hd⟩ | ⟨rfl, hk⟩ | ⟨rfl, S, n, hk⟩
    · obtain ⟨its, _, pl, _⟩ := I.list hq
      refine ⟨pl.isList.typeIs, fun a e => ?_⟩
      cases e
      obtain ⟨o, n, e, c, hd, _⟩ := pl
      exact ⟨o, e, hd⟩
    · refine ⟨⟨o, I.kIn p o hk, hc⟩, fun a e => ?_⟩
      cases e
      exact ⟨o, I.kIn _ o hk, hd⟩
    · have z : ∃ o, s.heap.get? p = some o ∧ o.ExactDict := by
        rcases hk with ⟨kvs, hk⟩ | ⟨kvs, hk⟩
        · obtain ⟨_, _, _, _, o, _, _, e, ex, _⟩ := I.hok p _ hk
          exact ⟨o, e, ex⟩
        · obtain ⟨_, _, _, _, o, _, _, e, ex, _⟩ := I.hok p _ hk
          exact ⟨o, e, ex⟩
      obtain ⟨o, e, ex⟩ := z
      refine ⟨⟨o, e, ex.1⟩, fun a e2 => ?_⟩
      cases e2
      exact ⟨o, e, ex.2.1⟩
    · obtain ⟨o, _, _, _, e, ex, _⟩ := I.hok p _ hk
      refine ⟨⟨o, e, ex.1⟩, fun a e2 => ?_⟩
      cases e2
      exact ⟨o, e, ex.2.1⟩
  | _ => exact False.elim ty
def tBM0 (K : PySem.W.Frag) (T : String) (r : V → List V → Hp → VK → Prop) (to : TE) : TE := fun σ H Q => to σ H fun x H1 => tyV K T x H1 ∧ r x [] H1 Q
def tBM (K : PySem.W.Frag) (T : String) (r : V → List V → Hp → VK → Prop) (to : TE) (t : TA) : TE := fun σ H Q => to σ H fun x H1 => tyV K T x H1 ∧ t σ H1 fun xs H2 => r x xs H2 Q
variable {o e : Expr} {es : List Expr} {to : TE} {t : TA} {name : Str} {apos cpos : Pos} {T id : String} {r : V → List V → Hp → VK → Prop}
theorem pe_bm0 (pa : PlainAttrs T) (slot : Slot T name id) (hty : typeOf (.builtin id) = pure (.type "method_descriptor")) (hm : MtR X id r) (ho : PE X o to)
    (hbase : attributeBase o name X.env (eval o X.env) = eval o X.env := by rfl) (hline : (apos.endLine == cpos.line) = true := by rfl) : PE X (.Call (.Attribute o name apos) [] [] cpos) (tBM0 X.K T r to) := by
  intro pins s σ H Q I h
  refine wpAny_Call_method0_late hbase hline (thn (ho pins s σ H _ I h) fun v s1 ⟨x, H1, I1, r1, ty, q1⟩ => ?_)
  obtain ⟨h1, h2⟩ := tyV_is I1 r1 ty
  exact ⟨T, id, pa, slot, hty, h1, h2, Calls.callWith_builtin rfl (PySem.evalArgs_none (hm pins s1 σ H1 x [] v [] Q I1 r1 .nil q1))⟩
theorem pe_bm (pa : PlainAttrs T) (slot : Slot T name id) (hty : typeOf (.builtin id) = pure (.type "method_descriptor")) (hm : MtR X id r) (ho : PE X o to) (ha : PA X (e :: es) t)
    (hbase : attributeBase o name X.env (eval o X.env) = eval o X.env := by rfl)
    (hfew : ((backTo cpos (starEach (e :: es) X.env)).all (fun x => !x.1) && (backToKw cpos (keywordEach [] X.env)).all (fun x => x.1.isSome)
      && decide ((e :: es).length + ([] : List Keyword).length + (if ([] : List Keyword).isEmpty then 0 else 1) < 30)) = true := by rfl)
    (hline : (apos.endLine == cpos.line) = true := by rfl) (hs : starEach (e :: es) X.env = (false, eval e X.env) :: starEach es X.env := by rfl) (hplain : (backTo cpos (starEach es X.env)).any (·.1) = false := by rfl) :
    PE X (.Call (.Attribute o name apos) (e :: es) [] cpos) (tBM X.K T r to t) := by
  intro pins s σ H Q I h
  refine wpAny_Call_method_late hbase hfew hline rfl (thn (ho pins s σ H _ I h) fun v s1 ⟨x, H1, I1, r1, ty, q1⟩ => ?_)
  obtain ⟨h1, h2⟩ := tyV_is I1 r1 ty
  refine ⟨T, id, pa, slot, hty, h1, h2, ?_⟩
  have hA := ha cpos pins s1 σ H1 _ I1 q1
  rw [hs] at hA ⊢
  refine Calls.callWith_builtin (by show (false || (backTo cpos (starEach es X.env)).any (·.1)) = false; rw [hplain] <;> rfl) (Calls.evalArgs_plain ?_)
  exact thn hA fun us s2 ⟨vs, H2, I2, r2, q2⟩ => hm pins s2 σ H2 x vs v us Q I2 r1 r2 q2
end
end L2

namespace L2
open PySem PySem.Spec PyProof.Rows

def MtM (X : Cx) (id : String) (r : V → List V → Hp → VK → Prop) : Prop :=
  ∀ (pins : List (Addr × Obj)) (s : Shared) (σ : St) (H : Hp) (x : V) (xs : List V) (v : Value) (us : List Value) (Q : VK), Inv X pins σ H s → RelV x v → Vals xs us → r x xs H Q →
    wpAny (model X.prog X.w) X.A (call (.builtin id) (v :: us)) (EP X pins σ Q) X.xe s

theorem Vals.one : ∀ {x : V} {us : List Value}, Vals [x] us → ∃ u, us = [u] ∧ RelV x u
  | _, _, .cons r .nil => ⟨_, rfl, r⟩
theorem Vals.two : ∀ {x y : V} {us : List Value}, Vals [x, y] us → ∃ u v, us = [u, v] ∧ RelV x u ∧ RelV y v
  | _, _, _, .cons r (.cons q .nil) => ⟨_, _, rfl, r, q⟩
theorem Vals.zero : ∀ {us : List Value}, Vals [] us → us = []
  | _, .nil => rfl
theorem Vals.dropLast {xs : List V} {us : List Value} (h : Vals xs us) : Vals xs.dropLast us.dropLast := by
  induction h with
  | nil => exact .nil
  | cons r t ih =>
    cases t with
    | nil => exact .nil
    | cons q t' => exact .cons r ih
theorem Vals.eraseIdx : ∀ {xs : List V} {us : List Value} (i : Nat), Vals xs us → Vals (xs.eraseIdx i) (us.eraseIdx i)
  | _, _, _, .nil => .nil
  | _, _, 0, .cons _ t => t
  | _, _, i + 1, .cons r t => .cons r (Vals.eraseIdx i t)
theorem Vals.rep {xs : List V} {us : List Value} (h : Vals xs us) : ∀ k : Nat, Vals (List.replicate k xs).flatten (List.replicate k us).flatten
  | 0 => .nil
  | k + 1 => by
    rw [List.replicate_succ, List.replicate_succ, List.flatten_cons, List.flatten_cons]
    exact Vals.append h (Vals.rep h k)
theorem erase_last {α : Type} (l : List α) : l.eraseIdx (l.length - 1) = l.dropLast := by
  induction l with
  | nil => rfl
  | cons a r ih =>
    cases r with
    | nil => rfl
    | cons b r =>
      have e : (a :: b :: r).length - 1 = ((b :: r).length - 1) + 1 := by
        have h1 : (a :: b :: r).length = r.length + 2 := rfl
        have h2 : (b :: r).length = r.length + 1 := rfl
        omega
      rw [e, List.eraseIdx_cons_succ, ih]
      all_goals rfl
theorem len_erase {α : Type} : ∀ (l : List α) (i : Nat), (l.eraseIdx i).length ≤ l.length
  | [], _ => Nat.le_refl _
  | _ :: _, 0 => Nat.le_succ _
  | _ :: r, i + 1 => Nat.succ_le_succ (len_erase r i)
section
variable {X : Cx} {pins : List (Addr × Obj)} {σ : St} {H : Hp} {s : Shared} {l b : Addr} {xs ys zs : List V}

theorem Inv.lset {its its' : List Value} {n : Nat} {f : Array Value → Array Value} {t' : Nat} (I : Inv X pins σ H s) (hH : H l = some (.lst xs))
    (e : s.heap.get? l = some { cls := .type "list", data := .seq its.toArray n }) (hf : f its.toArray = its'.toArray) (hv : Vals ys its') (hz : ys.length ≤ sizeLine) :
    Inv X pins σ (upd H l (.lst ys)) { s with heap := s.heap.update l (Obj.mapSeq f), toks := t' } := by
  have q := PySem.IsL.update e f
  rw [hf] at q
  refine I.write (x := l) (e := l) (by rw [hH]; exact trivial) (.inl rfl) (fun b' u hb hu => (Heap.get?_update_other s.heap (Obj.mapSeq f) (Ne.symm hb)).trans hu) ⟨_, q⟩ ?_
  exact ⟨hz, its', _, hv, q⟩
theorem Inv.lnew {its : List Value} {t' : Nat} (I : Inv X pins σ H s) (hv : Vals ys its) (hz : ys.length ≤ sizeLine) :
    Inv X pins σ (upd H s.heap.objs.size (.lst ys)) { s with heap := s.heap.push { cls := .type "list", data := .seq its.toArray }, toks := t' } :=
  I.laid (fun _ _ q => Heap.get?_push_of_some _ q) (Nat.le_refl _) ⟨hz, its, 0, hv, Heap.get?_push_size _ rfl⟩
theorem Inv.fresh (I : Inv X pins σ H s) : H s.heap.objs.size = none := I.hok.fresh (Nat.le_refl _)
theorem Inv.lstM (I : Inv X pins σ H s) (hH : H l = some (.lst xs)) : xs.length ≤ sizeLine ∧ ∃ (its : List Value) (n : Nat), Vals xs its ∧ xs.length = its.length ∧ s.heap.get? l = some { cls := .type "list", data := .seq its.toArray n } := by
  obtain ⟨z, its, n, r, e⟩ := I.hok l _ hH
  exact ⟨z, its, n, r, r.length, e⟩

theorem notLongL {n : Nat} (h : n ≤ sizeLine) : Builtin.List.listTooLong n = false := by
  unfold Builtin.List.listTooLong
  exact decide_eq_false (by omega)
end

section
variable {X : Cx}

def rAppend : V → List V → Hp → VK → Prop := fun x vs H Q => ∃ l xs y, x = .ref l ∧ vs = [y] ∧ H l = some (.lst xs) ∧ xs.length < sizeLine ∧ Q .non (upd H l (.lst (xs ++ [y])))
theorem mt_append : MtM X "list.append" rAppend := by
  intro pins s σ H x vs v us Q I rx rv h
  obtain ⟨l, xs, y, rfl, rfl, hH, hz, q⟩ := h
  cases rx
  obtain ⟨u, rfl, ru⟩ := rv.one
  obtain ⟨z, its, n, r, hl, e⟩ := I.lstM hH
  refine call_meets F.slot_list_append ⟨_, e, rfl⟩ F.entry_list_append (F.args_list_append_2 _ _) (PySem.list_append l its.toArray n u (by rw [List.size_toArray]; omega)) ⟨e, ?_⟩
  refine ⟨.non, _, I.lset (its' := its ++ [u]) hH e (by simp) (r.append (.cons ru .nil)) ?_, rfl, q⟩
  rw [List.length_append, List.length_singleton]
  omega

def rExtend : V → List V → Hp → VK → Prop := fun x vs H Q => ∃ l b xs zs, x = .ref l ∧ vs = [.ref b] ∧ H l = some (.lst xs) ∧ H b = some (.lst zs) ∧ xs.length + zs.length ≤ sizeLine ∧ Q .non (upd H l (.lst (xs ++ zs)))
theorem mt_extend : MtM X "list.extend" rExtend := by
  intro pins s σ H x vs v us Q I rx rv h
  obtain ⟨l, b, xs, zs, rfl, rfl, hH, hB, hz, q⟩ := h
  cases rx
  obtain ⟨u, rfl, ru⟩ := rv.one
  cases ru
  obtain ⟨z, its, n, r, hl, e⟩ := I.lstM hH
  obtain ⟨z2, its2, n2, r2, hl2, e2⟩ := I.lstM hB
  have hsz : its.toArray.size + its2.toArray.size ≤ sizeLine := by rw [List.size_toArray, List.size_toArray]; omega
  have hlong : ¬ (!its.toArray.isEmpty && Builtin.List.listTooLong (its.toArray.size + its2.toArray.size)) = true := by
    rw [notLongL hsz, Bool.and_false]
    exact Bool.false_ne_true
  refine call_meets F.slot_list_extend ⟨_, e, rfl⟩ F.entry_list_extend (F.args_list_extend_2 _ _)
    (AutoSeq1.list_extend_list_list_0 l its.toArray n b its2.toArray n2 hlong (by rw [List.size_toArray]; omega) (by omega)) ⟨e, e2, ?_⟩
  refine ⟨.non, _, I.lset (its' := its ++ its2) hH e (by simp) (r.append r2) ?_, rfl, q⟩
  rw [List.length_append]
  omega

def rPop : V → List V → Hp → VK → Prop := fun x vs H Q => ∃ l xs y, x = .ref l ∧ vs = [] ∧ H l = some (.lst xs) ∧ xs[xs.length - 1]? = some y ∧ Q y (upd H l (.lst xs.dropLast))
theorem mt_pop : MtM X "list.pop" rPop := by
  intro pins s σ H x vs v us Q I rx rv h
  obtain ⟨l, xs, y, rfl, rfl, hH, hy, q⟩ := h
  cases rx
  have hus := rv.zero
  subst hus
  obtain ⟨z, its, n, r, hl, e⟩ := I.lstM hH
  obtain ⟨u, hu, ru⟩ := r.get hy
  have hy' : its.toArray[its.toArray.size - 1]? = some u := by
    show its.toArray[its.length - 1]? = some u
    rw [← Array.getElem?_toList, ← hl]
    exact hu
  refine call_meets F.slot_list_pop ⟨_, e, rfl⟩ F.entry_list_pop (F.args_list_pop_1 _) (MeetsSeq.list_pop_last l its.toArray n u hy' (by rw [List.size_toArray]; omega)) ⟨e, ?_⟩
  refine ⟨y, _, I.lset (its' := its.dropLast) hH e ?_ r.dropLast ?_, ru, q⟩
  · show its.toArray.eraseIdxIfInBounds (its.toArray.size - 1) = its.dropLast.toArray
    rw [List.size_toArray, List.eraseIdxIfInBounds_toArray, erase_last]
  · rw [List.length_dropLast]
    omega

def rPopAt : V → List V → Hp → VK → Prop := fun x vs H Q => ∃ l xs i k y, x = .ref l ∧ vs = [.int i] ∧ H l = some (.lst xs) ∧ -(2 ^ 63) ≤ i ∧ i < 2 ^ 63 ∧ seqIndex? i xs.length = some k ∧ xs[k]? = some y ∧ Q y (upd H l (.lst (xs.eraseIdx k)))
theorem mt_popAt : MtM X "list.pop" rPopAt := by
  intro pins s σ H x vs v us Q I rx rv h
  obtain ⟨l, xs, i, k, y, rfl, rfl, hH, h1, h2, hk, hy, q⟩ := h
  cases rx
  obtain ⟨u, rfl, ru⟩ := rv.one
  obtain ⟨t, rfl⟩ := ru
  obtain ⟨z, its, n, r, hl, e⟩ := I.lstM hH
  obtain ⟨w, hw, rw'⟩ := r.get hy
  refine call_meets F.slot_list_pop ⟨_, e, rfl⟩ F.entry_list_pop (F.args_list_pop_2 _ _)
    (MeetsSeq.list_pop_at l its.toArray n i t k w (fitsIndex_both h1 h2) (by rw [List.size_toArray, ← hl]; exact hk) (by rw [← Array.getElem?_toList]; exact hw) (by rw [List.size_toArray]; omega)) ⟨e, ?_⟩
  refine ⟨y, _, I.lset (its' := its.eraseIdx k) hH e ?_ (r.eraseIdx k) ?_, rw', q⟩
  · show its.toArray.eraseIdxIfInBounds k = (its.eraseIdx k).toArray
    rw [List.eraseIdxIfInBounds_toArray]
  · have := len_erase xs k
    omega

end

section
variable {prog : Program} {w : World} {A : Around} {E : Value → Shared → Prop} {s : Shared}
theorem splice_eq (its its2 : List Value) (a c : Nat) : its.toArray.extract 0 a ++ its2.toArray ++ its.toArray.extract c its.toArray.size = (its.take a ++ its2 ++ its.drop c).toArray := by
  apply Array.toList_inj.mp
  first
    | (simp
       exact List.take_of_length_le (by simp))
    | simp [List.take_of_length_le]
    | simp
end

section
variable {X : Cx}
end
end L2

namespace L2
open PySem PySem.Spec PyProof.Rows

theorem Vals.ints : ∀ {ns : List Int} {us : List Value}, Vals (ns.map V.int) us → IntsAre us ns
  | [], us, h => by
    rw [List.map_nil] at h
    cases h
    exact IntsAre.nil
  | n :: ns, us, h => by
    rw [List.map_cons] at h
    cases h with
    | cons r t =>
      obtain ⟨k, rfl⟩ := r
      exact IntsAre.cons n k (Vals.ints t)
theorem Vals.ref1 {a : Addr} {us : List Value} (r : Vals [V.ref a] us) : us = [Value.ref a] := by
  cases r with
  | cons r t =>
    cases t
    cases r
    rfl
section
variable {prog : Program} {w : World} {A : Around} {E : Value → Shared → Prop} {s : Shared} {l : Addr} {its : List Value} {ns : List Int} {Q : Value → Shared → Prop}
end

section
variable {X : Cx}
end

section
variable {X : Cx}
end

section
variable {X : Cx}
end

section
variable {X : Cx}
end

mutual
inductive Dp (K : PySem.W.Frag) (H : Hp) : V → PyData → Prop
  | non : Dp K H .non .none
  | bl (b : Bool) : Dp K H (.bl b) (.bool b)
  | int (i : Int) : Dp K H (.int i) (.int i)
  | str (x : Str) : Dp K H (.str x) (.str x)
  | lst {a : Addr} {xs : List V} {ds : List PyData} : SqL K H a xs → DpAll K H xs ds → Dp K H (.ref a) (.list ds)
  | tup {a : Addr} {xs : List V} {ds : List PyData} : SqT K H a xs → DpAll K H xs ds → Dp K H (.ref a) (.tuple ds)
inductive DpAll (K : PySem.W.Frag) (H : Hp) : List V → List PyData → Prop
  | nil : DpAll K H [] []
  | cons {v : V} {vs : List V} {d : PyData} {ds : List PyData} : Dp K H v d → DpAll K H vs ds → DpAll K H (v :: vs) (d :: ds)
end
section
variable {X : Cx} {pins : List (Addr × Obj)} {σ : St} {H : Hp} {s : Shared}
mutual
theorem Dp.reads (I : Inv X pins σ H s) : ∀ (d : PyData) (v : V) (u : Value), Dp X.K H v d → RelV v u → ∃ as, Reads s.heap u d as
  | .none, _, _, h, r => by
    cases h
    cases r
    exact ⟨_, Reads.none⟩
  | .bool b, _, _, h, r => by
    cases h
    cases r
    exact ⟨_, Reads.bool b⟩
  | .int i, _, _, h, r => by
    cases h
    obtain ⟨t, rfl⟩ := r
    exact ⟨_, Reads.int i t⟩
  | .str x, _, _, h, r => by
    cases h
    obtain ⟨t, rfl⟩ := r
    exact ⟨_, Reads.str x t⟩
  | .list ds, _, _, h, r => by
    cases h with
    | lst hs ha =>
      cases r
      obtain ⟨its, rv, ⟨o, n, ho, hc, _, hd⟩, _⟩ := I.list hs
      obtain ⟨as, hr⟩ := Dp.readsAll I ds _ its ha rv
      exact ⟨_, Reads.list ho hc hd hr⟩
  | .tuple ds, _, _, h, r => by
    cases h with
    | tup hs ha =>
      cases r
      obtain ⟨its, rv, ⟨o, ho, hc, n, hd⟩, _⟩ := I.tuple hs
      obtain ⟨as, hr⟩ := Dp.readsAll I ds _ its ha rv
      exact ⟨_, Reads.tuple ho hc hd hr⟩
  | .dict _, _, _, h, _ => by cases h
theorem Dp.readsAll (I : Inv X pins σ H s) : ∀ (ds : List PyData) (vs : List V) (us : List Value), DpAll X.K H vs ds → Vals vs us → ∃ as, ReadsAll s.heap us ds as
  | [], _, _, h, r => by
    cases h
    cases r
    exact ⟨_, ReadsAll.nil⟩
  | d :: ds, _, _, h, r => by
    cases h with
    | cons h1 h2 =>
      cases r with
      | cons r1 r2 =>
        obtain ⟨as, q1⟩ := Dp.reads I d _ _ h1 r1
        obtain ⟨bs, q2⟩ := Dp.readsAll I ds _ _ h2 r2
        exact ⟨_, ReadsAll.cons q1 q2⟩
end
end
section
variable {X : Cx}
end
end L2

namespace L2
open PySem PySem.Spec PyProof.Rows
abbrev CellAt (h : Heap) (c : Addr) (v : Option Value) : Prop := h.IsCell c v
def relS (scope sc : Scope) : Scope :=
  { scope with names := scope.names.map fun (n, k) => if (k == .free && sc.kind == .function && sc.names.lookup n == some .cell) then (n, .cell) else (n, k) }

def cloFrom (cells : List (Str × Addr)) : List (Str × NameKind) → List (Str × Addr) → List (Str × Addr)
  | [], acc => acc
  | (n, k) :: r, acc => if k == .free then cloFrom cells r ((n, (cells.lookup n).getD 0) :: acc) else cloFrom cells r acc

theorem closure_loop (env : Env) (f : Str × NameKind → List (Str × Addr) → Sem (ForInStep (List (Str × Addr))))
    (hf : ∀ n k c, f (n, k) c = if k == .free then (do let a ← cellOf env n; pure (.yield ((n, a) :: c))) else pure (.yield c)) :
    ∀ (names : List (Str × NameKind)) (acc : List (Str × Addr)), (∀ y ∈ names, y.2 = .free → ∃ c, env.cells.lookup y.1 = some c) → forIn names acc f = pure (cloFrom env.cells names acc)
  | [], acc, _ => by rw [List.forIn_nil]; rfl
  | (n, k) :: r, acc, h => by
    rw [List.forIn_cons, hf]
    have ih := fun acc => closure_loop env f hf r acc fun y hy => h y (List.mem_cons_of_mem _ hy)
    unfold cloFrom
    by_cases hk : (k == NameKind.free) = true
    · rw [if_pos hk, if_pos hk]
      obtain ⟨c, hc⟩ := h (n, k) List.mem_cons_self (by simpa using hk)
      have e : cellOf env n = pure c := by unfold cellOf; rw [hc]
      rw [e]
      have e2 : (env.cells.lookup n).getD 0 = c := by rw [hc]; rfl
      rw [e2]
      exact ih _
    · rw [if_neg hk, if_neg hk]
      exact ih _
theorem closure_ok {scope : Scope} {env : Env} (h : ∀ y ∈ scope.names, y.2 = .free → ∃ c, env.cells.lookup y.1 = some c) : closureFor scope env = pure (cloFrom env.cells scope.names []) := by
  simp only [closureFor]
  rw [closure_loop env _ (fun n k c => rfl) scope.names [] h]
  rfl

theorem mem_lookup {α : Type} : ∀ {l : List (Str × α)} {n : Str} {c : α}, (n, c) ∈ l → ∃ c', l.lookup n = some c'
  | (k, v) :: r, n, c, h => by
    rw [List.lookup_cons]
    cases hb : n == k with
    | true => exact ⟨_, rfl⟩
    | false =>
      rcases List.mem_cons.mp h with e | h
      · cases e; simp at hb
      · exact mem_lookup h

theorem cloFrom_mem {cells : List (Str × Addr)} : ∀ {names : List (Str × NameKind)} {acc : List (Str × Addr)} {n : Str} {c : Addr}, (n, c) ∈ cloFrom cells names acc → (n, c) ∈ acc ∨ ((n, .free) ∈ names ∧ c = (cells.lookup n).getD 0)
  | [], _, _, _, h => .inl h
  | (m, k) :: r, acc, n, c, h => by
    unfold cloFrom at h
    split at h
    · rename_i hk
      have hk : k = .free := by simpa using hk
      rcases cloFrom_mem h with h | ⟨h1, h2⟩
      · rcases List.mem_cons.mp h with e | h
        · cases e; exact .inr ⟨hk ▸ List.mem_cons_self, rfl⟩
        · exact .inl h
      · exact .inr ⟨List.mem_cons_of_mem _ h1, h2⟩
    · rcases cloFrom_mem h with h | ⟨h1, h2⟩
      · exact .inl h
      · exact .inr ⟨List.mem_cons_of_mem _ h1, h2⟩
theorem cloFrom_acc {cells : List (Str × Addr)} : ∀ {names : List (Str × NameKind)} {acc : List (Str × Addr)} {p : Str × Addr}, p ∈ acc → p ∈ cloFrom cells names acc
  | [], _, _, h => h
  | (m, k) :: r, acc, p, h => by
    unfold cloFrom
    split
    · exact cloFrom_acc (List.mem_cons_of_mem _ h)
    · exact cloFrom_acc h
theorem cloFrom_has {cells : List (Str × Addr)} : ∀ {names : List (Str × NameKind)} {acc : List (Str × Addr)} {n : Str}, (n, .free) ∈ names → (n, (cells.lookup n).getD 0) ∈ cloFrom cells names acc
  | (m, k) :: r, acc, n, h => by
    unfold cloFrom
    rcases List.mem_cons.mp h with e | h
    · cases e
      exact cloFrom_acc List.mem_cons_self
    · split
      · exact cloFrom_has h
      · exact cloFrom_has h

theorem cells_mem : ∀ {names : List (Str × NameKind)} {h : Heap} {acc : List (Str × Addr)} {x : Str} {c : Addr}, (x, c) ∈ cellsFrom h.objs.size names acc →
    (x, c) ∈ acc ∨ ((x, .cell) ∈ names ∧ h.objs.size ≤ c ∧ CellAt (pushCells h names) c none)
  | [], _, _, _, _, h => .inl h
  | (n, k) :: r, h, acc, x, c, hm => by
    unfold cellsFrom at hm
    unfold pushCells
    split at hm
    · rename_i hk
      rw [if_pos hk]
      have hk : k = .cell := by simpa using hk
      rw [← Heap.size_push h { cls := .type "cell", data := .cell none }] at hm
      rcases cells_mem hm with hm | ⟨h1, h2, h3⟩
      · rcases List.mem_cons.mp hm with e | hm
        · cases e
          exact .inr ⟨hk ▸ List.mem_cons_self, Nat.le_refl _, _, pushCells_keeps r _ _ _ (Heap.get?_push_size _ rfl), rfl⟩
        · exact .inl hm
      · rw [Heap.size_push] at h2
        exact .inr ⟨List.mem_cons_of_mem _ h1, Nat.le_of_succ_le h2, h3⟩
    · rename_i hk
      rw [if_neg hk]
      rcases cells_mem hm with hm | ⟨h1, h2, h3⟩
      · exact .inl hm
      · exact .inr ⟨List.mem_cons_of_mem _ h1, h2, h3⟩
theorem cells_acc : ∀ {names : List (Str × NameKind)} {n : Nat} {acc : List (Str × Addr)} {p : Str × Addr}, p ∈ acc → p ∈ cellsFrom n names acc
  | [], _, _, _, h => h
  | (m, k) :: r, n, acc, p, h => by
    unfold cellsFrom
    split
    · exact cells_acc (List.mem_cons_of_mem _ h)
    · exact cells_acc h
theorem cells_has : ∀ {names : List (Str × NameKind)} {n : Nat} {acc : List (Str × Addr)} {x : Str}, (x, .cell) ∈ names → ∃ c, (x, c) ∈ cellsFrom n names acc
  | (m, k) :: r, n, acc, x, h => by
    unfold cellsFrom
    rcases List.mem_cons.mp h with e | h
    · cases e
      exact ⟨n, cells_acc List.mem_cons_self⟩
    · split
      · exact cells_has h
      · exact cells_has h
theorem cells_inj : ∀ {names : List (Str × NameKind)} {h : Heap} {acc : List (Str × Addr)} {x y : Str} {c : Addr}, (∀ p ∈ acc, p.2 < h.objs.size) → (∀ x y c, (x, c) ∈ acc → (y, c) ∈ acc → x = y) →
    (x, c) ∈ cellsFrom h.objs.size names acc → (y, c) ∈ cellsFrom h.objs.size names acc → x = y
  | [], _, _, _, _, _, _, hi, h1, h2 => hi _ _ _ h1 h2
  | (n, k) :: r, h, acc, x, y, c, hl, hi, h1, h2 => by
    unfold cellsFrom at h1 h2
    split at h1
    · rename_i hk
      rw [if_pos hk] at h2
      rw [← Heap.size_push h { cls := .type "cell", data := .cell none }] at h1 h2
      refine cells_inj (h := h.push _) (fun p hp => ?_) (fun x y c a b => ?_) h1 h2
      · rw [Heap.size_push]
        rcases List.mem_cons.mp hp with rfl | hp
        · exact Nat.lt_succ_self _
        · exact Nat.lt_succ_of_lt (hl p hp)
      · rcases List.mem_cons.mp a with e | a <;> rcases List.mem_cons.mp b with e' | b
        · cases e; cases e'; rfl
        · cases e; exact absurd (hl _ b) (Nat.lt_irrefl _)
        · cases e'; exact absurd (hl _ a) (Nat.lt_irrefl _)
        · exact hi _ _ _ a b
    · rename_i hk
      rw [if_neg hk] at h2
      exact cells_inj hl hi h1 h2

theorem newEnv_comp {M : Model} {A : Around} {E : Value → Shared → Prop} {s : Shared} {scope : Scope} {globals : Addr} {closure : List (Str × Addr)} {qual : Str} {func : Option Addr} {code : Value} {around : Env} {builtins : Addr} {Q : Env → Shared → Prop}
    (h : Q (newEnv scope s.heap.objs.size globals (cellsFrom (s.heap.objs.size + 1) scope.names closure) qual func code (some around) builtins)
      { s with heap := pushCells (s.heap.push { cls := .type "dict", data := .dict #[] }) scope.names }) :
    wpAny M A (newFunctionEnv scope globals closure [] qual func code (some around) builtins) Q E s := by
  simp only [newFunctionEnv, Option.isSome_some, if_true]
  refine wpAny_bind (wpAny_alloc ?_)
  refine wpAny_bind (wpAny_layCells _ (fun n k c => rfl) scope.names closure _ _ ?_)
  rw [show ({ s with heap := s.heap.push { cls := .type "dict", data := .dict #[] } } : Shared).heap.objs.size = s.heap.objs.size + 1 from Heap.size_push ..]
  rw [List.forIn_nil]
  exact wpAny_bind (wpAny_pure (wpAny_pure h))

/-- every name of the written scope, in the scope that runs -/
theorem lookup_relS {sc : Scope} : ∀ {names : List (Str × NameKind)} {x : Str} {k : NameKind},
    (names.map fun (n, k) => if (k == NameKind.free && sc.kind == .function && sc.names.lookup n == some .cell) then (n, NameKind.cell) else (n, k)).lookup x = some k →
    ∃ k', names.lookup x = some k' ∧ (k = k' ∨ (k' = .free ∧ k = .cell))
  | [], _, _, h => by simp at h
  | (n, k₀) :: r, x, k, h => by
    have ih := @lookup_relS sc r x k
    have h' : List.lookup x ((if (k₀ == NameKind.free && sc.kind == .function && sc.names.lookup n == some .cell) = true then (n, NameKind.cell) else (n, k₀)) :: (r.map _)) = some k := h
    cases hx : x == n with
    | true =>
      simp only [List.lookup_cons, hx]
      by_cases hc : (k₀ == NameKind.free && sc.kind == .function && sc.names.lookup n == some .cell) = true
      · rw [if_pos hc] at h'
        simp only [List.lookup_cons, hx] at h'
        cases h'
        simp only [Bool.and_eq_true, beq_iff_eq] at hc
        exact ⟨k₀, rfl, .inr ⟨hc.1.1, rfl⟩⟩
      · rw [if_neg hc] at h'
        simp only [List.lookup_cons, hx] at h'
        cases h'
        exact ⟨_, rfl, .inl rfl⟩
    | false =>
      simp only [List.lookup_cons, hx]
      by_cases hc : (k₀ == NameKind.free && sc.kind == .function && sc.names.lookup n == some .cell) = true
      · rw [if_pos hc] at h'
        simp only [List.lookup_cons, hx] at h'
        exact ih h'
      · rw [if_neg hc] at h'
        simp only [List.lookup_cons, hx] at h'
        exact ih h'
/-- the names of a comprehension's block: its own (with their places in N), or captured -/
structure BlkOk (N : List Str) (sc scope : Scope) (own : List (Str × Nat)) : Prop where
  kind : scope.kind = .function
  uniq : ∀ y ∈ scope.names, scope.names.lookup y.1 = some y.2
  ix : ∀ p ∈ own, N[p.2]? = some p.1
  free : ∀ y ∈ scope.names, y.2 = .free → sc.names.lookup y.1 = some .cell ∨ sc.names.lookup y.1 = some .free
  own : ∀ y ∈ scope.names, y.2 = .local ∨ y.2 = .cell → y.1 ∈ own.map (·.1) ∨ y.1 ∉ N
/-- the slots of the block's own names forgotten -/
def wipe (σ : St) : List Nat → St
  | [] => σ
  | v :: vs => (wipe σ vs).set v none
theorem wipe_length (σ : St) : ∀ vs : List Nat, (wipe σ vs).length = σ.length
  | [] => rfl
  | v :: vs => by unfold wipe; rw [List.length_set, wipe_length σ vs]
theorem wipe_some {σ : St} {i : Nat} {x : V} : ∀ {vs : List Nat}, (wipe σ vs)[i]? = some (some x) → σ[i]? = some (some x) ∧ i ∉ vs
  | [], h => ⟨h, by simp⟩
  | v :: vs, h => by
    unfold wipe at h
    by_cases hi : v = i
    · subst hi
      by_cases hv : v < (wipe σ vs).length
      · rw [List.getElem?_set_self hv] at h; cases h
      · rw [List.getElem?_eq_none (by simpa using hv)] at h; cases h
    · rw [List.getElem?_set_ne hi] at h
      obtain ⟨h1, h2⟩ := wipe_some h
      exact ⟨h1, by simp only [List.mem_cons, not_or]; exact ⟨fun e => hi e.symm, h2⟩⟩

/-- the context of a block that starts at s, its iterator's objects at fp -/
abbrev Cx.blk (X : Cx) (s : Shared) (H : Hp) (scope : Scope) (cenv : Env) (fp : List Addr) : Cx := { X with s_0 := s, H_0 := H, env := cenv, outer := X.stack, ex := fp, fn := fun x => scope.names.lookup x == some .cell, pn := [], xe := fun _ _ => False }
section
variable {X : Cx} {pins : List (Addr × Obj)} {σ : St} {H : Hp} {s : Shared}
theorem block_start {scope : Scope} {own : List (Str × Nat)} {fp : List Addr} (I : Inv X pins σ H s) (ok : BlkOk X.N X.env.scope scope own) (hN : X.N.Nodup) (hfp : ∀ b ∈ fp, FpOk X pins H b ∧ b < s.heap.objs.size) :
    Inv (X.blk s H scope (compEnvC scope (cellsFrom (s.heap.objs.size + 1) scope.names (cloFrom X.env.cells scope.names [])) s.heap.objs.size X.env) fp) [] (wipe σ (own.map (·.2))) H { s with heap := pushCells (s.heap.push { cls := .type "dict", data := .dict #[] }) scope.names } := by
  have hfree : ∀ y ∈ scope.names, y.2 = .free → ∃ c, X.env.cells.lookup y.1 = some c := fun y hy e => by
    rcases ok.free y hy e with k | k
    · exact I.ok.has _ (.inl k)
    · exact I.ok.has _ (.inr k)
  generalize hcenv : compEnvC scope (cellsFrom (s.heap.objs.size + 1) scope.names (cloFrom X.env.cells scope.names [])) s.heap.objs.size X.env = cenv
  have kp : ∀ b o, s.heap.get? b = some o → (pushCells (s.heap.push { cls := .type "dict", data := .dict #[] }) scope.names).get? b = some o := fun b o e => pushCells_keeps _ _ _ _ (Heap.get?_push_of_some _ e)
  have hL : cenv.locals = s.heap.objs.size := by rw [← hcenv]; rfl
  have hcl : cenv.cells = cellsFrom (s.heap.objs.size + 1) scope.names (cloFrom X.env.cells scope.names []) := by rw [← hcenv]; rfl
  have hsc : cenv.scope = relS scope X.env.scope := by rw [← hcenv]; rfl
  rw [← Heap.size_push s.heap { cls := .type "dict", data := .dict #[] }] at hcl
  have cm : ∀ {y c}, (y, c) ∈ cloFrom X.env.cells scope.names [] → X.env.cells.lookup y = some c ∧ c < s.heap.objs.size := fun {y c} hm => by
    rcases cloFrom_mem hm with hm | ⟨h1, rfl⟩
    · cases hm
    · obtain ⟨c, hc⟩ := hfree _ h1 rfl
      rw [hc]
      obtain ⟨w, z⟩ := I.cell _ _ hc
      exact ⟨rfl, z.lt⟩
  have mem : ∀ {y c}, cenv.cells.lookup y = some c → (X.env.cells.lookup y = some c ∧ c < s.heap.objs.size) ∨ (s.heap.objs.size + 1 ≤ c ∧ CellAt (pushCells (s.heap.push { cls := .type "dict", data := .dict #[] }) scope.names) c none) := fun {y c} e => by
    rw [hcl] at e
    rcases cells_mem (PySem.mem_of_lookup e) with hm | ⟨_, h2, h3⟩
    · exact .inl (cm hm)
    · rw [Heap.size_push] at h2; exact .inr ⟨h2, h3⟩
  have look : ∀ {y}, scope.names.lookup y = some .free → ∃ c, cenv.cells.lookup y = some c ∧ X.env.cells.lookup y = some c := fun {y} hl => by
    have hy : (y, NameKind.free) ∈ scope.names := PySem.mem_of_lookup hl
    obtain ⟨c', e'⟩ := mem_lookup (cells_acc (names := scope.names) (n := (s.heap.push { cls := .type "dict", data := .dict #[] }).objs.size) (cloFrom_has (cells := X.env.cells) (acc := []) hy))
    rw [← hcl] at e'
    refine ⟨c', e', ?_⟩
    rw [hcl] at e'
    rcases cells_mem (PySem.mem_of_lookup e') with hm | ⟨h1, _, _⟩
    · exact (cm hm).1
    · have := ok.uniq _ h1
      rw [hl] at this; cases this
  have okB : (X.blk s H scope cenv fp).Ok := by
    refine ⟨I.ok.mod, by show cenv.scope.kind = _; rw [hsc]; exact ok.kind, by show cenv.globals = _; rw [← hcenv]; exact I.ok.glob, by show cenv.builtins = _; rw [← hcenv]; exact I.ok.blt, by show s.heap.objs.size ≤ cenv.locals; rw [hL]; exact Nat.le_refl _,
      fun y z c e1 e2 => ?_, fun y hy => ?_, fun y c z e => ?_, I.ok.hd, I.ok.frames, .inl rfl, fun b hb => ⟨?_, fun y c e z => ?_⟩, I.bs, Nat.le_trans I.ok.bsz I.sz, fun b o e hb => ?_, fun b hb z => ?_, I.stack, I.stkFree⟩
    · have e1 : cenv.cells.lookup y = some c := e1
      have e2 : cenv.cells.lookup z = some c := e2
      rw [hcl] at e1 e2
      refine cells_inj (fun p hp => ?_) (fun y z c a b => I.ok.inj y z c (cm a).1 (cm b).1) (PySem.mem_of_lookup e1) (PySem.mem_of_lookup e2)
      rw [Heap.size_push]
      exact Nat.lt_succ_of_lt (cm (y := p.1) (c := p.2) hp).2
    · show ∃ c, cenv.cells.lookup y = some c
      have key : ∀ k, cenv.kindOf y = some k → (k = .cell ∨ k = .free) → ∃ c, cenv.cells.lookup y = some c := fun k hk hk' => by
        unfold Env.kindOf at hk
        rw [hsc] at hk
        obtain ⟨k', e, r⟩ := lookup_relS hk
        have : k' = .cell ∨ k' = .free := by
          rcases r with rfl | ⟨rfl, _⟩
          · exact hk'
          · exact .inr rfl
        rcases this with rfl | rfl
        · obtain ⟨c, hm⟩ := cells_has (n := (s.heap.push { cls := .type "dict", data := .dict #[] }).objs.size) (acc := cloFrom X.env.cells scope.names []) (PySem.mem_of_lookup e)
          obtain ⟨c', e'⟩ := mem_lookup hm
          exact ⟨c', by rw [hcl]; exact e'⟩
        · obtain ⟨c, h1, _⟩ := look e
          exact ⟨c, h1⟩
      rcases hy with hy | hy
      · exact key _ hy (.inl rfl)
      · exact key _ hy (.inr rfl)
    · have z : (scope.names.lookup y == some NameKind.cell) = true := z
      have z : scope.names.lookup y = some .cell := by simpa using z
      have e : cenv.cells.lookup y = some c := e
      rw [hcl] at e
      rcases cells_mem (PySem.mem_of_lookup e) with hm | ⟨_, h2, _⟩
      · rcases cloFrom_mem hm with hm | ⟨h1, _⟩
        · cases hm
        · have q := ok.uniq _ h1
          rw [z] at q; cases q
      · rw [Heap.size_push] at h2
        exact Nat.le_of_succ_le h2
    · show b ≠ cenv.locals
      rw [hL]; exact Nat.ne_of_lt (hfp b hb).2
    · have e : cenv.cells.lookup y = some c := e
      rcases mem e with ⟨h1, _⟩ | ⟨h1, _⟩
      · exact (hfp b hb).1.2.2.2.2.1 y c h1 z
      · have h2 : s.heap.objs.size + 1 ≤ b := by rw [← z]; exact h1
        exact absurd (Nat.lt_of_lt_of_le (hfp b hb).2 (Nat.le_of_succ_le h2)) (Nat.lt_irrefl _)
    · rcases (hfp b hb).1.2.2.2.1 with z | z
      · exact I.ok.noex b o e z
      · exact absurd (Nat.lt_of_lt_of_le (Heap.lt_size e) (Nat.le_trans I.ok.bsz z)) (Nat.lt_irrefl _)
    · rcases List.mem_cons.mp (I.stkSub b z) with z | z
      · exact (hfp b hb).1.2.1 z
      · exact (hfp b hb).1.2.2.1 z
  refine ⟨okB, rfl, I.bare, Un.kept kp, ⟨fun _ => none, ?_, fun i y av e1 e2 e3 => ?_⟩, fun y c e => ?_, ?_, fun y c e => ?_, fun p hp => ?_, I.hok.kept kp, by rw [wipe_length]; exact I.len⟩
  · show Heap.Ns _ cenv.locals _
    rw [hL]
    exact Heap.Ns.keeps (Heap.Ns.new ..) fun b o e => pushCells_keeps _ _ _ _ e
  · obtain ⟨e2, hne⟩ := wipe_some e2
    have hfr : scope.names.lookup y = some .free ∧ (cenv.kindOf y = some .cell ∨ cenv.kindOf y = some .free) := by
      have key : ∀ k, cenv.scope.names.lookup y = some k → k = .local ∨ k = .cell ∨ k = .free → scope.names.lookup y = some .free ∧ (cenv.kindOf y = some .cell ∨ cenv.kindOf y = some .free) := fun k hk hk' => by
        have hk0 := hk
        rw [hsc] at hk
        obtain ⟨k', e, r⟩ := lookup_relS hk
        have no : ¬ (k' = .local ∨ k' = .cell) := fun hh => by
          rcases ok.own _ (PySem.mem_of_lookup e) hh with e' | e'
          · obtain ⟨p, hp, hpy⟩ := List.mem_map.mp e'
            have e3 := ok.ix p hp
            have : p.1 = y := hpy
            rw [this] at e3
            exact hne (List.mem_map.mpr ⟨p, hp, nodup_ix hN e3 e1⟩)
          · exact e' (List.mem_of_getElem? e1)
        rcases r with rfl | ⟨rfl, rfl⟩
        · rcases hk' with rfl | rfl | rfl
          · exact absurd (.inl rfl) no
          · exact absurd (.inr rfl) no
          · exact ⟨e, .inr hk0⟩
        · exact ⟨e, .inl hk0⟩
      have e3 : Vis cenv.scope y := e3
      rcases e3 with e3 | e3 | e3
      · exact key _ e3 (.inl rfl)
      · exact key _ e3 (.inr (.inl rfl))
      · exact key _ e3 (.inr (.inr rfl))
    obtain ⟨m, hn, hl⟩ := I.loc
    have hvis : Vis X.env.scope y := (ok.free _ (PySem.mem_of_lookup hfr.1) rfl).elim (fun k => .inr (.inl k)) (fun k => .inr (.inr k))
    obtain ⟨w, r, q⟩ := hl i y av e1 e2 hvis
    refine ⟨w, r, .inr ⟨hfr.2, ?_⟩⟩
    obtain ⟨c, h1, h2⟩ := look hfr.1
    rcases q with ⟨k, _⟩ | ⟨_, c', e', z⟩
    · have k : X.env.scope.names.lookup y = some .local := k
      rcases ok.free _ (PySem.mem_of_lookup hfr.1) rfl with k' | k' <;> rw [show X.env.scope.names.lookup y = _ from k'] at k <;> cases k
    · rw [h2] at e'; cases e'
      exact ⟨c, h1, z.keeps kp⟩
  · have e : cenv.cells.lookup y = some c := e
    rcases mem e with ⟨h1, _⟩ | ⟨_, z⟩
    · obtain ⟨w, z⟩ := I.cell y c h1
      exact ⟨w, z.keeps kp⟩
    · exact ⟨_, z⟩
  · show H cenv.locals = none
    rw [hL]; exact I.hok.fresh (Nat.le_refl _)
  · have e : cenv.cells.lookup y = some c := e
    rcases mem e with ⟨h1, _⟩ | ⟨h1, _⟩
    · exact I.freeC y c h1
    · exact I.hok.fresh (Nat.le_of_succ_le h1)
  · exact absurd (show p ∈ ([] : List (Addr × Obj)) ++ [] from hp) (by simp)

/-- an item appended to a tracked list -/
theorem app_ok {E : Value → Shared → Prop} {D : Addr} {xs : List V} {y : V} {v : Value} {Q : Value → Shared → Prop} (I : Inv X pins σ H s) (hD : H D = some (.lst xs)) (hz : xs.length < sizeLine) (r : RelV y v)
    (h : ∀ s', Inv X pins σ (upd H D (.lst (xs ++ [y]))) s' → Q .none s') : wpAny (model X.prog X.w) X.A (call (.builtin "list.append") [.ref D, v]) Q E s := by
  obtain ⟨hz', its, n, ri, e⟩ := I.hok D _ hD
  have hl := ri.length
  refine append_at (hsz := by rw [List.size_toArray]; omega) e fun h' sb ho' => ?_
  refine h { s with heap := h' } (I.write (t' := s.toks) (by rw [hD]; trivial) (.inl rfl) (fun b u hb q => (sb.2 b hb).trans q) ⟨_, ho'⟩ ⟨by rw [List.length_append]; exact hz, its ++ [v], n + 1, ri.append (.cons r .nil), ?_⟩)
  rw [ho']
  simp

/-- a clause's tests -/
def PTs (X : Cx) (ifs : List Expr) (t : TT) : Prop :=
  ∀ (pins : List (Addr × Obj)) (s : Shared) (σ : St) (H : Hp) (Q : Bool → Hp → Prop), Inv X pins σ H s → t σ H Q →
    wpAny (model X.prog X.w) X.A (forIn ifs true fun c r => if r = true then do let ok ← isTrue c X.env (eval c X.env); pure (ForInStep.yield ok) else pure (ForInStep.yield r)) (TP X pins σ Q) X.xe s
def tYes : TT := fun _ H Q => Q true H
theorem pts_nil : PTs X [] tYes := fun _ _ _ H _ I h => wpAny_tests_nil ⟨H, I, h⟩
theorem pts_one {c : Expr} {t : TT} (h : PT X c t) : PTs X [c] t := fun pins s σ H Q I hw => wpAny_tests_one (h pins s σ H Q I hw)
end

theorem thnF {α : Type} {t : Sem α} {Q Q' : α → Shared → Prop} {M : Model} {A : Around} {E : Value → Shared → Prop} {s : Shared} (h : wpAny M A t Q (fun _ _ => False) s) (hQ : ∀ a s, Q a s → Q' a s) : wpAny M A t Q' E s := wpAny_mono h hQ fun _ _ z => False.elim z

/-- the loop of a list comprehension's block, the target of any form (codeAny_compLoop_tests asks a target that no tuple goes to; statement and proof follow it, PyProof/CompMap.lean:41-61, with the step letOwnedTupleGo kept) -/
theorem compLoop_any {prog : Program} {w : World} {A : Around} {R : Result → Shared → Prop} {s : Shared} {elt target iter : Expr} {ifs : List Expr} {scope : Scope} {pos : Pos} {it acc : Value} {env : Env} (I : Nat → Shared → Prop)
    (turn : ∀ n s, I n s → wpAny (model prog w) A (pyNext it) (fun r s₁ => match r with
      | none => R (.ok .next) s₁
      | some v => wpAny (model prog w) A (letOwnedTupleGo target it v) (fun _ s₁' => wpAny (model prog w) A (assign target env v) (fun _ s₂ =>
          wpAny (model prog w) A (forIn ifs true fun c r => if r = true then do let ok ← isTrue c env (eval c env); pure (ForInStep.yield ok) else pure (ForInStep.yield r)) (fun ok s₃ =>
            if ok = true then wpAny (model prog w) A (eval elt env) (fun x s₄ =>
              wpAny (model prog w) A (call (.builtin "list.append") [acc, x]) (fun _ s₅ => ∃ m, m < n ∧ I m s₅) (notedBy (model prog w) A env fun e s' => R (.error e) s') s₄) (notedBy (model prog w) A env fun e s' => R (.error e) s') s₃
            else ∃ m, m < n ∧ I m s₃) (notedBy (model prog w) A env fun e s' => R (.error e) s') s₂) (notedBy (model prog w) A env fun e s' => R (.error e) s') s₁') (notedBy (model prog w) A env fun e s' => R (.error e) s') s₁) (notedBy (model prog w) A env fun e s' => R (.error e) s') s)
    (n : Nat) (h : I n s) :
    codeAny (model prog w) A (.compLoop (.ListComp elt [⟨target, iter, ifs, 0⟩] scope pos) 0 it acc env) R s := by
  refine codeAny_loop rfl I (fun n s hI => ?_) n h
  show wpAny _ A ((compTurn (.ListComp elt [⟨target, iter, ifs, 0⟩] scope pos) 0 it acc env).onRaise (fun x => do noteFrame x env; theTreesLotGoes x)) _ _ s
  refine wpAny_noted ?_
  rw [compTurn_list]
  refine wpAny_bind (wpAny_standAt (wpAny_bind (wpAny_mono (turn n s hI) (fun r s₁ h₁ => ?_) fun _ _ h' => h')))
  cases r with
  | none => exact wpAny_pure h₁
  | some v =>
    refine wpAny_bind (wpAny_mono h₁ (fun _ s₁' h₁' => ?_) fun _ _ h' => h')
    refine wpAny_bind (wpAny_mono h₁' (fun _ s₂ h₂ => wpAny_bind (wpAny_mono h₂ (fun ok s₃ h₃ => ?_) fun _ _ h' => h')) fun _ _ h' => h')
    cases ok with
    | false => exact wpAny_pure ⟨rfl, h₃⟩
    | true =>
      exact wpAny_bind (wpAny_bind (wpAny_mono h₃ (fun x s₄ h₄ => wpAny_bind (wpAny_mono h₄ (fun _ s₅ h₅ => wpAny_pure (wpAny_pure ⟨rfl, h₅⟩)) fun _ _ h' => h')) fun _ _ h' => h'))

section
variable {X : Cx}
/-- [elt for target in iter if ..]: D the new list; W by the turn and a measure, Nx what a turn is to reach -/
def tLc (wi : TI) (g : TG) (tt : TT) (te : TE) (vs : List Nat) : TE := fun σ H Q => wi σ H fun J H1 => ∀ D, H1 D = none → ∃ W : Nat → Nat → Hp → Prop, (∃ m, W 0 m (upd H1 D (.lst []))) ∧ ∀ i m H, W i m H →
  (J.stop i H ∧ Q (.ref D) H) ∨ (J.go i H ∧ ∃ Nx : Hp → Prop, (∀ H', Nx H' → ∃ m', m' < m ∧ W (i + 1) m' H') ∧ ∀ x H', J.yld i H x H' → g x (wipe σ vs) H' fun σ2 H2 => wipe σ2 vs = wipe σ vs ∧ tt σ2 H2 fun b H3 =>
    if b = true then te σ2 H3 fun y H4 => ∃ acc, H4 D = some (.lst acc) ∧ acc.length < sizeLine ∧ Nx (upd H4 D (.lst (acc ++ [y]))) else Nx H3)
theorem lc_core {pins : List (Addr × Obj)} {s : Shared} {σ : St} {H : Hp} {Q : VK} {elt tg iter : Expr} {ifs : List Expr} {scope : Scope} {own : List (Str × Nat)} {pos pos' : Pos} {wi : TI} {g : TG} {tt : TT} {te : TE} {use : Option (Value → Sem Unit)} {Qf : Value → Shared → Prop}
    (hc : X.calm = true) (hN : X.N.Nodup) (I : Inv X pins σ H s) (hi : PI X tg iter wi) (ok : BlkOk X.N X.env.scope scope own)
    (hg : ∀ (s : Shared) (H : Hp) (C : Addr) (cl : List (Str × Addr)) (fp : List Addr), PG (X.blk s H scope (compEnvC scope cl C X.env) fp) tg g) (ht : ∀ (s : Shared) (H : Hp) (C : Addr) (cl : List (Str × Addr)) (fp : List Addr), PTs (X.blk s H scope (compEnvC scope cl C X.env) fp) ifs tt)
    (he : ∀ (s : Shared) (H : Hp) (C : Addr) (cl : List (Str × Addr)) (fp : List Addr), PE (X.blk s H scope (compEnvC scope cl C X.env) fp) elt te) (hs : ∀ x, foldedSetIterable iter X.env x = pure x)
    (h : tLc wi g tt te (own.map (·.2)) σ H Q)
    (hRR : ∀ D C s' m H', Inv X pins σ H' s' → Q (.ref D) H' → s'.heap.Ns C m → FpOk X pins H' C → compPost (model X.prog X.w) X.A X.xe use Qf (.ref D) C (.ok .next) s') :
    wpAny (model X.prog X.w) X.A (comprehension (.ListComp elt [⟨tg, iter, ifs, 0⟩] scope pos) scope X.env pos' (newList []) false (eval iter X.env) use) Qf X.xe s := by
  have hfree : ∀ y ∈ scope.names, y.2 = .free → ∃ c, X.env.cells.lookup y.1 = some c := fun y hy e => by
    rcases ok.free y hy e with k | k
    · exact I.ok.has _ (.inl k)
    · exact I.ok.has _ (.inr k)
  refine wpAny_comprehension_free (use := use) rfl hs (closure_ok hfree) ok.kind (fun y hy e => by rw [ok.uniq y hy, e])
    (thn (hi pins s σ H _ I h) fun xv s1 hx => thn hx fun itv s2 h2 => ?_)
  obtain ⟨it, fp, tn, J, H2, e, I2, T, st2, f2, q⟩ := h2
  subst e
  refine wpAny_newObj_type (newEnv_comp ?_) (by show 0 ≤ sizeLine; decide)
  generalize hD : s2.heap.objs.size = D
  have hDn : H2 D = none := I2.hok.fresh (Nat.le_of_eq hD)
  obtain ⟨W, ⟨m0, w0⟩, turn⟩ := q D hDn
  -- the new list
  generalize hs3 : ({ s2 with heap := s2.heap.push { cls := .type "list", data := .seq ([] : List Value).toArray } } : Shared) = s3
  have I3 : Inv X pins σ (upd H2 D (.lst [])) s3 := by
    rw [← hs3]
    refine I2.laid (t' := s2.toks) (fun b o e => Heap.get?_push_of_some _ e) (Nat.le_of_eq hD) ⟨Nat.zero_le _, [], 0, .nil, ?_⟩
    rw [← hD]
    exact Heap.get?_push_size _ rfl
  have h3 : s3.heap = s2.heap.push { cls := .type "list", data := .seq ([] : List Value).toArray } := by rw [← hs3]
  have sz : ∀ b ∈ fp, b < s2.heap.objs.size := fun b hb => by
    obtain ⟨o, e, _⟩ := T.obj _ _ st2 b hb
    exact Heap.lt_size e
  have f3 : ∀ b ∈ fp, FpOk X pins (upd H2 D (.lst [])) b ∧ b < s3.heap.objs.size := fun b hb => by
    have hlt := sz b hb
    refine ⟨⟨?_, (f2 b hb).2⟩, by rw [h3, Heap.size_push]; exact Nat.lt_succ_of_lt hlt⟩
    rw [upd_ne (by rw [← hD]; exact Nat.ne_of_lt hlt)]
    exact (f2 b hb).1
  have st3 : tn 0 s3.heap := T.keep _ _ _ st2 fun b _ o e => by rw [h3]; exact Heap.get?_push_of_some _ e
  have I4 := block_start I3 ok hN f3
  have pg := hg s3 (upd H2 D (.lst [])) s3.heap.objs.size (cellsFrom (s3.heap.objs.size + 1) scope.names (cloFrom X.env.cells scope.names [])) fp
  have pt := ht s3 (upd H2 D (.lst [])) s3.heap.objs.size (cellsFrom (s3.heap.objs.size + 1) scope.names (cloFrom X.env.cells scope.names [])) fp
  have pe := he s3 (upd H2 D (.lst [])) s3.heap.objs.size (cellsFrom (s3.heap.objs.size + 1) scope.names (cloFrom X.env.cells scope.names [])) fp
  show codeAny _ _ (.compStart (.ListComp elt [⟨tg, iter, ifs, 0⟩] scope pos) 0 (.ref it) (.ref D) (compEnvC scope (cellsFrom (s3.heap.objs.size + 1) scope.names (cloFrom X.env.cells scope.names [])) s3.heap.objs.size X.env)) (compPost (model X.prog X.w) X.A X.xe use Qf (.ref D) s3.heap.objs.size) { s3 with heap := pushCells (s3.heap.push { cls := .type "dict", data := .dict #[] }) scope.names }
  have nfp : ∀ b ∈ fp, (upd H2 D (.lst [])) b = none := fun b hb => (f3 b hb).1.1
  generalize hce : compEnvC scope (cellsFrom (s3.heap.objs.size + 1) scope.names (cloFrom X.env.cells scope.names [])) s3.heap.objs.size X.env = ce at I4 pg pt pe ⊢
  have cL : ce.locals = s3.heap.objs.size := by subst hce; rfl
  generalize hH3 : upd H2 D (.lst []) = H3 at I3 I4 pg pt pe w0 nfp f3
  generalize hs4 : ({ s3 with heap := pushCells (s3.heap.push { cls := .type "dict", data := .dict #[] }) scope.names } : Shared) = s4 at I4 ⊢
  have st4 : tn 0 s4.heap := T.keep _ _ _ st3 fun b _ o e => by rw [← hs4]; exact pushCells_keeps _ _ _ _ (Heap.get?_push_of_some _ e)
  have stat : ∀ {σ' : St} {H' : Hp} {s' : Shared}, Inv (X.blk s3 H3 scope ce fp) [] σ' H' s' → (∀ b ∈ fp, H' b = none) → ∀ b ∈ fp, FpOk (X.blk s3 H3 scope ce fp) [] H' b := fun {σ' H' s'} I' hn b hb =>
    ⟨hn b hb, (I'.ok.exf b hb).1, I'.ok.exfs b hb, .inl hb, fun x c e => (I'.ok.exf b hb).2 x c e, fun p hp => absurd (show p ∈ ([] : List (Addr × Obj)) ++ [] from hp) (by simp)⟩
  have loop : codeAny (model X.prog X.w) X.A (.compLoop (.ListComp elt [⟨tg, iter, ifs, 0⟩] scope pos) 0 (.ref it) (.ref D) ce) (compPost (model X.prog X.w) X.A X.xe use Qf (.ref D) s3.heap.objs.size) s4 := by
    refine compLoop_any (fun n s' => ∃ i H', Inv (X.blk s3 H3 scope ce fp) [] (wipe σ (own.map (·.2))) H' s' ∧ tn i s'.heap ∧ (∀ b ∈ fp, H' b = none) ∧ W i n H') ?_ m0 ⟨0, H3, I4, st4, nfp, w0⟩
    rintro n s5 ⟨i, H5, I5, st5, n5, w5⟩
    rcases turn i n H5 w5 with ⟨stop, qq⟩ | ⟨go, Nx, hNx, step⟩
    · have td := T.done (X.blk s3 H3 scope ce fp) rfl rfl rfl hc i [] s5 _ H5 (fun _ _ => False) I5 (stat I5 n5) st5 stop
      refine thnF td fun r s6 ⟨hr, I6⟩ => ?_
      subst hr
      -- back in the def's context
      have I7 : Inv X pins σ H5 s6 := I3.call' (ch := fp) I6.os I6.base I6.hok I6.bare fun b hb => ⟨(f3 b hb).1.2.2.2.1, (f3 b hb).1.2.1, (f3 b hb).1.2.2.2.2.1, (f3 b hb).1.2.2.2.2.2⟩
      have nC : H5 s3.heap.objs.size = none := by
        have z : H5 ce.locals = none := I6.free
        rw [cL] at z
        exact z
      obtain ⟨m, hn, _⟩ := I6.loc
      have hn : s6.heap.Ns ce.locals m := hn
      rw [cL] at hn
      exact hRR D s3.heap.objs.size s6 m H5 I7 qq hn (I3.fpOk (Nat.le_refl _) nC)
    · have ti := T.item (X.blk s3 H3 scope ce fp) rfl rfl rfl hc i [] s5 _ H5 (fun _ _ => False) I5 (stat I5 n5) st5 go
      refine thnF ti fun r s6 ⟨u, hr, h6⟩ => ?_
      subst hr
      refine thnF h6 fun _ s7 ⟨x, H7, I7, r7, y7, st7, n7⟩ => ?_
      have I7' := I7.pinned (stat I7 n7) (T.obj _ _ st7)
      refine thnF (pg _ s7 _ H7 x u _ I7' r7 (step x H7 y7)) fun _ s8 ⟨σ8, H8, I8, hw8, q8⟩ => ?_
      refine thnF (pt _ s8 σ8 H8 _ I8 q8) fun b s9 ⟨H9, I9, q9⟩ => ?_
      -- the turn's end
      have fin : ∀ {s' : Shared} {H' : Hp}, Inv (X.blk s3 H3 scope ce fp) ([] ++ pinsAt fp s7.heap) σ8 H' s' → Nx H' → ∃ m, m < n ∧ ∃ i H', Inv (X.blk s3 H3 scope ce fp) [] (wipe σ (own.map (·.2))) H' s' ∧ tn i s'.heap ∧ (∀ b ∈ fp, H' b = none) ∧ W i m H' := fun {s' H'} I' nx => by
        obtain ⟨m', hm, w'⟩ := hNx H' nx
        have pin' : ∀ b ∈ fp, ∀ o, s7.heap.get? b = some o → s'.heap.get? b = some o ∧ H' b = none := fun b hb o e =>
          let z := I'.pin (b, o) (List.mem_append_right _ (List.mem_append_right _ (mem_pinsAt hb e)))
          ⟨z.1, z.2.1⟩
        have hl : (wipe σ (own.map (·.2))).length = σ8.length := by rw [← hw8, wipe_length]
        refine ⟨m', hm, i + 1, H', (I'.unpinned (pins := [])).weak hl (fun j v e => ?_), T.keep _ _ _ st7 fun b hb o e => (pin' b hb o e).1, fun b hb => ?_, w'⟩
        · rw [← hw8] at e
          exact (wipe_some e).1
        · obtain ⟨o, e, _⟩ := T.obj _ _ st7 b hb
          exact (pin' b hb o e).2
      cases b with
      | false =>
        simp only [Bool.false_eq_true, if_false] at q9 ⊢
        exact fin I9 q9
      | true =>
        simp only [if_true] at q9 ⊢
        refine thnF (pe _ s9 σ8 H9 _ I9 q9) fun z s10 ⟨yv, H10, I10, r10, acc, hD10, hz10, nx⟩ => ?_
        exact app_ok (X := X.blk s3 H3 scope ce fp) I10 hD10 hz10 r10 fun s11 I11 => fin I11 nx
  exact codeAny_compStart_list loop (T.self X.A 0 _ _ _ st4 loop)
/-- as a value -/
theorem pe_lc {elt tg iter : Expr} {ifs : List Expr} {scope : Scope} {own : List (Str × Nat)} {pos : Pos} {wi : TI} {g : TG} {tt : TT} {te : TE} (hc : X.calm = true) (hN : X.N.Nodup) (hi : PI X tg iter wi) (ok : BlkOk X.N X.env.scope scope own)
    (hg : ∀ (s : Shared) (H : Hp) (C : Addr) (cl : List (Str × Addr)) (fp : List Addr), PG (X.blk s H scope (compEnvC scope cl C X.env) fp) tg g) (ht : ∀ (s : Shared) (H : Hp) (C : Addr) (cl : List (Str × Addr)) (fp : List Addr), PTs (X.blk s H scope (compEnvC scope cl C X.env) fp) ifs tt)
    (he : ∀ (s : Shared) (H : Hp) (C : Addr) (cl : List (Str × Addr)) (fp : List Addr), PE (X.blk s H scope (compEnvC scope cl C X.env) fp) elt te) (hs : ∀ x, foldedSetIterable iter X.env x = pure x := by intro _; rfl) :
    PE X (.ListComp elt [⟨tg, iter, ifs, 0⟩] scope pos) (tLc wi g tt te (own.map (·.2))) := by
  intro pins s σ H Q I h
  rw [eval_ListComp]
  refine lc_core hc hN I hi ok hg ht he hs h fun D C s' m H' I' q hn f => ⟨m, hn, fun h'' sb => ?_⟩
  obtain ⟨f0, f1, f2, f3, f4, f5⟩ := f
  exact ⟨.ref D, H', I'.turned (t' := s'.toks) (fun b o hb e => (sb.2 b hb).trans e) f0 f1 f3 f4 f5, rfl, q⟩
/-- name = [..] on one line, the name a local -/
theorem ps_setLc {i : Nat} {y : Str} {py : Pos} {elt tg iter : Expr} {ifs : List Expr} {scope : Scope} {own : List (Str × Nat)} {pos spos : Pos} {wi : TI} {g : TG} {tt : TT} {te : TE} (hc : X.calm = true) (hN : X.N.Nodup) (hy : X.N[i]? = some y) (hyl : X.env.scope.names.lookup y = some .local)
    (hsw : swapsWith (.ListComp elt [⟨tg, iter, ifs, 0⟩] scope pos) (some (.Name y py)) spos.line X.env = pure true) (hi : PI X tg iter wi) (ok : BlkOk X.N X.env.scope scope own)
    (hg : ∀ (s : Shared) (H : Hp) (C : Addr) (cl : List (Str × Addr)) (fp : List Addr), PG (X.blk s H scope (compEnvC scope cl C X.env) fp) tg g) (ht : ∀ (s : Shared) (H : Hp) (C : Addr) (cl : List (Str × Addr)) (fp : List Addr), PTs (X.blk s H scope (compEnvC scope cl C X.env) fp) ifs tt)
    (he : ∀ (s : Shared) (H : Hp) (C : Addr) (cl : List (Str × Addr)) (fp : List Addr), PE (X.blk s H scope (compEnvC scope cl C X.env) fp) elt te) (hs : ∀ x, foldedSetIterable iter X.env x = pure x := by intro _; rfl) :
    PS X (.Assign [.Name y py] (.ListComp elt [⟨tg, iter, ifs, 0⟩] scope pos) spos) (tAsg (tLc wi g tt te (own.map (·.2))) (gName i)) := by
  intro pins s σ H D I h
  rw [exec_Assign_Name_used _ _ _ _ hsw]
  refine wpAny_bind (wpAny_standAt (wpAny_bind ?_))
  show wpAny _ X.A (do let _ ← comprehension (.ListComp elt [⟨tg, iter, ifs, 0⟩] scope pos) scope X.env (firstIterPos [⟨tg, iter, ifs, 0⟩] pos) (newList []) false (eval iter X.env) (some (assign (.Name y py) X.env))) _ _ s
  have h : tLc wi g tt te (own.map (·.2)) σ H (fun x H1 => gName i x σ H1 D.nx) := h
  refine wpAny_bind (thn (lc_core (Qf := fun _ s' => SP X pins D .next s') hc hN I hi ok hg ht he hs h fun L C s' m H' I' q hn f => ?_) fun _ s' hq => wpAny_pure (wpAny_pure hq))
  show wpAny _ _ (assign (.Name y py) X.env (.ref L)) _ _ _
  refine wpAny_assign_Name (store_ok2 (v := V.ref L) I' hN hy (.inl hyl) rfl (fun s2 I2 ⟨a, sb, ha⟩ => ?_) (.inr hyl))
  obtain ⟨f0, f1, f2, f3, f4, f5⟩ := f
  have haC : C ≠ a := by
    rcases ha with z | z
    · rw [z]; exact f1
    · exact fun e => f4 y a z e.symm
  refine ⟨m, hn.sameBut sb haC, fun h3 sb3 => ?_⟩
  exact ⟨_, H', I2.turned (t' := s2.toks) (fun b o hb e => (sb3.2 b hb).trans e) f0 f1 f3 f4 f5, q⟩
theorem sw_true {elt : Expr} {gs : List Comprehension} {scope : Scope} {pos py : Pos} {y : Str} {l : Nat} {env : Env} (hk : env.scope.kind = .function) (hy : env.scope.names.lookup y = some .local) (hl : (py.line == pos.line) = true)
    (ha : (scope.names.any fun (n, k) => n == y && (k == .local || k == .cell)) = false) : swapsWith (.ListComp elt gs scope pos) (some (.Name y py)) l env = pure true := by
  have ky : env.kindOf y = some .local := hy
  have hb : env.blockKind = .function := by unfold Env.blockKind; rw [hk]; rfl
  unfold swapsWith
  simp only [hb, ky, ha, Expr.pos, hl]
  rfl
end

/-- over a range: Pv by the turn and the heap (the new list at D within) -/
theorem lc_range {lo : Int} {n : Nat} {g : TG} {tt : TT} {te : TE} {vs : List Nat} {σ : St} {H1 : Hp} {D : Addr} {Qd : Hp → Prop} (Pv : Nat → Hp → Prop) (h0 : Pv 0 (upd H1 D (.lst [])))
    (hs : ∀ i H, i < n → Pv i H → g (.int (lo + i)) (wipe σ vs) H fun σ2 H2 => wipe σ2 vs = wipe σ vs ∧ tt σ2 H2 fun b H3 =>
      if b = true then te σ2 H3 fun y H4 => ∃ acc, H4 D = some (.lst acc) ∧ acc.length < sizeLine ∧ Pv (i + 1) (upd H4 D (.lst (acc ++ [y]))) else Pv (i + 1) H3) (hd : ∀ H, Pv n H → Qd H) :
    ∃ W : Nat → Nat → Hp → Prop, (∃ m, W 0 m (upd H1 D (.lst []))) ∧ ∀ i m H, W i m H →
      ((Itr lo n).stop i H ∧ Qd H) ∨ ((Itr lo n).go i H ∧ ∃ Nx : Hp → Prop, (∀ H', Nx H' → ∃ m', m' < m ∧ W (i + 1) m' H') ∧ ∀ x H', (Itr lo n).yld i H x H' → g x (wipe σ vs) H' fun σ2 H2 => wipe σ2 vs = wipe σ vs ∧ tt σ2 H2 fun b H3 =>
        if b = true then te σ2 H3 fun y H4 => ∃ acc, H4 D = some (.lst acc) ∧ acc.length < sizeLine ∧ Nx (upd H4 D (.lst (acc ++ [y]))) else Nx H3) := by
  refine ⟨fun i m H => m = n - i ∧ i ≤ n ∧ Pv i H, ⟨n, by simp, Nat.zero_le _, h0⟩, ?_⟩
  rintro i m H ⟨rfl, hi, p⟩
  by_cases hlt : i < n
  · refine .inr ⟨hlt, Pv (i + 1), fun H' p' => ⟨n - (i + 1), by omega, rfl, hlt, p'⟩, fun x H' y => ?_⟩
    obtain ⟨e, y⟩ := y
    subst e y
    exact hs i _ hlt p
  · have e : i = n := by omega
    subst e
    exact .inl ⟨Nat.le_refl _, hd H p⟩
/-- over a list that the block leaves as it is -/
theorem lc_list {K : PySem.W.Frag} {a : Addr} {xs : List V} {g : TG} {tt : TT} {te : TE} {vs : List Nat} {σ : St} {H1 : Hp} {D : Addr} {Qd : Hp → Prop} (Pv : Nat → Hp → Prop) (h0 : Pv 0 (upd H1 D (.lst []))) (hl : ∀ i H, i ≤ xs.length → Pv i H → SqL K H a xs)
    (hs : ∀ i x H, xs[i]? = some x → Pv i H → g x (wipe σ vs) H fun σ2 H2 => wipe σ2 vs = wipe σ vs ∧ tt σ2 H2 fun b H3 =>
      if b = true then te σ2 H3 fun y H4 => ∃ acc, H4 D = some (.lst acc) ∧ acc.length < sizeLine ∧ Pv (i + 1) (upd H4 D (.lst (acc ++ [y]))) else Pv (i + 1) H3) (hd : ∀ H, Pv xs.length H → Qd H) :
    ∃ W : Nat → Nat → Hp → Prop, (∃ m, W 0 m (upd H1 D (.lst []))) ∧ ∀ i m H, W i m H →
      ((Itl K a).stop i H ∧ Qd H) ∨ ((Itl K a).go i H ∧ ∃ Nx : Hp → Prop, (∀ H', Nx H' → ∃ m', m' < m ∧ W (i + 1) m' H') ∧ ∀ x H', (Itl K a).yld i H x H' → g x (wipe σ vs) H' fun σ2 H2 => wipe σ2 vs = wipe σ vs ∧ tt σ2 H2 fun b H3 =>
        if b = true then te σ2 H3 fun y H4 => ∃ acc, H4 D = some (.lst acc) ∧ acc.length < sizeLine ∧ Nx (upd H4 D (.lst (acc ++ [y]))) else Nx H3) := by
  refine ⟨fun i m H => m = xs.length - i ∧ i ≤ xs.length ∧ Pv i H, ⟨xs.length, by simp, Nat.zero_le _, h0⟩, ?_⟩
  rintro i m H ⟨rfl, hi, p⟩
  have q := hl i H hi p
  by_cases hlt : i < xs.length
  · refine .inr ⟨⟨xs, xs[i], q, by simp [hlt]⟩, Pv (i + 1), fun H' p' => ⟨xs.length - (i + 1), by omega, rfl, hlt, p'⟩, fun x H' y => ?_⟩
    obtain ⟨e, y⟩ := y
    subst e
    exact hs i x _ (y xs q) p
  · have e : i = xs.length := by omega
    subst e
    exact .inl ⟨⟨xs, q, Nat.le_refl _⟩, hd H p⟩
/-- over a tuple -/
theorem lc_tup {K : PySem.W.Frag} {a : Addr} {xs : List V} {g : TG} {tt : TT} {te : TE} {vs : List Nat} {σ : St} {H1 : Hp} {D : Addr} {Qd : Hp → Prop} (Pv : Nat → Hp → Prop) (h0 : Pv 0 (upd H1 D (.lst []))) (hl : ∀ i H, i ≤ xs.length → Pv i H → SqT K H a xs)
    (hs : ∀ i x H, xs[i]? = some x → Pv i H → g x (wipe σ vs) H fun σ2 H2 => wipe σ2 vs = wipe σ vs ∧ tt σ2 H2 fun b H3 =>
      if b = true then te σ2 H3 fun y H4 => ∃ acc, H4 D = some (.lst acc) ∧ acc.length < sizeLine ∧ Pv (i + 1) (upd H4 D (.lst (acc ++ [y]))) else Pv (i + 1) H3) (hd : ∀ H, Pv xs.length H → Qd H) :
    ∃ W : Nat → Nat → Hp → Prop, (∃ m, W 0 m (upd H1 D (.lst []))) ∧ ∀ i m H, W i m H →
      ((Itt K a).stop i H ∧ Qd H) ∨ ((Itt K a).go i H ∧ ∃ Nx : Hp → Prop, (∀ H', Nx H' → ∃ m', m' < m ∧ W (i + 1) m' H') ∧ ∀ x H', (Itt K a).yld i H x H' → g x (wipe σ vs) H' fun σ2 H2 => wipe σ2 vs = wipe σ vs ∧ tt σ2 H2 fun b H3 =>
        if b = true then te σ2 H3 fun y H4 => ∃ acc, H4 D = some (.lst acc) ∧ acc.length < sizeLine ∧ Nx (upd H4 D (.lst (acc ++ [y]))) else Nx H3) := by
  refine ⟨fun i m H => m = xs.length - i ∧ i ≤ xs.length ∧ Pv i H, ⟨xs.length, by simp, Nat.zero_le _, h0⟩, ?_⟩
  rintro i m H ⟨rfl, hi, p⟩
  have q := hl i H hi p
  by_cases hlt : i < xs.length
  · refine .inr ⟨⟨xs, xs[i], q, by simp [hlt]⟩, Pv (i + 1), fun H' p' => ⟨xs.length - (i + 1), by omega, rfl, hlt, p'⟩, fun x H' y => ?_⟩
    obtain ⟨e, y⟩ := y
    subst e
    exact hs i x _ (y xs q) p
  · have e : i = xs.length := by omega
    subst e
    exact .inl ⟨⟨xs, q, Nat.le_refl _⟩, hd H p⟩
def blkC (N : List Str) (sc scope : Scope) (own : List (Str × Nat)) : Bool :=
  (match scope.kind with | .function => true | _ => false) && (scope.names.all fun y => decide (scope.names.lookup y.1 = some y.2)) && (own.all fun p => decide (N[p.2]? = some p.1)) &&
    (scope.names.all fun y => match y.2 with
      | .free => (match sc.names.lookup y.1 with | some .cell => true | some .free => true | _ => false)
      | .local => decide (y.1 ∈ own.map (·.1)) || decide (y.1 ∉ N)
      | .cell => decide (y.1 ∈ own.map (·.1)) || decide (y.1 ∉ N)
      | _ => true)
theorem blkOk_by {N : List Str} {sc scope : Scope} {own : List (Str × Nat)} (h : blkC N sc scope own = true) : BlkOk N sc scope own := by
  unfold blkC at h
  simp only [Bool.and_eq_true, List.all_eq_true, decide_eq_true_eq] at h
  obtain ⟨⟨⟨h1, h2⟩, h3⟩, h4⟩ := h
  refine ⟨?_, h2, h3, fun y hy e => ?_, fun y hy e => ?_⟩
  · split at h1
    · assumption
    · cases h1
  · have q := h4 y hy
    simp only [e] at q
    split at q <;> first | exact .inl (by assumption) | exact .inr (by assumption) | cases q
  · have q := h4 y hy
    rcases e with e | e <;> (simp only [e, Bool.or_eq_true, decide_eq_true_eq] at q; exact q)
end L2

namespace L2
open PySem PySem.Spec PyProof.Rows

theorem compTurn2_out (elt t0 i0 t1 i1 : Expr) (ifs0 ifs1 : List Expr) (scope : Scope) (pos : Pos) (it acc : Value) (env : Env) :
    compTurn (.ListComp elt [⟨t0, i0, ifs0, 0⟩, ⟨t1, i1, ifs1, 0⟩] scope pos) 0 it acc env = (do
      standAt i0.pos
      match ← pyNext it with
      | none => pure (.done .next)
      | some v =>
        letOwnedTupleGo t0 it v
        assign t0 env v
        let mut ok := true
        for c in ifs0 do
          if ok then ok ← isTrue c env (eval c env)
        if ok then
          let x ← eval i1 env
          standAt i1.pos
          let x ← foldedSetIterable i1 env x
          let _ ← runOwn (.compStart (.ListComp elt [⟨t0, i0, ifs0, 0⟩, ⟨t1, i1, ifs1, 0⟩] scope pos) 1 (← holding [x] (pyIter x)) acc env) env
        again (.compLoop (.ListComp elt [⟨t0, i0, ifs0, 0⟩, ⟨t1, i1, ifs1, 0⟩] scope pos) 0 it acc env)) := by rfl
theorem compTurn2_in (elt t0 i0 t1 i1 : Expr) (ifs0 ifs1 : List Expr) (scope : Scope) (pos : Pos) (it acc : Value) (env : Env) :
    compTurn (.ListComp elt [⟨t0, i0, ifs0, 0⟩, ⟨t1, i1, ifs1, 0⟩] scope pos) 1 it acc env = (do
      standAt i1.pos
      match ← pyNext it with
      | none => pure (.done .next)
      | some v =>
        letOwnedTupleGo t1 it v
        assign t1 env v
        let mut ok := true
        for c in ifs1 do
          if ok then ok ← isTrue c env (eval c env)
        if ok then
          (do let _ ← call (.builtin "list.append") [acc, ← eval elt env])
        again (.compLoop (.ListComp elt [⟨t0, i0, ifs0, 0⟩, ⟨t1, i1, ifs1, 0⟩] scope pos) 1 it acc env)) := by rfl

section
variable {prog : Program} {w : World} {A : Around} {R : Result → Shared → Prop} {s : Shared} {elt t0 i0 t1 i1 : Expr} {ifs0 ifs1 : List Expr} {scope : Scope} {pos : Pos} {it acc : Value} {env : Env}
/-- the loop of the first clause -/
theorem compLoop2_out (hs : ∀ x, foldedSetIterable i1 env x = pure x) (I : Nat → Shared → Prop)
    (turn : ∀ n s, I n s → wpAny (model prog w) A (pyNext it) (fun r s₁ => match r with
      | none => R (.ok .next) s₁
      | some v => wpAny (model prog w) A (letOwnedTupleGo t0 it v) (fun _ s₁' => wpAny (model prog w) A (assign t0 env v) (fun _ s₂ =>
          wpAny (model prog w) A (forIn ifs0 true fun c r => if r = true then do let ok ← isTrue c env (eval c env); pure (ForInStep.yield ok) else pure (ForInStep.yield r)) (fun ok s₃ =>
            if ok = true then wpAny (model prog w) A (eval i1 env) (fun x s₄ => wpAny (model prog w) A (pyIter x) (fun it1 s₅ =>
              codeAny (model prog w) A (.compStart (.ListComp elt [⟨t0, i0, ifs0, 0⟩, ⟨t1, i1, ifs1, 0⟩] scope pos) 1 it1 acc env) (fun r s' => match r with
                | .ok _ => ∃ m, m < n ∧ I m s'
                | .error _ => False) s₅) (notedBy (model prog w) A env fun e s' => R (.error e) s') s₄) (notedBy (model prog w) A env fun e s' => R (.error e) s') s₃
            else ∃ m, m < n ∧ I m s₃) (notedBy (model prog w) A env fun e s' => R (.error e) s') s₂) (notedBy (model prog w) A env fun e s' => R (.error e) s') s₁') (notedBy (model prog w) A env fun e s' => R (.error e) s') s₁) (notedBy (model prog w) A env fun e s' => R (.error e) s') s)
    (n : Nat) (h : I n s) :
    codeAny (model prog w) A (.compLoop (.ListComp elt [⟨t0, i0, ifs0, 0⟩, ⟨t1, i1, ifs1, 0⟩] scope pos) 0 it acc env) R s := by
  refine codeAny_loop rfl I (fun n s hI => ?_) n h
  show wpAny _ A ((compTurn (.ListComp elt [⟨t0, i0, ifs0, 0⟩, ⟨t1, i1, ifs1, 0⟩] scope pos) 0 it acc env).onRaise (fun x => do noteFrame x env; theTreesLotGoes x)) _ _ s
  refine wpAny_noted ?_
  rw [compTurn2_out]
  refine wpAny_bind (wpAny_standAt (wpAny_bind (wpAny_mono (turn n s hI) (fun r s₁ h₁ => ?_) fun _ _ h' => h')))
  cases r with
  | none => exact wpAny_pure h₁
  | some v =>
    refine wpAny_bind (wpAny_mono h₁ (fun _ s₁' h₁' => ?_) fun _ _ h' => h')
    refine wpAny_bind (wpAny_mono h₁' (fun _ s₂ h₂ => wpAny_bind (wpAny_mono h₂ (fun ok s₃ h₃ => ?_) fun _ _ h' => h')) fun _ _ h' => h')
    cases ok with
    | false => exact wpAny_pure ⟨rfl, h₃⟩
    | true =>
      refine wpAny_bind (wpAny_mono h₃ (fun x s₄ h₄ => ?_) fun _ _ h' => h')
      refine wpAny_bind (wpAny_standAt (wpAny_bind (wpAny_of_eq (hs x) (wpAny_bind (wpAny_holding (wpAny_mono h₄ (fun it1 s₅ h₅ => ?_) fun _ _ h' => h'))))))
      refine wpAny_bind (wpAny_runOwn ?_)
      rw [Around.mark_none]
      refine codeAny_mono h₅ fun r s' hr => ?_
      cases r with
      | ok f =>
        first
          | exact wpAny_pure ⟨rfl, hr⟩
          | exact wpAny_bind (wpAny_pure (wpAny_pure ⟨rfl, hr⟩))
      | error e => exact hr.elim
/-- the loop of the second -/
theorem compLoop2_in (I : Nat → Shared → Prop)
    (turn : ∀ n s, I n s → wpAny (model prog w) A (pyNext it) (fun r s₁ => match r with
      | none => R (.ok .next) s₁
      | some v => wpAny (model prog w) A (letOwnedTupleGo t1 it v) (fun _ s₁' => wpAny (model prog w) A (assign t1 env v) (fun _ s₂ =>
          wpAny (model prog w) A (forIn ifs1 true fun c r => if r = true then do let ok ← isTrue c env (eval c env); pure (ForInStep.yield ok) else pure (ForInStep.yield r)) (fun ok s₃ =>
            if ok = true then wpAny (model prog w) A (eval elt env) (fun x s₄ =>
              wpAny (model prog w) A (call (.builtin "list.append") [acc, x]) (fun _ s₅ => ∃ m, m < n ∧ I m s₅) (notedBy (model prog w) A env fun e s' => R (.error e) s') s₄) (notedBy (model prog w) A env fun e s' => R (.error e) s') s₃
            else ∃ m, m < n ∧ I m s₃) (notedBy (model prog w) A env fun e s' => R (.error e) s') s₂) (notedBy (model prog w) A env fun e s' => R (.error e) s') s₁') (notedBy (model prog w) A env fun e s' => R (.error e) s') s₁) (notedBy (model prog w) A env fun e s' => R (.error e) s') s)
    (n : Nat) (h : I n s) :
    codeAny (model prog w) A (.compLoop (.ListComp elt [⟨t0, i0, ifs0, 0⟩, ⟨t1, i1, ifs1, 0⟩] scope pos) 1 it acc env) R s := by
  refine codeAny_loop rfl I (fun n s hI => ?_) n h
  show wpAny _ A ((compTurn (.ListComp elt [⟨t0, i0, ifs0, 0⟩, ⟨t1, i1, ifs1, 0⟩] scope pos) 1 it acc env).onRaise (fun x => do noteFrame x env; theTreesLotGoes x)) _ _ s
  refine wpAny_noted ?_
  rw [compTurn2_in]
  refine wpAny_bind (wpAny_standAt (wpAny_bind (wpAny_mono (turn n s hI) (fun r s₁ h₁ => ?_) fun _ _ h' => h')))
  cases r with
  | none => exact wpAny_pure h₁
  | some v =>
    refine wpAny_bind (wpAny_mono h₁ (fun _ s₁' h₁' => ?_) fun _ _ h' => h')
    refine wpAny_bind (wpAny_mono h₁' (fun _ s₂ h₂ => wpAny_bind (wpAny_mono h₂ (fun ok s₃ h₃ => ?_) fun _ _ h' => h')) fun _ _ h' => h')
    cases ok with
    | false => exact wpAny_pure ⟨rfl, h₃⟩
    | true =>
      exact wpAny_bind (wpAny_bind (wpAny_mono h₃ (fun x s₄ h₄ => wpAny_bind (wpAny_mono h₄ (fun _ s₅ h₅ => wpAny_pure (wpAny_pure ⟨rfl, h₅⟩)) fun _ _ h' => h')) fun _ _ h' => h'))
/-- the second clause's start -/
theorem compStart1_ok (h0 : codeAny (model prog w) A (.compLoop (.ListComp elt [⟨t0, i0, ifs0, 0⟩, ⟨t1, i1, ifs1, 0⟩] scope pos) 1 it acc env) R s)
    (h : wpAny (model prog w) A (pyIter it) (fun it' s' => codeAny (model prog w) A (.compLoop (.ListComp elt [⟨t0, i0, ifs0, 0⟩, ⟨t1, i1, ifs1, 0⟩] scope pos) 1 it' acc env) R s')
      (notedBy (model prog w) A env fun x s' => R (.error x) s') s) :
    codeAny (model prog w) A (.compStart (.ListComp elt [⟨t0, i0, ifs0, 0⟩, ⟨t1, i1, ifs1, 0⟩] scope pos) 1 it acc env) R s := by
  refine codeAny_of_tree ?_
  show wpAny _ _ ((compStart (.ListComp elt [⟨t0, i0, ifs0, 0⟩, ⟨t1, i1, ifs1, 0⟩] scope pos) 1 it acc env).onRaise (fun x => do noteFrame x env; standAt theWindowsPlace)) _ _ s
  refine wpAny_notedAt ?_
  unfold compStart
  show wpAny _ _ (ask >>= _) _ _ s
  refine wpAny_bind (wpAny_askSetting (wpAny_ite ?_))
  split
  · first
      | exact wpAny_bind (wpAny_pure (wpAny_pure (And.intro rfl h0)))
      | exact wpAny_pure (And.intro rfl h0)
  · first
      | exact wpAny_bind (wpAny_rule (wpAny_bind (wpAny_standAt (wpAny_bind (wpAny_mono h (fun it' s' h' => wpAny_pure (And.intro rfl h')) fun _ _ x => x)))))
      | (refine wpAny_bind (wpAny_rule ?_); show wpAny _ _ (standAt i1.pos >>= _) _ _ s; exact wpAny_bind (wpAny_standAt (wpAny_bind (wpAny_mono h (fun it' s' h' => wpAny_pure (And.intro rfl h')) fun _ _ x => x))))
end

theorem wipe_out {σ : St} {i : Nat} : ∀ {vs : List Nat}, i ∉ vs → (wipe σ vs)[i]? = σ[i]?
  | [], _ => rfl
  | v :: vs, h => by
    have h1 : v ≠ i := fun e => h (by rw [e]; exact List.mem_cons_self)
    have h2 : i ∉ vs := fun m => h (List.mem_cons_of_mem _ m)
    unfold wipe
    rw [List.getElem?_set_ne h1]
    exact wipe_out h2
section
variable {X : Cx}
/-- [elt for tg in iter if .. for tg1 in iter1 if ..]: behind the first clause's store and tests the second source's own loop, from which Nx is reached. vs: the block's names; vs1: those of the second target -/
def tLc2 (wi : TI) (g : TG) (tt : TT) (wi1 : TI) (g1 : TG) (tt1 : TT) (te : TE) (vs vs1 : List Nat) : TE := fun σ H Q => wi σ H fun J H1 => ∀ D, H1 D = none → ∃ W : Nat → Nat → Hp → Prop, (∃ m, W 0 m (upd H1 D (.lst []))) ∧ ∀ i m H, W i m H →
  (J.stop i H ∧ Q (.ref D) H) ∨ (J.go i H ∧ ∃ Nx : Hp → Prop, (∀ H', Nx H' → ∃ m', m' < m ∧ W (i + 1) m' H') ∧ ∀ x H', J.yld i H x H' → g x (wipe σ vs) H' fun σ2 H2 => wipe σ2 vs = wipe σ vs ∧ tt σ2 H2 fun b H3 =>
    if b = true then wi1 σ2 H3 fun J1 H4 => ∃ W1 : Nat → Nat → Hp → Prop, (∃ m, W1 0 m H4) ∧ ∀ j k H, W1 j k H →
      (J1.stop j H ∧ Nx H) ∨ (J1.go j H ∧ ∃ Nx1 : Hp → Prop, (∀ H', Nx1 H' → ∃ k', k' < k ∧ W1 (j + 1) k' H') ∧ ∀ x H', J1.yld j H x H' → g1 x (wipe σ2 vs1) H' fun σ3 H5 => wipe σ3 vs1 = wipe σ2 vs1 ∧ tt1 σ3 H5 fun b H6 =>
        if b = true then te σ3 H6 fun y H7 => ∃ acc, H7 D = some (.lst acc) ∧ acc.length < sizeLine ∧ Nx1 (upd H7 D (.lst (acc ++ [y]))) else Nx1 H6)
    else Nx H3)
theorem lc2_core {pins : List (Addr × Obj)} {s : Shared} {σ : St} {H : Hp} {Q : VK} {elt tg iter tg1 iter1 : Expr} {ifs ifs1 : List Expr} {scope : Scope} {own : List (Str × Nat)} {vs1 : List Nat} {pos pos' : Pos} {wi wi1 : TI} {g g1 : TG} {tt tt1 : TT} {te : TE} {use : Option (Value → Sem Unit)} {Qf : Value → Shared → Prop}
    (hc : X.calm = true) (hN : X.N.Nodup) (I : Inv X pins σ H s) (hi : PI X tg iter wi) (ok : BlkOk X.N X.env.scope scope own) (hv : ∀ i ∈ vs1, i ∈ own.map (·.2))
    (hg : ∀ (s : Shared) (H : Hp) (C : Addr) (cl : List (Str × Addr)) (fp : List Addr), PG (X.blk s H scope (compEnvC scope cl C X.env) fp) tg g) (ht : ∀ (s : Shared) (H : Hp) (C : Addr) (cl : List (Str × Addr)) (fp : List Addr), PTs (X.blk s H scope (compEnvC scope cl C X.env) fp) ifs tt)
    (he : ∀ (s : Shared) (H : Hp) (C : Addr) (cl : List (Str × Addr)) (fp : List Addr), PE (X.blk s H scope (compEnvC scope cl C X.env) fp) elt te) (hs : ∀ x, foldedSetIterable iter X.env x = pure x)
    (hi1 : ∀ (s : Shared) (H : Hp) (C : Addr) (cl : List (Str × Addr)) (fp : List Addr), PI (X.blk s H scope (compEnvC scope cl C X.env) fp) tg1 iter1 wi1)
    (hg1 : ∀ (s : Shared) (H : Hp) (C : Addr) (cl : List (Str × Addr)) (fp : List Addr), PG (X.blk s H scope (compEnvC scope cl C X.env) fp) tg1 g1)
    (ht1 : ∀ (s : Shared) (H : Hp) (C : Addr) (cl : List (Str × Addr)) (fp : List Addr), PTs (X.blk s H scope (compEnvC scope cl C X.env) fp) ifs1 tt1)
    (hs1 : ∀ env x, foldedSetIterable iter1 env x = pure x)
    (h : tLc2 wi g tt wi1 g1 tt1 te (own.map (·.2)) vs1 σ H Q)
    (hRR : ∀ D C s' m H', Inv X pins σ H' s' → Q (.ref D) H' → s'.heap.Ns C m → FpOk X pins H' C → compPost (model X.prog X.w) X.A X.xe use Qf (.ref D) C (.ok .next) s') :
    wpAny (model X.prog X.w) X.A (comprehension (.ListComp elt [⟨tg, iter, ifs, 0⟩, ⟨tg1, iter1, ifs1, 0⟩] scope pos) scope X.env pos' (newList []) false (eval iter X.env) use) Qf X.xe s := by
  have hfree : ∀ y ∈ scope.names, y.2 = .free → ∃ c, X.env.cells.lookup y.1 = some c := fun y hy e => by
    rcases ok.free y hy e with k | k
    · exact I.ok.has _ (.inl k)
    · exact I.ok.has _ (.inr k)
  refine wpAny_comprehension_free (use := use) rfl hs (closure_ok hfree) ok.kind (fun y hy e => by rw [ok.uniq y hy, e])
    (thn (hi pins s σ H _ I h) fun xv s1 hx => thn hx fun itv s2 h2 => ?_)
  obtain ⟨it, fp, tn, J, H2, e, I2, T, st2, f2, q⟩ := h2
  subst e
  refine wpAny_newObj_type (newEnv_comp ?_) (by show 0 ≤ sizeLine; decide)
  generalize hD : s2.heap.objs.size = D
  have hDn : H2 D = none := I2.hok.fresh (Nat.le_of_eq hD)
  obtain ⟨W, ⟨m0, w0⟩, turn⟩ := q D hDn
  -- the new list
  generalize hs3 : ({ s2 with heap := s2.heap.push { cls := .type "list", data := .seq ([] : List Value).toArray } } : Shared) = s3
  have I3 : Inv X pins σ (upd H2 D (.lst [])) s3 := by
    rw [← hs3]
    refine I2.laid (t' := s2.toks) (fun b o e => Heap.get?_push_of_some _ e) (Nat.le_of_eq hD) ⟨Nat.zero_le _, [], 0, .nil, ?_⟩
    rw [← hD]
    exact Heap.get?_push_size _ rfl
  have h3 : s3.heap = s2.heap.push { cls := .type "list", data := .seq ([] : List Value).toArray } := by rw [← hs3]
  have sz : ∀ b ∈ fp, b < s2.heap.objs.size := fun b hb => by
    obtain ⟨o, e, _⟩ := T.obj _ _ st2 b hb
    exact Heap.lt_size e
  have f3 : ∀ b ∈ fp, FpOk X pins (upd H2 D (.lst [])) b ∧ b < s3.heap.objs.size := fun b hb => by
    have hlt := sz b hb
    refine ⟨⟨?_, (f2 b hb).2⟩, by rw [h3, Heap.size_push]; exact Nat.lt_succ_of_lt hlt⟩
    rw [upd_ne (by rw [← hD]; exact Nat.ne_of_lt hlt)]
    exact (f2 b hb).1
  have st3 : tn 0 s3.heap := T.keep _ _ _ st2 fun b _ o e => by rw [h3]; exact Heap.get?_push_of_some _ e
  have I4 := block_start I3 ok hN f3
  have pg := hg s3 (upd H2 D (.lst [])) s3.heap.objs.size (cellsFrom (s3.heap.objs.size + 1) scope.names (cloFrom X.env.cells scope.names [])) fp
  have pt := ht s3 (upd H2 D (.lst [])) s3.heap.objs.size (cellsFrom (s3.heap.objs.size + 1) scope.names (cloFrom X.env.cells scope.names [])) fp
  have pe := he s3 (upd H2 D (.lst [])) s3.heap.objs.size (cellsFrom (s3.heap.objs.size + 1) scope.names (cloFrom X.env.cells scope.names [])) fp
  have pi1 := hi1 s3 (upd H2 D (.lst [])) s3.heap.objs.size (cellsFrom (s3.heap.objs.size + 1) scope.names (cloFrom X.env.cells scope.names [])) fp
  have pg1 := hg1 s3 (upd H2 D (.lst [])) s3.heap.objs.size (cellsFrom (s3.heap.objs.size + 1) scope.names (cloFrom X.env.cells scope.names [])) fp
  have pt1 := ht1 s3 (upd H2 D (.lst [])) s3.heap.objs.size (cellsFrom (s3.heap.objs.size + 1) scope.names (cloFrom X.env.cells scope.names [])) fp
  show codeAny _ _ (.compStart (.ListComp elt [⟨tg, iter, ifs, 0⟩, ⟨tg1, iter1, ifs1, 0⟩] scope pos) 0 (.ref it) (.ref D) (compEnvC scope (cellsFrom (s3.heap.objs.size + 1) scope.names (cloFrom X.env.cells scope.names [])) s3.heap.objs.size X.env)) (compPost (model X.prog X.w) X.A X.xe use Qf (.ref D) s3.heap.objs.size) { s3 with heap := pushCells (s3.heap.push { cls := .type "dict", data := .dict #[] }) scope.names }
  have nfp : ∀ b ∈ fp, (upd H2 D (.lst [])) b = none := fun b hb => (f3 b hb).1.1
  generalize hce : compEnvC scope (cellsFrom (s3.heap.objs.size + 1) scope.names (cloFrom X.env.cells scope.names [])) s3.heap.objs.size X.env = ce at I4 pg pt pe pi1 pg1 pt1 ⊢
  have cL : ce.locals = s3.heap.objs.size := by subst hce; rfl
  generalize hH3 : upd H2 D (.lst []) = H3 at I3 I4 pg pt pe pi1 pg1 pt1 w0 nfp f3
  generalize hs4 : ({ s3 with heap := pushCells (s3.heap.push { cls := .type "dict", data := .dict #[] }) scope.names } : Shared) = s4 at I4 ⊢
  have st4 : tn 0 s4.heap := T.keep _ _ _ st3 fun b _ o e => by rw [← hs4]; exact pushCells_keeps _ _ _ _ (Heap.get?_push_of_some _ e)
  have stat : ∀ {σ' : St} {H' : Hp} {s' : Shared}, Inv (X.blk s3 H3 scope ce fp) [] σ' H' s' → (∀ b ∈ fp, H' b = none) → ∀ b ∈ fp, FpOk (X.blk s3 H3 scope ce fp) [] H' b := fun {σ' H' s'} I' hn b hb =>
    ⟨hn b hb, (I'.ok.exf b hb).1, I'.ok.exfs b hb, .inl hb, fun x c e => (I'.ok.exf b hb).2 x c e, fun p hp => absurd (show p ∈ ([] : List (Addr × Obj)) ++ [] from hp) (by simp)⟩
  have loop : codeAny (model X.prog X.w) X.A (.compLoop (.ListComp elt [⟨tg, iter, ifs, 0⟩, ⟨tg1, iter1, ifs1, 0⟩] scope pos) 0 (.ref it) (.ref D) ce) (compPost (model X.prog X.w) X.A X.xe use Qf (.ref D) s3.heap.objs.size) s4 := by
    refine compLoop2_out (hs1 ce) (fun n s' => ∃ i H', Inv (X.blk s3 H3 scope ce fp) [] (wipe σ (own.map (·.2))) H' s' ∧ tn i s'.heap ∧ (∀ b ∈ fp, H' b = none) ∧ W i n H') ?_ m0 ⟨0, H3, I4, st4, nfp, w0⟩
    rintro n s5 ⟨i, H5, I5, st5, n5, w5⟩
    rcases turn i n H5 w5 with ⟨stop, qq⟩ | ⟨go, Nx, hNx, step⟩
    · have td := T.done (X.blk s3 H3 scope ce fp) rfl rfl rfl hc i [] s5 _ H5 (fun _ _ => False) I5 (stat I5 n5) st5 stop
      refine thnF td fun r s6 ⟨hr, I6⟩ => ?_
      subst hr
      -- back in the def's context
      have I7 : Inv X pins σ H5 s6 := I3.call' (ch := fp) I6.os I6.base I6.hok I6.bare fun b hb => ⟨(f3 b hb).1.2.2.2.1, (f3 b hb).1.2.1, (f3 b hb).1.2.2.2.2.1, (f3 b hb).1.2.2.2.2.2⟩
      have nC : H5 s3.heap.objs.size = none := by
        have z : H5 ce.locals = none := I6.free
        rw [cL] at z
        exact z
      obtain ⟨m, hn, _⟩ := I6.loc
      have hn : s6.heap.Ns ce.locals m := hn
      rw [cL] at hn
      exact hRR D s3.heap.objs.size s6 m H5 I7 qq hn (I3.fpOk (Nat.le_refl _) nC)
    · have ti := T.item (X.blk s3 H3 scope ce fp) rfl rfl rfl hc i [] s5 _ H5 (fun _ _ => False) I5 (stat I5 n5) st5 go
      refine thnF ti fun r s6 ⟨u, hr, h6⟩ => ?_
      subst hr
      refine thnF h6 fun _ s7 ⟨x, H7, I7, r7, y7, st7, n7⟩ => ?_
      have I7' := I7.pinned (stat I7 n7) (T.obj _ _ st7)
      refine thnF (pg _ s7 _ H7 x u _ I7' r7 (step x H7 y7)) fun _ s8 ⟨σ8, H8, I8, hw8, q8⟩ => ?_
      refine thnF (pt _ s8 σ8 H8 _ I8 q8) fun b s9 ⟨H9, I9, q9⟩ => ?_
      -- the turn's end, from any slots that know what the block knew at its start
      have fin : ∀ {σ9 : St} {s' : Shared} {H' : Hp}, Inv (X.blk s3 H3 scope ce fp) ([] ++ pinsAt fp s7.heap) σ9 H' s' → (wipe σ (own.map (·.2))).length = σ9.length → (∀ (j : Nat) v, (wipe σ (own.map (·.2)))[j]? = some (some v) → σ9[j]? = some (some v)) → Nx H' →
          ∃ m, m < n ∧ ∃ i H', Inv (X.blk s3 H3 scope ce fp) [] (wipe σ (own.map (·.2))) H' s' ∧ tn i s'.heap ∧ (∀ b ∈ fp, H' b = none) ∧ W i m H' := fun {σ9 s' H'} I' hl hk nx => by
        obtain ⟨m', hm, w'⟩ := hNx H' nx
        have pin' : ∀ b ∈ fp, ∀ o, s7.heap.get? b = some o → s'.heap.get? b = some o ∧ H' b = none := fun b hb o e =>
          let z := I'.pin (b, o) (List.mem_append_right _ (List.mem_append_right _ (mem_pinsAt hb e)))
          ⟨z.1, z.2.1⟩
        refine ⟨m', hm, i + 1, H', (I'.unpinned (pins := [])).weak hl hk, T.keep _ _ _ st7 fun b hb o e => (pin' b hb o e).1, fun b hb => ?_, w'⟩
        obtain ⟨o, e, _⟩ := T.obj _ _ st7 b hb
        exact (pin' b hb o e).2
      have hl8 : (wipe σ (own.map (·.2))).length = σ8.length := by rw [← hw8, wipe_length]
      have hk8 : ∀ (j : Nat) v, (wipe σ (own.map (·.2)))[j]? = some (some v) → σ8[j]? = some (some v) := fun j v e => by
        rw [← hw8] at e
        exact (wipe_some e).1
      have hk9 : ∀ (j : Nat) v, (wipe σ (own.map (·.2)))[j]? = some (some v) → (wipe σ8 vs1)[j]? = some (some v) := fun j v e => by
        rw [← hw8] at e
        obtain ⟨e1, e2⟩ := wipe_some e
        rw [wipe_out fun z => e2 (hv j z)]
        exact e1
      cases b with
      | false =>
        simp only [Bool.false_eq_true, if_false] at q9 ⊢
        exact fin I9 hl8 hk8 q9
      | true =>
        simp only [if_true] at q9 ⊢
        refine thnF (pi1 _ s9 σ8 H9 _ I9 q9) fun xv s10 hx => thnF hx fun itv s11 h11 => ?_
        obtain ⟨it1, fp1, tn1, J1, H11, e1, I11, T1, st11, f11, W1, ⟨m1, w1⟩, turn1⟩ := h11
        subst e1
        -- the inner loop
        have stat1 : ∀ {H' : Hp}, (∀ b ∈ fp1, H' b = none) → ∀ b ∈ fp1, FpOk (X.blk s3 H3 scope ce fp) ([] ++ pinsAt fp s7.heap) H' b := fun hn b hb => ⟨hn b hb, (f11 b hb).2⟩
        have loop1 : codeAny (model X.prog X.w) X.A (.compLoop (.ListComp elt [⟨tg, iter, ifs, 0⟩, ⟨tg1, iter1, ifs1, 0⟩] scope pos) 1 (.ref it1) (.ref D) ce)
            (fun r s' => match r with
              | .ok _ => ∃ m, m < n ∧ ∃ i H', Inv (X.blk s3 H3 scope ce fp) [] (wipe σ (own.map (·.2))) H' s' ∧ tn i s'.heap ∧ (∀ b ∈ fp, H' b = none) ∧ W i m H'
              | .error _ => False) s11 := by
          refine compLoop2_in (fun k s' => ∃ j H', Inv (X.blk s3 H3 scope ce fp) ([] ++ pinsAt fp s7.heap) (wipe σ8 vs1) H' s' ∧ tn1 j s'.heap ∧ (∀ b ∈ fp1, H' b = none) ∧ W1 j k H') ?_ m1 ⟨0, H11, I11.weak (wipe_length _ _) (fun j v e => (wipe_some e).1), st11, fun b hb => (f11 b hb).1, w1⟩
          rintro k s12 ⟨j, H12, I12, st12, n12, w12⟩
          rcases turn1 j k H12 w12 with ⟨stop1, nx1⟩ | ⟨go1, Nx1, hNx1, step1⟩
          · refine thnF (T1.done (X.blk s3 H3 scope ce fp) rfl rfl rfl hc j _ s12 (wipe σ8 vs1) H12 (fun _ _ => False) I12 (stat1 n12) st12 stop1) fun r s13 ⟨hr, I13⟩ => ?_
            subst hr
            exact fin I13 (hl8.trans (wipe_length σ8 vs1).symm) hk9 nx1
          · refine thnF (T1.item (X.blk s3 H3 scope ce fp) rfl rfl rfl hc j _ s12 (wipe σ8 vs1) H12 (fun _ _ => False) I12 (stat1 n12) st12 go1) fun r s13 ⟨u1, hr, h13⟩ => ?_
            subst hr
            refine thnF h13 fun _ s14 ⟨x1, H14, I14, r14, y14, st14, n14⟩ => ?_
            have I14' := I14.pinned (stat1 n14) (T1.obj _ _ st14)
            refine thnF (pg1 _ s14 (wipe σ8 vs1) H14 x1 u1 _ I14' r14 (step1 x1 H14 y14)) fun _ s15 ⟨σ15, H15, I15, hw15, q15⟩ => ?_
            refine thnF (pt1 _ s15 σ15 H15 _ I15 q15) fun b1 s16 ⟨H16, I16, q16⟩ => ?_
            have fin1 : ∀ {s' : Shared} {H' : Hp}, Inv (X.blk s3 H3 scope ce fp) (([] ++ pinsAt fp s7.heap) ++ pinsAt fp1 s14.heap) σ15 H' s' → Nx1 H' → ∃ m, m < k ∧ ∃ j H', Inv (X.blk s3 H3 scope ce fp) ([] ++ pinsAt fp s7.heap) (wipe σ8 vs1) H' s' ∧ tn1 j s'.heap ∧ (∀ b ∈ fp1, H' b = none) ∧ W1 j m H' := fun {s' H'} I' nx => by
              obtain ⟨m', hm, w'⟩ := hNx1 H' nx
              have pin' : ∀ b ∈ fp1, ∀ o, s14.heap.get? b = some o → s'.heap.get? b = some o ∧ H' b = none := fun b hb o e =>
                let z := I'.pin (b, o) (List.mem_append_right _ (List.mem_append_right _ (mem_pinsAt hb e)))
                ⟨z.1, z.2.1⟩
              refine ⟨m', hm, j + 1, H', I'.unpinned.weak (by rw [← hw15, wipe_length]) (fun j v e => by rw [← hw15] at e; exact (wipe_some e).1), T1.keep _ _ _ st14 fun b hb o e => (pin' b hb o e).1, fun b hb => ?_, w'⟩
              obtain ⟨o, e, _⟩ := T1.obj _ _ st14 b hb
              exact (pin' b hb o e).2
            cases b1 with
            | false =>
              simp only [Bool.false_eq_true, if_false] at q16 ⊢
              exact fin1 I16 q16
            | true =>
              simp only [if_true] at q16 ⊢
              refine thnF (pe _ s16 σ15 H16 _ I16 q16) fun z s17 ⟨yv, H17, I17, r17, acc, hD17, hz17, nx⟩ => ?_
              exact app_ok (X := X.blk s3 H3 scope ce fp) I17 hD17 hz17 r17 fun s18 I18 => fin1 I18 nx
        exact compStart1_ok loop1 (T1.self X.A 0 _ _ _ st11 loop1)
  exact codeAny_compStart_list loop (T.self X.A 0 _ _ _ st4 loop)
theorem ps_setLc2 {i : Nat} {y : Str} {py : Pos} {elt tg iter tg1 iter1 : Expr} {ifs ifs1 : List Expr} {scope : Scope} {own : List (Str × Nat)} {vs1 : List Nat} {pos spos : Pos} {wi wi1 : TI} {g g1 : TG} {tt tt1 : TT} {te : TE} (hc : X.calm = true) (hN : X.N.Nodup) (hy : X.N[i]? = some y) (hyl : X.env.scope.names.lookup y = some .local)
    (hsw : swapsWith (.ListComp elt [⟨tg, iter, ifs, 0⟩, ⟨tg1, iter1, ifs1, 0⟩] scope pos) (some (.Name y py)) spos.line X.env = pure true) (hi : PI X tg iter wi) (ok : BlkOk X.N X.env.scope scope own) (hv : ∀ i ∈ vs1, i ∈ own.map (·.2))
    (hg : ∀ (s : Shared) (H : Hp) (C : Addr) (cl : List (Str × Addr)) (fp : List Addr), PG (X.blk s H scope (compEnvC scope cl C X.env) fp) tg g) (ht : ∀ (s : Shared) (H : Hp) (C : Addr) (cl : List (Str × Addr)) (fp : List Addr), PTs (X.blk s H scope (compEnvC scope cl C X.env) fp) ifs tt)
    (hi1 : ∀ (s : Shared) (H : Hp) (C : Addr) (cl : List (Str × Addr)) (fp : List Addr), PI (X.blk s H scope (compEnvC scope cl C X.env) fp) tg1 iter1 wi1)
    (hg1 : ∀ (s : Shared) (H : Hp) (C : Addr) (cl : List (Str × Addr)) (fp : List Addr), PG (X.blk s H scope (compEnvC scope cl C X.env) fp) tg1 g1) (ht1 : ∀ (s : Shared) (H : Hp) (C : Addr) (cl : List (Str × Addr)) (fp : List Addr), PTs (X.blk s H scope (compEnvC scope cl C X.env) fp) ifs1 tt1)
    (he : ∀ (s : Shared) (H : Hp) (C : Addr) (cl : List (Str × Addr)) (fp : List Addr), PE (X.blk s H scope (compEnvC scope cl C X.env) fp) elt te) (hs : ∀ x, foldedSetIterable iter X.env x = pure x := by intro _; rfl) (hs1 : ∀ env x, foldedSetIterable iter1 env x = pure x := by intro _ _; rfl) :
    PS X (.Assign [.Name y py] (.ListComp elt [⟨tg, iter, ifs, 0⟩, ⟨tg1, iter1, ifs1, 0⟩] scope pos) spos) (tAsg (tLc2 wi g tt wi1 g1 tt1 te (own.map (·.2)) vs1) (gName i)) := by
  intro pins s σ H D I h
  rw [exec_Assign_Name_used _ _ _ _ hsw]
  refine wpAny_bind (wpAny_standAt (wpAny_bind ?_))
  show wpAny _ X.A (do let _ ← comprehension (.ListComp elt [⟨tg, iter, ifs, 0⟩, ⟨tg1, iter1, ifs1, 0⟩] scope pos) scope X.env (firstIterPos [⟨tg, iter, ifs, 0⟩, ⟨tg1, iter1, ifs1, 0⟩] pos) (newList []) false (eval iter X.env) (some (assign (.Name y py) X.env))) _ _ s
  have h : tLc2 wi g tt wi1 g1 tt1 te (own.map (·.2)) vs1 σ H (fun x H1 => gName i x σ H1 D.nx) := h
  refine wpAny_bind (thn (lc2_core (Qf := fun _ s' => SP X pins D .next s') hc hN I hi ok hv hg ht he hs hi1 hg1 ht1 hs1 h fun L C s' m H' I' q hn f => ?_) fun _ s' hq => wpAny_pure (wpAny_pure hq))
  show wpAny _ _ (assign (.Name y py) X.env (.ref L)) _ _ _
  refine wpAny_assign_Name (store_ok2 (v := V.ref L) I' hN hy (.inl hyl) rfl (fun s2 I2 ⟨a, sb, ha⟩ => ?_) (.inr hyl))
  obtain ⟨f0, f1, f2, f3, f4, f5⟩ := f
  have haC : C ≠ a := by
    rcases ha with z | z
    · rw [z]; exact f1
    · exact fun e => f4 y a z e.symm
  refine ⟨m, hn.sameBut sb haC, fun h3 sb3 => ?_⟩
  exact ⟨_, H', I2.turned (t' := s2.toks) (fun b o hb e => (sb3.2 b hb).trans e) f0 f1 f3 f4 f5, q⟩
end
end L2

namespace L2
open PySem PySem.Spec PyProof.Rows

section
variable {κ : Type} [DecidableEq κ]
def valV (kvs : List (κ × V)) (k : κ) : Option V := (kvs.find? fun kv => decide (kv.1 = k)).map (·.2)
/-- in its place, or at the end -/
def putK (kvs : List (κ × V)) (k : κ) (v : V) : List (κ × V) :=
  if (kvs.any fun kv => decide (kv.1 = k)) = true then kvs.map (fun kv => if kv.1 = k then (kv.1, v) else kv) else kvs ++ [(k, v)]
def dropK (kvs : List (κ × V)) (k : κ) : List (κ × V) := kvs.filter fun kv => decide (kv.1 ≠ k)

theorem valV_pos {p : κ × V} {r : List (κ × V)} {k : κ} (e : p.1 = k) : valV (p :: r) k = some p.2 := by simp [valV, List.find?_cons, e]
theorem valV_neg {p : κ × V} {r : List (κ × V)} {k : κ} (e : ¬ p.1 = k) : valV (p :: r) k = valV r k := by simp [valV, List.find?_cons, e]
theorem valV_any (k : κ) : ∀ kvs : List (κ × V), (kvs.any fun kv => decide (kv.1 = k)) = (valV kvs k).isSome
  | [] => rfl
  | p :: r => by
    rw [List.any_cons]
    by_cases e : p.1 = k
    · simp only [valV_pos e, decide_eq_true e, Bool.true_or, Option.isSome_some]
    · rw [valV_neg e, decide_eq_false e, Bool.false_or]; exact valV_any k r
theorem putK_new {kvs : List (κ × V)} {k : κ} (v : V) (h : valV kvs k = none) : putK kvs k v = kvs ++ [(k, v)] := by
  unfold putK
  rw [valV_any, h]
  exact if_neg (by decide)

theorem RelO.getD {o : Option V} {u : Option Value} {d : V} {d' : Value} (r : RelO o u) (rd : RelV d d') : RelV (o.getD d) (u.getD d') := by
  cases o with
  | none => cases u with
    | none => exact rd
    | some _ => exact (show False from r).elim
  | some _ => cases u with
    | none => exact (show False from r).elim
    | some _ => exact r

/-- raw tables of the same keys -/
theorem KV.val {kvs : List (κ × V)} {vs : List (κ × Value)} (r : KV kvs vs) (k : κ) : RelO (valV kvs k) (valueAt vs k) := by
  unfold KV at r
  induction r with
  | nil => exact True.intro
  | @cons p q ps qs h t ih =>
    obtain ⟨h1, h2⟩ := h
    by_cases e : p.1 = k
    · have e' : q.1 = k := h1.symm.trans e
      have b : valueAt (q :: qs) k = some q.2 := by simp [valueAt, List.find?_cons, e']
      rw [valV_pos e, b]; exact h2
    · have e' : ¬ q.1 = k := fun z => e (h1.trans z)
      have b : valueAt (q :: qs) k = valueAt qs k := by simp [valueAt, List.find?_cons, e']
      rw [valV_neg e, b]; exact ih
theorem KV.any {kvs : List (κ × V)} {vs : List (κ × Value)} (r : KV kvs vs) (k : κ) : (kvs.any fun kv => decide (kv.1 = k)) = vs.any fun kv => decide (kv.1 = k) := by
  unfold KV at r
  induction r with
  | nil => rfl
  | cons h t ih => rw [List.any_cons, List.any_cons, ih, h.1]
theorem KV.drop {kvs : List (κ × V)} {vs : List (κ × Value)} (r : KV kvs vs) (k : κ) : KV (dropK kvs k) (without vs k) := by
  unfold KV at r ⊢
  unfold dropK without
  induction r with
  | nil => exact .nil
  | @cons p q ps qs h t ih =>
    obtain ⟨h1, h2⟩ := h
    rw [List.filter_cons, List.filter_cons]
    by_cases e : p.1 = k
    · have a : ¬ decide (p.1 ≠ k) = true := by simp [e]
      have b : ¬ decide (q.1 ≠ k) = true := by simp [h1.symm.trans e]
      rw [if_neg a, if_neg b]; exact ih
    · have e' : ¬ q.1 = k := fun z => e (h1.trans z)
      have a : decide (p.1 ≠ k) = true := by simp [e]
      have b : decide (q.1 ≠ k) = true := by simp [e']
      rw [if_pos a, if_pos b]; exact .cons ⟨h1, h2⟩ ih
theorem KV.keys {kvs : List (κ × V)} {vs : List (κ × Value)} (r : KV kvs vs) : kvs.map (·.1) = vs.map (·.1) := by
  unfold KV at r
  induction r with
  | nil => rfl
  | cons h t ih => rw [List.map_cons, List.map_cons, ih, h.1]
theorem KV.length {kvs : List (κ × V)} {vs : List (κ × Value)} (r : KV kvs vs) : kvs.length = vs.length := Paired.length r
end


/-- raw entries of a dict with tuple keys -/
abbrev KT (H : Hp) : List (List Key × V) → List (List Key × Addr × Value) → Prop := Paired fun p q => p.1 = q.1 ∧ H q.2.1 = some (.tup (p.1.map kV)) ∧ RelV p.2 q.2.2
theorem KT.val {H : Hp} {kvs : List (List Key × V)} {xs : List (List Key × Addr × Value)} (r : KT H kvs xs) (k : List Key) : RelO (valV kvs k) ((atKey xs k).map (·.2)) := by
  induction r with
  | nil => exact True.intro
  | @cons p q ps qs h t ih =>
    obtain ⟨h1, _, h2⟩ := h
    by_cases e : p.1 = k
    · have e' : q.1 = k := h1.symm.trans e
      have b : atKey (q :: qs) k = some q.2 := by simp [atKey, List.find?_cons, e']
      rw [valV_pos e, b]; exact h2
    · have e' : ¬ q.1 = k := fun z => e (h1.trans z)
      have b : atKey (q :: qs) k = atKey qs k := by simp [atKey, List.find?_cons, e']
      rw [valV_neg e, b]; exact ih
theorem KT.keeps {H H' : Hp} {kvs : List (List Key × V)} {xs : List (List Key × Addr × Value)} (r : KT H kvs xs) (ht : ∀ b ys, H b = some (.tup ys) → H' b = some (.tup ys)) : KT H' kvs xs :=
  Paired.mapP r fun _ _ z => ⟨z.1, ht _ _ z.2.1, z.2.2⟩

section
variable {P : Program} {w : World} {H : Hp} {h : Heap} {a : Addr}
end

/-- what the dict at a holds at the key y -/
def DGet (H : Hp) (a : Addr) (y : V) (r : Option V) : Prop :=
  (∃ kvs k, Rd H a (.dK kvs) ∧ y = kV k ∧ r = valV kvs k) ∨ ∃ kvs k b, Rd H a (.dT kvs) ∧ y = .ref b ∧ H b = some (.tup (k.map kV)) ∧ r = valV kvs k
/-- the heap behind a[y] = v -/
def DPut (H : Hp) (a : Addr) (y v : V) (H' : Hp) : Prop :=
  (∃ kvs k, H a = some (.dK kvs) ∧ y = kV k ∧ kvs.length < sizeLine ∧ H' = upd H a (.dK (putK kvs k v))) ∨
  ∃ kvs k b, H a = some (.dT kvs) ∧ y = .ref b ∧ H b = some (.tup (k.map kV)) ∧ kvs.length < sizeLine ∧ H' = upd H a (.dT (putK kvs k v))
theorem DGet.k {H : Hp} {a : Addr} {kvs : List (Key × V)} {k : Key} (e : H a = some (.dK kvs)) : DGet H a (kV k) (valV kvs k) := .inl ⟨kvs, k, .inl e, rfl, rfl⟩
theorem DGet.t {H : Hp} {a b : Addr} {kvs : List (List Key × V)} {k : List Key} (e : H a = some (.dT kvs)) (eb : H b = some (.tup (k.map kV))) : DGet H a (.ref b) (valV kvs k) := .inr ⟨kvs, k, b, .inl e, rfl, eb, rfl⟩
theorem DPut.k {H : Hp} {a : Addr} {kvs : List (Key × V)} {k : Key} {v : V} (e : H a = some (.dK kvs)) (hl : kvs.length < sizeLine) : DPut H a (kV k) v (upd H a (.dK (putK kvs k v))) := .inl ⟨kvs, k, e, rfl, hl, rfl⟩
theorem DPut.t {H : Hp} {a b : Addr} {kvs : List (List Key × V)} {k : List Key} {v : V} (e : H a = some (.dT kvs)) (eb : H b = some (.tup (k.map kV))) (hl : kvs.length < sizeLine) :
    DPut H a (.ref b) v (upd H a (.dT (putK kvs k v))) := .inr ⟨kvs, k, b, e, rfl, eb, hl, rfl⟩


section
variable {X : Cx} {pins : List (Addr × Obj)} {σ : St} {H : Hp} {s : Shared} {a : Addr} {y v : V} {u r : Value} {o : Option V} {A : Around} {E : Value → Shared → Prop}

end

section
variable {X : Cx} {pins : List (Addr × Obj)} {σ : St} {H : Hp} {s : Shared} {a : Addr} {kvs : List (Key × V)} {k : Key} {u : Value} {A : Around} {E : Value → Shared → Prop}
end


section
variable {X : Cx} {o i e value : Expr} {pos pos' tpos : Pos} {td ty tv : TE}
end


section
variable {X : Cx} {pos : Pos}
end

/-- a method call o.m(e) of a built-in, with one argument: what must be seen of the text -/
structure M1 (X : Cx) (o : Expr) (m : Str) (apos : Pos) (e : Expr) (cpos : Pos) : Prop where
  base : attributeBase o m X.env (eval o X.env) = eval o X.env
  few : ((backTo cpos (starEach [e] X.env)).all (fun x => !x.1) && (backToKw cpos (keywordEach [] X.env)).all (fun x => x.1.isSome)
    && decide (([e] : List Expr).length + ([] : List Keyword).length + (if ([] : List Keyword).isEmpty then 0 else 1) < 30)) = true
  line : (apos.endLine == cpos.line) = true
  trees : backTo cpos (starEach [e] X.env) = [(false, eval e X.env)]
structure M2 (X : Cx) (o : Expr) (m : Str) (apos : Pos) (e f : Expr) (cpos : Pos) : Prop where
  base : attributeBase o m X.env (eval o X.env) = eval o X.env
  few : ((backTo cpos (starEach [e, f] X.env)).all (fun x => !x.1) && (backToKw cpos (keywordEach [] X.env)).all (fun x => x.1.isSome)
    && decide (([e, f] : List Expr).length + ([] : List Keyword).length + (if ([] : List Keyword).isEmpty then 0 else 1) < 30)) = true
  line : (apos.endLine == cpos.line) = true
  trees : backTo cpos (starEach [e, f] X.env) = [(false, eval e X.env), (false, eval f X.env)]

section
variable {X : Cx} {pins : List (Addr × Obj)} {σ : St} {H : Hp} {s : Shared} {a : Addr} {y d : V} {u r : Value} {o : Option V} {A : Around} {E : Value → Shared → Prop}
end

section
variable {X : Cx} {o e f : Expr} {apos cpos : Pos} {td ty tx : TE}
end

section
variable {X : Cx} {pins : List (Addr × Obj)} {σ : St} {H : Hp} {s : Shared} {a : Addr} {kvs : List (Key × V)} {A : Around} {E : Value → Shared → Prop}
end


section
variable {X : Cx} {pins : List (Addr × Obj)} {σ : St} {H : Hp} {s : Shared} {a : Addr} {y : V} {u : Value} {A : Around} {E : Value → Shared → Prop}
end
end L2

namespace L2
open PySem PySem.Spec PyProof.Rows

section
variable {prog : Program} {w : World} {A : Around} {E : Value → Shared → Prop}
end

section
variable {X : Cx}
end
end L2

namespace L2
open PySem PySem.Spec PyProof.Rows

section
variable {X : Cx} {pins : List (Addr × Obj)} {σ : St} {H : Hp} {s : Shared} {h' : Heap}
end
section
variable {X : Cx}
theorem pi_one {tg : Expr} {pins : List (Addr × Obj)} {σ : St} {H : Hp} {s : Shared} {R : It → Hp → Prop} {J : It} {tn : Nat → Heap → Prop} {tk : Nat} (I : Inv X pins σ H s) (o : Obj)
    (T : Turn X.prog X.w X.K tg J [s.heap.objs.size] s.heap.objs.size tn) (st : tn 0 (s.heap.push o)) (q : R J H) : PIE X pins σ tg R (.ref s.heap.objs.size) { s with heap := s.heap.push o, toks := tk } := by
  refine ⟨s.heap.objs.size, [s.heap.objs.size], tn, J, H, rfl, I.kept fun b ob e => Heap.get?_push_of_some _ e, T, st, fun b hb => ?_, q⟩
  have e : b = s.heap.objs.size := by simpa using hb
  subst e
  exact I.fpOk (Nat.le_refl _) (I.hok.fresh (Nat.le_refl _))
end

/-- range(i, j, c): small bounds, n items -/
def RgC (i j c : Int) (n : Nat) : Prop := c ≠ 0 ∧ c.natAbs < 1073741824 ∧ Builtin.Range.small i j c = true ∧ Builtin.Range.rangeSize i j c = n
theorem RgC.neg {i j : Int} (ha : -(2 ^ 62) ≤ i) (ha' : i < 2 ^ 62) (hb : -(2 ^ 62) ≤ j) (hb' : j < 2 ^ 62) : RgC i j (-1) (i - j).toNat :=
  ⟨by decide, by decide, PySem.W.small_down ha ha' hb hb', PySem.W.rangeSize_downNat i j⟩
section
variable {X : Cx} {tg : Expr}
end
section
variable {X : Cx} {tg : Expr}
end

def Its (x : Str) : It := ⟨fun i _ => i < x.cps.size, fun i H v H' => H' = H ∧ ∃ c, x.cps[i]? = some c ∧ v = .str ⟨#[c]⟩, fun i _ => x.cps.size ≤ i⟩
theorem turn_str {P : Program} {w : World} {K : PySem.W.Frag} {tg : Expr} (it : Addr) (x : Str) (t : Tok) (ty : String) (hty : ty = "str_ascii_iterator" ∨ ty = "str_iterator") :
    Turn P w K tg (Its x) [it] it (fun i h => h.IsStrIter it ty x t i) where
  mem := by simp
  obj := fun i h st b hb => by
    have e : b = it := by simpa using hb
    subst e
    obtain ⟨o, e, c, d⟩ := st
    exact ⟨o, e, fun v z => by rw [d] at z; cases z⟩
  keep := fun i h h' st k => let ⟨o, ho, r⟩ := st; ⟨o, k it (by simp) o ho, r⟩
  item := by
    intro X hP hw hK hc i pins s σ H E I hf st hg
    subst hP hw hK
    obtain ⟨f0, f1, f2, f3, f4, f5⟩ := hf it (by simp)
    have W : Walks X.prog X.w X.A it [it] [it] x.cps.size (SignAt x) (fun i h => h.IsStrIter it ty x t i) := by
      rcases hty with e | e
      · rw [e]; exact Walks.strAscii (I.ok.hd hc) it x t
      · rw [e]; exact Walks.strWide (I.ok.hd hc) it x t
    have hno : ["enumerate", "zip", "dict_itemiterator", "dict_reverseitemiterator", "odict_iterator", "itertools.zip_longest", "itertools.pairwise"].contains ty = false := by
      rcases hty with e | e
      · rw [e]; decide
      · rw [e]; decide
    refine W.item i s _ _ hg st fun v h' tk hv st' kk => ?_
    obtain ⟨c, u, hcx, rfl⟩ := hv
    have I1 : Inv X pins σ H { s with heap := h', toks := tk } := I.turned (fun b o hb e => kk b o (by simpa using hb) e) f0 f1 f3 f4 f5
    obtain ⟨oi, e, cc, dd⟩ := id st'
    exact ⟨_, rfl, go_of (s := { s with heap := h', toks := tk }) e cc dd hno ⟨.str ⟨#[c]⟩, H, I1, ⟨u, rfl⟩, ⟨rfl, c, hcx, rfl⟩, st', fun b hb => (hf b hb).1⟩⟩
  done := by
    intro X hP hw hK hc i pins s σ H E I hf st hg
    subst hP hw hK
    obtain ⟨f0, f1, f2, f3, f4, f5⟩ := hf it (by simp)
    have hx : x.cps[i]? = none := Array.getElem?_eq_none hg
    rcases hty with e | e
    · rw [e] at st
      exact wpAny_pyNext_ascii_end (I.ok.hd hc) st hx fun h' eb => ⟨rfl, I.turned (t' := s.toks) (fun b o hb e => eb b o hb e) f0 f1 f3 f4 f5⟩
    · rw [e] at st
      exact wpAny_pyNext_wide_end (I.ok.hd hc) st hx fun h' eb => ⟨rfl, I.turned (t' := s.toks) (fun b o hb e => eb b o hb e) f0 f1 f3 f4 f5⟩
  self := fun A i s Q E st h => by
    rcases hty with e | e
    · rw [e] at st; exact wpAny_pyIter_striter_ascii st h
    · rw [e] at st; exact wpAny_pyIter_striter_wide st h
def iStr (te : TE) : TI := fun σ H R => te σ H fun v H1 => ∃ x, v = .str x ∧ R (Its x) H1
theorem pi_str {X : Cx} {tg e : Expr} {te : TE} (he : PE X e te) : PI X tg e (iStr te) := by
  intro pins s σ H R I h
  refine thn (he pins s σ H _ I h) fun v s1 ⟨y, H1, I1, r1, x, ex, q⟩ => ?_
  subst ex
  obtain ⟨t, rfl⟩ := r1
  cases ha : x.cps.all (· < 128)
  · exact wpAny_pyIter_wide ha (pi_one (tk := s1.toks) I1 _ (turn_str _ x t "str_iterator" (.inr rfl)) ⟨_, Heap.get?_push_size _ rfl, rfl, rfl⟩ q)
  · exact wpAny_pyIter_ascii ha (pi_one (tk := s1.toks) I1 _ (turn_str _ x t "str_ascii_iterator" (.inl rfl)) ⟨_, Heap.get?_push_size _ rfl, rfl, rfl⟩ q)

section
variable {prog : Program} {w : World} {A : Around} {E : Value → Shared → Prop} {s : Shared}
end

section
variable {X : Cx} {pins : List (Addr × Obj)} {σ : St} {H : Hp} {s : Shared} {d : Addr} {o : Obj}
end

section
variable {P : Program} {w : World} {K : PySem.W.Frag} {tg : Expr} {d : Addr} {o : Obj} {es : Array DictEntry} {ep : Nat}
end

section
variable {X : Cx} {tg e : Expr} {td : TE} {apos cpos : Pos}
end

end L2

section 
namespace Bits
open PySem PyProof.Rows

end Bits
end 

section 
namespace TL
open PySem PySem.Builtin PySem.Builtin.Str PySem.StrLaws

abbrev tl (x : Str) : List Nat := x.cps.toList
theorem len_tl (x : Str) : x.length = (tl x).length := by simp [tl, Str.length]
theorem tl_append (x y : Str) : tl (x ++ y) = tl x ++ tl y := by
  show (x ++ y).cps.toList = _
  rw [Str.cps_append, Array.toList_append]
/-- S stands at the head of l -/
def pre (S l : List Nat) : Bool := l.take S.length == S
/-- what stands before the first S, and behind it -/
def par (S : List Nat) : List Nat → List Nat → Option (List Nat × List Nat)
  | _, [] => none
  | acc, c :: r => if pre S (c :: r) = true then some (acc, (c :: r).drop S.length) else par S (acc ++ [c]) r

theorem len1 {y : Str} (hy : tl y ≠ []) : 1 ≤ y.length := by
  have e2 : 0 < (tl y).length := List.length_pos_iff.mpr hy
  rw [len_tl y]
  exact e2
end TL
end 

namespace L2
open PySem PySem.Spec PyProof.Rows

section
variable {X : Cx} {pins : List (Addr × Obj)} {σ : St} {H : Hp} {s : Shared} {Q : VK}
end

section
variable {X : Cx}

end

section
variable {X : Cx} {o e : Expr} {to te : TE}
end
end L2

namespace L2
open PySem PySem.Spec PyProof.Rows

section
variable {X : Cx}
/-- one sign in a text -/
theorem op_in_sign : OpR X (compareOp .In) (fun x y H Q => ∃ (c : Nat) (z : Str), x = .str ⟨#[c]⟩ ∧ y = .str z ∧ Q (.bl (decide (c ∈ z.cps.toList))) H) := by
  intro pins s σ H x y v u Q I rx ry h
  obtain ⟨c, z, rfl, rfl, q⟩ := h
  obtain ⟨t, rfl⟩ := rx
  obtain ⟨t', rfl⟩ := ry
  exact PyProof.Rows.in_str (fin_bl I q (PySem.StrLaws.found_one z c).symm)
theorem op_notIn_sign : OpR X (compareOp .NotIn) (fun x y H Q => ∃ (c : Nat) (z : Str), x = .str ⟨#[c]⟩ ∧ y = .str z ∧ Q (.bl (!decide (c ∈ z.cps.toList))) H) := by
  intro pins s σ H x y v u Q I rx ry h
  obtain ⟨c, z, rfl, rfl, q⟩ := h
  obtain ⟨t, rfl⟩ := rx
  obtain ⟨t', rfl⟩ := ry
  exact PyProof.Rows.notIn_str (fin_bl I q (congrArg Bool.not (PySem.StrLaws.found_one z c).symm))
end

theorem IsPart.raw {v : Value} {o : Option Int} (p : IsPart v o) : ∃ l : Option (Int × Tok), v = partValue l ∧ l.map (·.1) = o := by
  cases p with
  | none => exact ⟨none, rfl, rfl⟩
  | int i t => exact ⟨some (i, t), rfl, rfl⟩

/-- a part, clipped, as the text's slice reckons it -/
def clipS (n d : Nat) : Option Int → Int
  | none => (d : Int)
  | some i => max 0 (min (if i < 0 then i + (n : Int) else i) (n : Int))
theorem clipS_eq (n d : Nat) (o : Option Int) : clipS n d o = ((HT.sIx n d o : Nat) : Int) := by
  cases o with
  | none => rfl
  | some v =>
    show max (0 : Int) (min (if v < 0 then v + (n : Int) else v) (n : Int)) = (((if v < 0 then (v + (n : Int)).toNat else min v.toNat n) : Nat) : Int)
    by_cases hv : v < 0
    · simp only [if_pos hv]
      omega
    · simp only [if_neg hv]
      omega
theorem sidx_clip (a b : Option Int) (n : Nat) : Builtin.Str.strSliceIndices a b 1 n = sliceRange (clipS n 0 a) (clipS n n b) 1 := by
  have h1 : ((1 : Int) > 0) = True := by simp
  cases a <;> cases b <;> first
    | rfl
    | (simp only [Builtin.Str.strSliceIndices, clipS, h1, if_true]; rfl)
    | simp [Builtin.Str.strSliceIndices, clipS]
theorem sidx (a b : Option Int) (n : Nat) : Builtin.Str.strSliceIndices a b 1 n = (List.range (HT.sIx n n b - HT.sIx n 0 a)).map (fun k => HT.sIx n 0 a + k) := by
  rw [sidx_clip, clipS_eq, clipS_eq]
  generalize HT.sIx n 0 a = p
  generalize HT.sIx n n b = q
  simp only [sliceRange, show ((1 : Int) > 0) = True from by simp, if_true]
  by_cases hlt : (p : Int) < q
  · have e3 : (((q : Int) - p + 1 - 1) / 1).toNat = q - p := by first | omega | (simp; done) | (simp; omega)
    simp only [hlt, if_true, e3]
    refine List.map_congr_left fun k _ => ?_
    omega
  · have : q - p = 0 := by omega
    simp [hlt, this]

/-- z[lo:hi] -/
def cutS (z : Str) (lo hi : Option Int) : Str :=
  ⟨((z.cps.toList.drop (HT.sIx z.length 0 lo)).take (HT.sIx z.length z.length hi - HT.sIx z.length 0 lo)).toArray⟩
theorem sliceText_cut (z : Str) (lo hi : Option Int) : PySem.StrLaws.sliceText z lo hi = cutS z lo hi := by
  have h1 : HT.sIx z.length 0 lo ≤ z.length := HT.sIx_le _ _ (Nat.zero_le _) _
  have h2 : HT.sIx z.length z.length hi ≤ z.length := HT.sIx_le _ _ (Nat.le_refl _) _
  have hp : HT.sIx z.length 0 lo ≤ max (HT.sIx z.length 0 lo) (HT.sIx z.length z.length hi) := Nat.le_max_left _ _
  have hq : max (HT.sIx z.length 0 lo) (HT.sIx z.length z.length hi) ≤ z.length := Nat.max_le.mpr ⟨h1, h2⟩
  have hd : max (HT.sIx z.length 0 lo) (HT.sIx z.length z.length hi) - HT.sIx z.length 0 lo = HT.sIx z.length z.length hi - HT.sIx z.length 0 lo := by omega
  have e : Builtin.Str.strSliceIndices lo hi 1 z.length =
      Builtin.Str.strSliceIndices (some ((HT.sIx z.length 0 lo : Nat) : Int)) (some ((max (HT.sIx z.length 0 lo) (HT.sIx z.length z.length hi) : Nat) : Int)) 1 z.length := by
    rw [PySem.StrLaws.strSliceIndices_plain hp hq, hd, sidx]
  have e2 : PySem.StrLaws.sliceText z lo hi =
      PySem.StrLaws.sliceText z (some ((HT.sIx z.length 0 lo : Nat) : Int)) (some ((max (HT.sIx z.length 0 lo) (HT.sIx z.length z.length hi) : Nat) : Int)) := by
    unfold PySem.StrLaws.sliceText
    rw [e]
  rw [e2, PySem.StrLaws.sliceText_nat z hp hq, hd]
  rfl
theorem cutS_length (z : Str) (lo hi : Option Int) : (cutS z lo hi).length ≤ z.length := by
  show (((z.cps.toList.drop (HT.sIx z.length 0 lo)).take (HT.sIx z.length z.length hi - HT.sIx z.length 0 lo)).toArray).size ≤ z.cps.size
  rw [List.size_toArray, List.length_take, List.length_drop, Array.length_toList]
  omega
def rSlS : V → Option Int → Option Int → Hp → VK → Prop := fun x lo hi H Q => ∃ z, x = .str z ∧ z.length ≤ sizeLine ∧ Q (.str (cutS z lo hi)) H
theorem sl_str {X : Cx} : SlR X rSlS := by
  intro pins s σ H x v vl vu lo hi sl Q I rx hs pl pu h
  obtain ⟨z, rfl, hz, q⟩ := h
  obtain ⟨t, rfl⟩ := rx
  obtain ⟨os, hos, hcs, hds⟩ := hs
  obtain ⟨l, rfl, rfl⟩ := IsPart.raw pl
  obtain ⟨u, rfl, rfl⟩ := IsPart.raw pu
  refine ⟨"str", _, F.slot_str_getitem.lookup, typeIs_str _ _ _, ?_⟩
  refine wpAny_getItem_str_slice (l := l) (u := u) (st := none) ⟨os, hos, hcs, hds⟩ rfl ?_
  have hl : (PySem.StrLaws.sliceText z (l.map (·.1)) (u.map (·.1))).length ≤ sizeLine := by
    rw [sliceText_cut]
    exact Nat.le_trans (cutS_length z _ _) hz
  rw [← sliceText_cut] at q
  unfold PySem.StrLaws.sliceText at q hl
  show Made.post (if ((1 : Int) == 1 && (Builtin.Str.strSliceIndices (l.map (·.1)) (u.map (·.1)) 1 z.length).length == z.length) = true then Made.val (.str z t)
    else Made.str ⟨((Builtin.Str.strSliceIndices (l.map (·.1)) (u.map (·.1)) 1 z.length).filterMap (z.cps[·]?)).toArray⟩) (EP X pins σ Q) s
  by_cases c : ((1 : Int) == 1 && (Builtin.Str.strSliceIndices (l.map (·.1)) (u.map (·.1)) 1 z.length).length == z.length) = true
  · rw [if_pos c] at q ⊢
    exact ⟨.str z, H, I, ⟨t, rfl⟩, q⟩
  · rw [if_neg c] at q hl ⊢
    exact ⟨hl, .str _, H, I.tok _, ⟨_, rfl⟩, q⟩
end L2

namespace Att
open PySem PySem.W PySem.Calls PyProof.Rows

theorem ints_of_wellAll {P : Params} {h : Heap} : ∀ (ns : List Int) (vs : List Value), WellAll P h vs (ns.map WData.int) → IntsAre vs ns := by
  intro ns
  induction ns with
  | nil =>
    intro vs w
    rw [List.map_nil] at w
    cases w
    exact .nil
  | cons n ns ih =>
    intro vs w
    rw [List.map_cons] at w
    cases w with
    | cons a b =>
      cases a
      exact .cons _ _ (ih _ b)

theorem script_of {l : OpenLaw} {n : Nat} (hn : l.most = some n) {P : Params} {h : Heap} {args : List WData} {vals : List Value}
    (hpre : l.row.toRowW.claim.pre args = true) (hwl : WellAll P h vals args) :
    ∃ a vs ns, vals = [Value.ref a] ∧ args = [WData.list (ns.map WData.int)] ∧ h.get? a = some { cls := .type "list", data := .seq vs.toArray } ∧ IntsAre vs ns ∧ ns.length ≤ n := by
  have hsh : WShape.hasAll [] args [.list .int] = true := (pre_splitW hpre).1
  have hc : l.pre.holds [] { args := args } = true := (pre_splitW hpre).2
  obtain ⟨d, r, rfl, h1, h2⟩ := hasAllW_cons hsh
  obtain rfl := hasAllW_nil h2
  obtain ⟨xs, rfl, h3⟩ := hasW_list h1
  obtain ⟨ns, rfl⟩ := items_int h3
  have hlen : ns.length ≤ n := by
    unfold OpenLaw.pre at hc
    have h4 : (WTm.not (.lt (.lit (.int (n : Int))) (.len (.arg 0)))).holds [] { args := [.list (ns.map .int)] } = true := by
      have h4 := (holds_andW hc).1
      rw [hn] at h4
      exact h4
    have h5 := condW_of h4 (w_not (w_lt w_lit (w_len_list (w_arg rfl))))
    rw [List.length_map] at h5
    refine Nat.le_of_not_lt fun q => ?_
    have q' : (n : Int) < ((ns.length : Nat) : Int) := by omega
    first
      | (rw [decide_eq_true q'] at h5; exact absurd h5 (by decide))
      | (simp at h5; omega)
  cases hwl with
  | cons w1 w2 =>
    cases w2
    cases w1 with
    | list ho hall => exact ⟨_, _, ns, rfl, rfl, ho, ints_of_wellAll ns _ hall, hlen⟩

theorem post_true (l : OpenLaw) (args : List WData) : l.row.toRowW.claim.post args (.bool true) args = true :=
  postW_of (r := l.row.toRowW) (X := (true == true))
    (show WShape.has [] (.bool true) .bool = true by first | rfl | decide | simp [WShape.has, WShape.arms, WShape.armsAll])
    (show (WTm.eq .res (.lit (.bool true))).value [] { args := args, res := some (.bool true), after := args } = some (.bool (true == true)) from w_eq_bool (w_res rfl) w_lit) rfl

/-- the same from a codeAny of the CALL (for a layer whose function contracts speak of calls) -/
theorem attach_call {l : OpenLaw} {n : Nat} {q : Program} {loose : List Str} {XP : (Str → Option Value) → Heap → Prop} {YP : World → Heap → Prop} {d : DefRec}
    (hn : l.most = some n) (hdf : d.params.defaults = [])
    (call : ∀ (w : World) (s₀ s₁ : Shared) (mg mb : Str → Option Value) (fa : Addr) (o : Obj) (pm cd doc : Value) (a : Addr) (vs : List Value) (ns : List Int),
      Ground q loose [] XP w s₀ mg mb s₁.heap → YP w s₁.heap →
      s₁.heap.get? fa = some o → o.data = .func (docDef d.name d.params d.body d.scope pm cd doc) → s₁.heap.CodeRec cd d.name → mg d.name = some (.ref fa) →
      s₁.heap.get? a = some { cls := .type "list", data := .seq vs.toArray } → IntsAre vs ns → ns.length ≤ n → s₁.gens = #[] →
      codeAny (model l.prog w) callerA (.call (.ref fa) ⟨[.ref a], []⟩) (fun r s' => r = .ok (.ret (.bool true)) ∧ OldK s₁.heap s'.heap ∧ s'.os = s₁.os ∧ AllBare s'.gens) s₁) :
    WalkO q loose XP YP l.row.toRowW d [] (fun f vs => PySem.call f vs) := by
  intro w s₀ s₁ mg mb G Y fa o pm cd doc dV kV ho hd hcd hD hmg hg args vals as hpre hlay hrd hwl hlo
  obtain rfl : dV = .none := Dflts.none hD hdf
  obtain rfl : kV = .none := Dflts.noKw hD
  obtain ⟨a, vs, ns, rfl, rfl, hobj, hints, hlen⟩ := script_of hn hpre hwl
  refine enter_call (codeAny_mono (call w s₀ s₁ mg mb fa o pm cd doc a vs ns G Y ho (fd_plain hd) hcd hmg hobj hints hlen hg) fun r s' hq => ?_)
  obtain ⟨rfl, h2, h3, h4⟩ := hq
  exact ⟨.inl ⟨.bool true, .bool true, [], rfl, fun _ => rfl, .bool true, post_true l _, fun _ => ⟨List.Pairwise.nil, fun _ hm => (nomatch hm)⟩⟩, h2, h3, h4⟩

section
variable {prog : Program} {w : World} {A : Around} {E : Value → Shared → Prop} {s : Shared} {K : Frag}

end
end Att

namespace L2
open PySem PySem.Spec PyProof.Rows

theorem vals_ints : ∀ {vs : List Value} {ns : List Int}, IntsAre vs ns → Vals (ns.map V.int) vs
  | _, _, .nil => .nil
  | _, _, .cons n t h => .cons ⟨t, rfl⟩ (vals_ints h)

end L2

namespace L2
open PySem PySem.Spec PyProof.Rows

abbrev KOf {K : PySem.W.Frag} {h : Heap} (_ : K.In h) : PySem.W.Frag := K

end L2



namespace L2
open PySem PySem.Spec PyProof.Rows

def defArgs (s : Stmt) : Arguments := match s with
  | .FunctionDef _ a _ _ _ _ _ _ _ _ => a
  | _ => { posonlyargs := [], args := [], vararg := none, kwonlyargs := [], kw_defaults := [], kwarg := none, defaults := [] }
def defBody (s : Stmt) : List Stmt := match s with
  | .FunctionDef _ _ b _ _ _ _ _ _ _ => b
  | _ => []
def defScope (s : Stmt) : Scope := match s with
  | .FunctionDef _ _ _ _ _ _ sc _ _ _ => sc
  | _ => { kind := .function, names := [], isGenerator := false, isCoroutine := false }

abbrev CX0 : CXT := fun _ _ _ _ _ _ => False
abbrev E0 : XK := fun _ _ _ => False
theorem pass0 {X : Cx} : Passes CX0 X E0 := fun _ _ _ _ _ _ _ h => h.elim

structure Fun (K : PySem.W.Frag) (x qual : Str) (st : Stmt) (f : Addr) (fd : FuncData) : Prop where
  ex : ∃ (oc : Value) (od : Option Addr) (kV doc pm : Value) (an : Option Addr) (cdv ct : Value) (osl : Array (Option Value)),
    fd = PySem.W.fnOf x qual (defArgs st) (defBody st) (defScope st) .none kV doc pm an cdv ct ∧ K.lookup f = some ⟨oc, od, .func fd, osl⟩ ∧ PySem.W.codeIn K cdv qual = true
  kp : PySem.W.keepIn K (.ref f) = true
section
variable {P : Program} {w : World} {K : PySem.W.Frag} {mg : Str → Option Value} {base : Heap}
/-- THE RULE for a def: its body as a term of rules, and the reading of that term -/
theorem Fun.ok {x qual : Str} {st : Stmt} {f : Addr} {fd : FuncData} {N ps : List Str} {k : Nat} {sp : Sp} (F : Fun K x qual st f fd) (S : FnScope N ps (defScope st)) (len : ∀ vs H Q E, sp vs H Q E → vs.length = ps.length)
    (hbody : ∀ (cdv : Value) (A : Around) (outer : List Env) (s : Shared) (H : Hp) (vs : List V) (Q : VK) (E : XK), Room k (A.deeper (envOfC qual (defScope st) s.heap.objs.size f cdv)) → sp vs H Q E →
      ∃ t, PSs (cxOf CX0 P w K mg base N qual (defScope st) f cdv A outer s H E).nox (defBody st) t ∧ t { nx := fun _ H' => Q .non H', rt := Q } (start N vs) H) : FnOk P w K mg base CX0 (k + 1) f fd ps sp := by
  obtain ⟨oc, od, kV, doc, pm, an, cdv, ct, osl, rfl, lk, hcd⟩ := F.ex
  refine fn_of lk hcd S len fun A outer s H vs Q E hr hsp => ?_
  obtain ⟨t, h, q⟩ := hbody cdv A outer s H vs Q E hr hsp
  exact ⟨t, h.nox, q⟩
/-- how its arguments bind (no defaults): h is «fun _ _ _ _ _ _ us hl => match us, hl with | [_, _], _ => rfl», one _ a parameter -/
theorem Fun.binds {x qual : Str} {st : Stmt} {f : Addr} {fd : FuncData} {ps : List Str} (F : Fun K x qual st f fd)
    (h : ∀ (kV doc pm : Value) (an : Option Addr) (cdv ct : Value) (us : List Value), us.length = ps.length → bindArgs (PySem.W.fnOf x qual (defArgs st) (defBody st) (defScope st) .none kV doc pm an cdv ct) ⟨us, []⟩ = pure (ps.zip us)) : Binds K fd ps [] := by
  obtain ⟨oc, od, kV, doc, pm, an, cdv, ct, osl, rfl, lk, hcd⟩ := F.ex
  exact .all (h kV doc pm an cdv ct)
theorem fun_mk {x qual : Str} {st : Stmt} {f : Addr} {oc : Value} {od an : Option Addr} {osl : Array (Option Value)} {kV doc pm cdv ct : Value} (l : K.lookup f = some ⟨oc, od, .func (PySem.W.fnOf x qual (defArgs st) (defBody st) (defScope st) .none kV doc pm an cdv ct), osl⟩)
    (c : PySem.W.codeIn K cdv qual = true) (k : PySem.W.keepIn K (.ref f) = true) : Fun K x qual st f (PySem.W.fnOf x qual (defArgs st) (defBody st) (defScope st) .none kV doc pm an cdv ct) := ⟨⟨oc, od, kV, doc, pm, an, cdv, ct, osl, rfl, l, c⟩, k⟩
end
theorem small1000 {n : Nat} (h : n ≤ 1000) : n < sizeLine := Nat.lt_of_le_of_lt h (by decide)

section
variable {X : Cx}
theorem pv (i : Nat) {x : Str} {pos : Pos} (hN : X.N[i]? = some x := by rfl) (hv : Vis X.env.scope x := by first | exact Or.inl rfl | exact Or.inr (Or.inl rfl) | exact Or.inr (Or.inr rfl)) (hd : (x == ("__debug__" : Str)) = false := by decide)
    (hcd : (x == ("__classdict__" : Str)) = false := by decide) : PE X (.Name x pos) (tVar i) := pe_var hN hv hd hcd
end

theorem iteF {A B : Prop} (h : B) : if false = true then A else B := by
  rw [if_neg Bool.false_ne_true]
  exact h
theorem iteT {A B : Prop} (h : A) : if true = true then A else B := by
  rw [if_pos rfl]
  exact h
theorem ite2 {c A B : Prop} [Decidable c] (h1 : c → A) (h2 : ¬ c → B) : if c then A else B := by
  by_cases h : c
  · rw [if_pos h]
    exact h1 h
  · rw [if_neg h]
    exact h2 h
theorem iteNS {c A B : Prop} [Decidable c] (hc : c) (h : B) : if (!decide c) = true then A else B := by
  rw [decide_eq_true hc]
  exact iteF h

/-- all that was tracked is as it was -/
def Same (H H' : Hp) : Prop := ∀ b o, H b = some o → H' b = some o
theorem Same.refl (H : Hp) : Same H H := fun _ _ h => h
theorem Same.trans {H H1 H2 : Hp} (a : Same H H1) (b : Same H1 H2) : Same H H2 := fun c o h => b c o (a c o h)
theorem Same.free {H H' : Hp} (e : Same H H') {l : Addr} (h : H' l = Option.none) : H l = Option.none := by
  cases q : H l with
  | none => rfl
  | some o =>
    rw [e l o q] at h
    cases h
theorem Same.seq {K : PySem.W.Frag} {H H' : Hp} {a : Addr} {xs : List V} (e : Same H H') (h : SqL K H a xs) : SqL K H' a xs := by
  rcases h with (h | ⟨o, h⟩) | h
  · exact .inl (.inl (e _ _ h))
  · exact .inl (.inr ⟨o, e _ _ h⟩)
  · exact .inr h

section
variable {κ : Type} [DecidableEq κ]
theorem nd_snoc : ∀ {l : List κ} {k : κ}, l.Nodup → ¬ k ∈ l → (l ++ [k]).Nodup
  | [], k, _, _ => by simp
  | a :: r, k, h, hk => by
    obtain ⟨h1, h2⟩ := List.nodup_cons.mp h
    show (a :: (r ++ [k])).Nodup
    refine List.nodup_cons.mpr ⟨fun m => ?_, nd_snoc h2 fun m => hk (List.mem_cons.mpr (Or.inr m))⟩
    rcases List.mem_append.mp m with q | q
    · exact h1 q
    · exact hk (List.mem_cons.mpr (Or.inl (List.mem_singleton.mp q).symm))
end
theorem nd_ix {α : Type} {l : List α} (hN : l.Nodup) {i j : Nat} {x : α} (a : l[i]? = some x) (b : l[j]? = some x) : i = j := by
  obtain ⟨h1, e1⟩ := List.getElem?_eq_some_iff.mp a
  obtain ⟨h2, e2⟩ := List.getElem?_eq_some_iff.mp b
  exact (List.getElem_inj hN).mp (e1.trans e2.symm)
/-- a new instance and its __init__ leave all that was tracked as it was -/
theorem Same.made {H H1 : Hp} {x dx C : Addr} (nx : H x = Option.none) (nd : H dx = Option.none) (k : ∀ b o, (upd (upd H dx (.own x)) x (.ins C dx [])) b = some o → b ≠ x → H1 b = some o) : Same H H1 := fun b o e =>
  k b o (by rw [upd_ne (ne_of_none e nx), upd_ne (ne_of_none e nd)]; exact e) (ne_of_none e nx)
end L2

set_option Elab.async false
set_option linter.all false
set_option maxRecDepth 100000
set_option maxHeartbeats 4000000
namespace PySem
theorem size_setGen (s : Shared) (g : Nat) (x : GenState) : (s.setGen g x).gens.size = s.gens.size := by simp [Shared.setGen]
theorem Runs.gens_le {M : Model} {Γ : Ctx} {p : Pos} {t : Sem Fin} {fs : List Frame} {s s' : Shared} {e : End} (h : Runs M Γ p t fs s e s') : s.gens.size ≤ s'.gens.size := by
  induction h <;> (try simp only [size_setGen, Array.size_push] at *) <;> omega
theorem Returns.gens_le {M : Model} {Γ : Ctx} {p : Pos} {s s' : Shared} {r : Result} (h : Returns M Γ p s r s') : s.gens.size ≤ s'.gens.size := Runs.gens_le h
theorem Wakes.gens_le {M : Model} {Γ : Ctx} {p : Pos} {g : Nat} {r : Resume} {s s' : Shared} {res : GenResult} (h : Wakes M Γ p g r s res s') : s.gens.size ≤ s'.gens.size := by
  have k : ∀ {e₁ : End} {s₁ : Shared} {Γ' p' t'} {x y : GenState}, Runs M Γ' p' t' [] (s.setGen g x) e₁ s₁ → s.gens.size ≤ (s₁.setGen g y).gens.size := fun {e₁ s₁ Γ' p' t' x y} q => by
    have := Runs.gens_le q
    rw [size_setGen] at this ⊢
    exact this
  have k2 : ∀ {e₁ : End} {s₁ : Shared} {Γ' p' t' fs'} {x y : GenState}, Runs M Γ' p' t' fs' (s.setGen g x) e₁ s₁ → s.gens.size ≤ (s₁.setGen g y).gens.size := fun {e₁ s₁ Γ' p' t' fs' x y} q => by
    have := Runs.gens_le q
    rw [size_setGen] at this ⊢
    exact this
  unfold Wakes at h
  split at h
  · exact h.elim
  · split at h
    · obtain ⟨e₁, s₁, hr, _, _, rfl⟩ := h
      exact k hr
    · rw [h.2]; first | exact Nat.le_refl _ | (rw [size_setGen]; exact Nat.le_refl _)
    · rw [h.2]; first | exact Nat.le_refl _ | (rw [size_setGen]; exact Nat.le_refl _)
  · obtain ⟨e₁, s₁, hr, _, _, rfl⟩ := h
    exact k2 hr
  · rw [h.2]; exact Nat.le_refl _
  · rw [h.2]; exact Nat.le_refl _
namespace Sem
theorem wp_gens {α : Type} (M : Model) (Γ : Ctx) (n : Nat) (t : Sem α) : ∀ (Q : α → Pos → Shared → Prop) (E : Value → Pos → Shared → Prop) (p : Pos) (s : Shared), n ≤ s.gens.size → wp M Γ t Q E p s →
    wp M Γ t (fun a p' s' => n ≤ s'.gens.size ∧ Q a p' s') (fun e p' s' => n ≤ s'.gens.size ∧ E e p' s') p s := by
  induction t with
  | pure a => intro Q E p s hn h; exact ⟨hn, h⟩
  | raise e => intro Q E p s hn h; exact ⟨hn, h⟩
  | unsupported _ => intro Q E p s _ h; exact h
  | finish _ => intro Q E p s _ h; exact h
  | rule _ k ih => intro Q E p s hn h; exact ih () Q E p s hn h
  | «at» p' k ih => intro Q E p s hn h; exact ih () Q E p' s hn h
  | load a _ k ih => intro Q E p s hn h; obtain ⟨o, ho, h⟩ := h; exact ⟨o, ho, ih o Q E p s hn h⟩
  | update a _ f k ih => intro Q E p s hn h; exact ⟨h.1, ih () Q E p _ hn h.2⟩
  | loadIfAlive a k ih => intro Q E p s hn h; exact ih _ Q E p s hn h
  | point _ k ih => intro Q E p s hn h; exact ih () Q E p s hn h
  | register _ _ => intro Q E p s _ h; exact h
  | alloc o k ih => intro Q E p s hn h; exact ih _ Q E p _ hn h
  | fresh k ih => intro Q E p s hn h; exact ih _ Q E p _ hn h
  | ask k ih => intro Q E p s hn h; exact ih _ Q E p s hn h
  | choose src m k ih => intro Q E p s hn h; exact ⟨h.1, ih _ Q E p _ hn h.2⟩
  | os q _ k ih => intro Q E p s hn h; exact ih _ Q E p _ hn h
  | call c hd _ _ k ih => intro Q E p s hn h; obtain ⟨r, s', hr, h⟩ := h; exact ⟨r, s', hr, ih r Q E p s' (Nat.le_trans hn hr.gens_le) h⟩
  | handled own k ih => intro Q E p s hn h; exact ih _ Q E p s hn h
  | genState g k ih => intro Q E p s hn h; obtain ⟨st, hs, h⟩ := h; exact ⟨st, hs, ih _ Q E p s hn h⟩
  | newGen c k ih => intro Q E p s hn h; exact ih _ Q E p _ (by simp only [Array.size_push]; exact Nat.le_succ_of_le hn) h
  | resume g r _ k ih => intro Q E p s hn h; obtain ⟨res, s', hw, h⟩ := h; exact ⟨res, s', hw, ih res Q E p s' (Nat.le_trans hn hw.gens_le) h⟩
  | yield _ _ _ _ => intro Q E p s _ h; exact h
  | stack k ih => intro Q E p s hn h; exact ih _ Q E p s hn h
  | fork _ _ => intro Q E p s _ h; exact h
  | thread k ih => intro Q E p s hn h; exact ih _ Q E p s hn h
  | await _ _ _ _ _ => intro Q E p s _ h; exact h
end Sem
theorem wpAny_gens_of {α : Type} {M : Model} {A : Around} {s : Shared} {t : Sem α} {Q : α → Shared → Prop} {E : Value → Shared → Prop} {n : Nat} (hn : n ≤ s.gens.size) (h : wpAny M A t Q E s) :
    wpAny M A t (fun a s' => n ≤ s'.gens.size ∧ Q a s') (fun e s' => n ≤ s'.gens.size ∧ E e s') s :=
  fun Γ p hΓ => Sem.wp_gens M Γ n t _ _ p s hn (h Γ p hΓ)
end PySem

set_option Elab.async false
set_option linter.all false
set_option maxRecDepth 100000
set_option maxHeartbeats 4000000
namespace L2
open PySem PySem.Spec PyProof.Rows
abbrev Cx.gblk (X : Cx) (A' : Around) (s : Shared) (H : Hp) (cenv : Env) (fp : List Addr) : Cx := { X with A := A', s_0 := s, H_0 := H, env := cenv, outer := X.stack, stack := cenv :: X.stack, ex := fp, fn := fun _ => false, pn := [], xe := fun _ _ => False }
section
variable {X : Cx} {pins : List (Addr × Obj)} {σ : St} {H : Hp} {s s' : Shared}
theorem gen_start {A' : Around} {scope : Scope} {own : List (Str × Nat)} {fp : List Addr} {cenv : Env} {code : Value} {m : Str → Option Value} {a : Addr} {gobj : Obj} (I : Inv X pins σ H s) (ok : BlkOk X.N X.env.scope scope own) (hcell : ∀ y ∈ scope.names, y.2 ≠ .cell)
    (hN : X.N.Nodup) (hfp : ∀ b ∈ fp, FpOk X pins H b ∧ b < s.heap.objs.size) (hfr : A'.frames = some (cenv :: X.stack)) (hhd : X.calm = true → A'.handled = none)
    (hcenv : cenv = genEnv scope (cloFrom X.env.cells scope.names []) s.heap.objs.size code builtinsNs X.env) (hos : s'.os = s.os) (hb : AllBare s'.gens)
    (kp : ∀ b o, s.heap.get? b = some o → s'.heap.get? b = some o) (hns : s'.heap.Ns s.heap.objs.size m) (hga : s'.heap.get? a = some gobj) (haC : s.heap.objs.size < a) (hgd : ∀ v, gobj.data ≠ .cell v) :
    Inv (X.gblk A' s H cenv fp) [(a, gobj)] (wipe σ (own.map (·.2))) H s' := by
  have hfree : ∀ y ∈ scope.names, y.2 = .free → ∃ c, X.env.cells.lookup y.1 = some c := fun y hy e => by
    rcases ok.free y hy e with k | k
    · exact I.ok.has _ (.inl k)
    · exact I.ok.has _ (.inr k)
  have hL : cenv.locals = s.heap.objs.size := by rw [hcenv]; rfl
  have hcl : cenv.cells = cloFrom X.env.cells scope.names [] := by rw [hcenv]; rfl
  have hsc : cenv.scope = scope := by rw [hcenv]; rfl
  have hff : cenv.frame = some s.heap.objs.size := by rw [hcenv]; rfl
  have cm : ∀ {y c}, (y, c) ∈ cloFrom X.env.cells scope.names [] → X.env.cells.lookup y = some c ∧ c < s.heap.objs.size := fun {y c} hm => by
    rcases cloFrom_mem hm with hm | ⟨h1, rfl⟩
    · cases hm
    · obtain ⟨c, hc⟩ := hfree _ h1 rfl
      rw [hc]
      obtain ⟨w, z⟩ := I.cell _ _ hc
      exact ⟨rfl, z.lt⟩
  have mem : ∀ {y c}, cenv.cells.lookup y = some c → X.env.cells.lookup y = some c ∧ c < s.heap.objs.size := fun {y c} e => by
    rw [hcl] at e
    exact cm (PySem.mem_of_lookup e)
  have look : ∀ {y}, scope.names.lookup y = some .free → ∃ c, cenv.cells.lookup y = some c ∧ X.env.cells.lookup y = some c := fun {y} hl => by
    have hy : (y, NameKind.free) ∈ scope.names := PySem.mem_of_lookup hl
    obtain ⟨c', e'⟩ := mem_lookup (cloFrom_has (cells := X.env.cells) (acc := []) hy)
    rw [← hcl] at e'
    exact ⟨c', e', (mem e').1⟩
  have okB : (X.gblk A' s H cenv fp).Ok := by
    refine ⟨I.ok.mod, by show cenv.scope.kind = _; rw [hsc]; exact ok.kind, by show cenv.globals = _; rw [hcenv]; exact I.ok.glob, by show cenv.builtins = _; rw [hcenv]; rfl, by show s.heap.objs.size ≤ cenv.locals; rw [hL]; exact Nat.le_refl _,
      fun y z c e1 e2 => ?_, fun y hy => ?_, fun y c z e => ?_, hhd, hfr, .inr ⟨rfl, by show cenv.frame = some cenv.locals; rw [hff, hL]⟩, fun b hb => ⟨?_, fun y c e z => ?_⟩, I.bs, Nat.le_trans I.ok.bsz I.sz, fun b o e hb => ?_, fun b hb z => ?_, I.stack, I.stkFree⟩
    · exact I.ok.inj y z c (mem e1).1 (mem e2).1
    · have key : ∀ k, cenv.kindOf y = some k → (k = .cell ∨ k = .free) → ∃ c, cenv.cells.lookup y = some c := fun k hk hk' => by
        have e : scope.names.lookup y = some k := by
          unfold Env.kindOf at hk
          rw [hsc] at hk
          exact hk
        rcases hk' with rfl | rfl
        · exact absurd rfl (hcell _ (PySem.mem_of_lookup e))
        · obtain ⟨c, h1, _⟩ := look e
          exact ⟨c, h1⟩
      rcases hy with hy | hy
      · exact key _ hy (.inl rfl)
      · exact key _ hy (.inr rfl)
    · exact absurd (show false = true from z) Bool.false_ne_true
    · show b ≠ cenv.locals
      rw [hL]; exact Nat.ne_of_lt (hfp b hb).2
    · exact (hfp b hb).1.2.2.2.2.1 y c (mem e).1 z
    · rcases (hfp b hb).1.2.2.2.1 with z | z
      · exact I.ok.noex b o e z
      · exact absurd (Nat.lt_of_lt_of_le (Heap.lt_size e) (Nat.le_trans I.ok.bsz z)) (Nat.lt_irrefl _)
    · rcases List.mem_cons.mp (I.stkSub b z) with z | z
      · exact (hfp b hb).1.2.1 z
      · exact (hfp b hb).1.2.2.1 z
  refine ⟨okB, hos, hb, Un.kept kp, ⟨m, ?_, fun i y av e1 e2 e3 => ?_⟩, fun y c e => ?_, ?_, fun y c e => ?_, fun p hp => ?_, I.hok.kept kp, by rw [wipe_length]; exact I.len⟩
  · show Heap.Ns _ cenv.locals _
    rw [hL]
    exact hns
  · obtain ⟨e2, hne⟩ := wipe_some e2
    have hfr : scope.names.lookup y = some .free ∧ cenv.kindOf y = some .free := by
      have key : ∀ k, cenv.scope.names.lookup y = some k → k = .local ∨ k = .cell ∨ k = .free → scope.names.lookup y = some .free ∧ cenv.kindOf y = some .free := fun k hk hk' => by
        have hk0 := hk
        rw [hsc] at hk
        have no : ¬ (k = .local ∨ k = .cell) := fun hh => by
          rcases ok.own _ (PySem.mem_of_lookup hk) hh with e' | e'
          · obtain ⟨p, hp, hpy⟩ := List.mem_map.mp e'
            have e3 := ok.ix p hp
            have : p.1 = y := hpy
            rw [this] at e3
            exact hne (List.mem_map.mpr ⟨p, hp, nodup_ix hN e3 e1⟩)
          · exact e' (List.mem_of_getElem? e1)
        rcases hk' with rfl | rfl | rfl
        · exact absurd (.inl rfl) no
        · exact absurd (.inr rfl) no
        · exact ⟨hk, hk0⟩
      have e3 : Vis cenv.scope y := e3
      rcases e3 with e3 | e3 | e3
      · exact key _ e3 (.inl rfl)
      · exact key _ e3 (.inr (.inl rfl))
      · exact key _ e3 (.inr (.inr rfl))
    obtain ⟨m0, hn, hl⟩ := I.loc
    have hvis : Vis X.env.scope y := (ok.free _ (PySem.mem_of_lookup hfr.1) rfl).elim (fun k => .inr (.inl k)) (fun k => .inr (.inr k))
    obtain ⟨w, r, q⟩ := hl i y av e1 e2 hvis
    refine ⟨w, r, .inr ⟨.inr hfr.2, ?_⟩⟩
    obtain ⟨c, h1, h2⟩ := look hfr.1
    rcases q with ⟨k, _⟩ | ⟨_, c', e', z⟩
    · have k : X.env.scope.names.lookup y = some .local := k
      rcases ok.free _ (PySem.mem_of_lookup hfr.1) rfl with k' | k' <;> rw [show X.env.scope.names.lookup y = _ from k'] at k <;> cases k
    · rw [h2] at e'; cases e'
      exact ⟨c, h1, z.keeps kp⟩
  · obtain ⟨w, z⟩ := I.cell y c (mem e).1
    exact ⟨w, z.keeps kp⟩
  · show H cenv.locals = none
    rw [hL]; exact I.hok.fresh (Nat.le_refl _)
  · exact I.freeC y c (mem e).1
  · have hp : p = (a, gobj) := by simpa using hp
    subst hp
    refine ⟨hga, I.hok.fresh (Nat.le_of_lt haC), ?_, fun z => ?_, hgd⟩
    · show a ≠ cenv.locals
      rw [hL]
      exact Nat.ne_of_gt haC
    · rcases List.mem_cons.mp (I.stkSub a z) with z | z
      · have z : a = X.env.locals := z
        have h2 := I.lt
        rw [← z] at h2
        exact absurd (Nat.lt_trans haC h2) (Nat.lt_irrefl _)
      · exact I.nofs (Nat.le_of_lt haC) z
end
end L2

set_option Elab.async false
set_option linter.all false
set_option maxRecDepth 100000
set_option maxHeartbeats 4000000
namespace L2
open PySem PySem.Spec PyProof.Rows
theorem thnG {α : Type} {t : Sem α} {Q Q' : α → Shared → Prop} {M : Model} {A : Around} {E : Value → Shared → Prop} {s : Shared} {n : Nat} (h : wpAny M A t Q (fun _ _ => False) s) (hn : n < s.gens.size) (hQ : ∀ a s, n < s.gens.size → Q a s → Q' a s) : wpAny M A t Q' E s :=
  wpAny_mono (wpAny_gens_of (n := n + 1) hn h) (fun a s x => hQ a s x.1 x.2) fun _ _ z => False.elim z.2
/-- a generator that has stopped at a yield, or has not begun -/
def GenP (Xg : Cx) (pl : List (Addr × Obj)) (fp : List Addr) (tn : Nat → Heap → Prop) (σw : St) (W : Nat → Nat → Hp → Prop) (Yl : Nat → Nat → V → Hp → Prop) (gn : Nat) : Protocol := fun n s₀ v s kap =>
  ∃ (i m : Nat) (y : V) (H : Hp), RelV y v ∧ Inv Xg pl σw H s ∧ tn (i + 1) s.heap ∧ (∀ b ∈ fp, H b = none) ∧ gn < s.gens.size ∧ m ≤ n ∧ Yl i m y H ∧
    ∀ (m' : Nat) (s'' : Shared), m' < m → W (i + 1) m' H → s''.heap = s.heap → s''.os = s.os → AllBare s''.gens → gn < s''.gens.size → kap (.send .none) s''
theorem Inv.gens {X : Cx} {pins : List (Addr × Obj)} {σ : St} {H : Hp} {s s' : Shared} (I : Inv X pins σ H s) (hh : s'.heap = s.heap) (ho : s'.os = s.os) (hb : AllBare s'.gens) : Inv X pins σ H s' :=
  ⟨I.ok, ho.trans I.os, hb, by rw [hh]; exact I.base, by rw [hh]; exact I.loc, by rw [hh]; exact I.cell, I.free, I.freeC, by rw [hh]; exact I.pin, by rw [hh]; exact I.hok, I.len⟩
section
variable {X : Cx} {AA : Around} {s0 : Shared} {H0 : Hp} {cenv : Env} {fp : List Addr} {it : Addr} {tn : Nat → Heap → Prop} {J : It} {elt tg iter : Expr} {ifs : List Expr} {scope : Scope} {pos : Pos} {g : TG} {tt : TT} {te : TE} {vs : List Nat}
  {σw : St} {W : Nat → Nat → Hp → Prop} {Yl : Nat → Nat → V → Hp → Prop} {En : Hp → Prop} {pl : List (Addr × Obj)} {gn : Nat}
abbrev cL (elt tg iter : Expr) (ifs : List Expr) (scope : Scope) (pos : Pos) (it : Addr) (cenv : Env) : Code := .compLoop (.GeneratorExp elt [⟨tg, iter, ifs, 0⟩] scope pos) 0 (.ref it) .none cenv
abbrev GenR (Xg : Cx) (pl : List (Addr × Obj)) (σw : St) (En : Hp → Prop) (gn : Nat) : GenEnd := fun _ _ r s₁ => r = .ok .next ∧ ∃ H', Inv Xg pl σw H' s₁ ∧ En H' ∧ gn < s₁.gens.size
theorem seg_gl (hc : X.calm = true) (T : Turn X.prog X.w X.K tg J fp it tn) (hco : cenv.scope.isCoroutine = false)
    (pg : PG (X.gblk (AA.over (cL elt tg iter ifs scope pos it cenv) []) s0 H0 cenv fp) tg g) (pt : PTs (X.gblk (AA.over (cL elt tg iter ifs scope pos it cenv) []) s0 H0 cenv fp) ifs tt) (pe : PE (X.gblk (AA.over (cL elt tg iter ifs scope pos it cenv) []) s0 H0 cenv fp) elt te)
    (hpl : ∀ p ∈ pl, p.1 ∉ fp)
    (turn : ∀ i m H, W i m H → (J.stop i H ∧ En H) ∨ (J.go i H ∧ ∃ Nx : Hp → Prop, (∀ H', Nx H' → ∃ m', m' < m ∧ W (i + 1) m' H') ∧ ∀ x H', J.yld i H x H' → g x σw H' fun σ2 H2 => wipe σ2 vs = σw ∧ tt σ2 H2 fun b H3 =>
      if b = true then te σ2 H3 fun y H4 => Yl i m y H4 else Nx H3)) :
    ∀ (m n i : Nat) (s₀ s : Shared) (H : Hp), m < n → Inv (X.gblk (AA.over (cL elt tg iter ifs scope pos it cenv) []) s0 H0 cenv fp) pl σw H s → tn i s.heap → (∀ b ∈ fp, H b = none) → gn < s.gens.size → W i m H →
      Seg (model X.prog X.w) AA (GenR (X.gblk (AA.over (cL elt tg iter ifs scope pos it cenv) []) s0 H0 cenv fp) pl σw En gn) (GenP (X.gblk (AA.over (cL elt tg iter ifs scope pos it cenv) []) s0 H0 cenv fp) pl fp tn σw W Yl gn) n s₀ (cL elt tg iter ifs scope pos it cenv)
        ((model X.prog X.w).den (cL elt tg iter ifs scope pos it cenv)) [] s := by
  intro m
  induction m using Nat.strongRecOn with
  | ind m ih =>
  intro n i s₀ s H hmn I st nf hgn w
  have stat : ∀ {σ' : St} {H' : Hp} {s' : Shared}, Inv (X.gblk (AA.over (cL elt tg iter ifs scope pos it cenv) []) s0 H0 cenv fp) pl σ' H' s' → (∀ b ∈ fp, H' b = none) → ∀ b ∈ fp, FpOk (X.gblk (AA.over (cL elt tg iter ifs scope pos it cenv) []) s0 H0 cenv fp) pl H' b := fun {σ' H' s'} I' hn b hb =>
    ⟨hn b hb, (I'.ok.exf b hb).1, I'.ok.exfs b hb, .inl hb, fun x c e => (I'.ok.exf b hb).2 x c e, fun p hp z => hpl p (by simpa using hp) (by rw [z]; exact hb)⟩
  show Seg _ AA _ _ _ s₀ _ ((compTurn (.GeneratorExp elt [⟨tg, iter, ifs, 0⟩] scope pos) 0 (.ref it) .none cenv).onRaise (leaving cenv)) [] s
  rw [compTurn_gen, Sem.onRaise_eq_wrap]
  refine seg_bind_wrap (wpAny_standAt ?_)
  rcases turn i m H w with ⟨stop, qq⟩ | ⟨go, Nx, hNx, step⟩
  · have td := T.done (X.gblk (AA.over (cL elt tg iter ifs scope pos it cenv) []) s0 H0 cenv fp) rfl rfl rfl hc i pl s _ H (fun _ _ => False) I (stat I nf) st stop
    refine seg_bind_wrap (thnG td hgn fun r s6 g6 ⟨hr, I6⟩ => ?_)
    subst hr
    exact seg_end (.ok .next) ⟨rfl, H, I6, qq, g6⟩
  · have ti := T.item (X.gblk (AA.over (cL elt tg iter ifs scope pos it cenv) []) s0 H0 cenv fp) rfl rfl rfl hc i pl s _ H (fun _ _ => False) I (stat I nf) st go
    refine seg_bind_wrap (thnG ti hgn fun r s6 g6 ⟨u, hr, h6⟩ => ?_)
    subst hr
    refine seg_bind_wrap (thnG h6 g6 fun _ s7 g7 ⟨x, H7, I7, r7, y7, st7, n7⟩ => ?_)
    have I7' := I7.pinned (stat I7 n7) (T.obj _ _ st7)
    refine seg_bind_wrap (thnG (pg _ s7 _ H7 x u _ I7' r7 (step x H7 y7)) g7 fun _ s8 g8 ⟨σ8, H8, I8, hw8, q8⟩ => ?_)
    refine seg_bind_wrap (thnG (pt _ s8 σ8 H8 _ I8 q8) g8 fun b s9 g9 ⟨H9, I9, q9⟩ => ?_)
    have back : ∀ {s' : Shared} {H' : Hp}, Inv (X.gblk (AA.over (cL elt tg iter ifs scope pos it cenv) []) s0 H0 cenv fp) (pl ++ pinsAt fp s7.heap) σ8 H' s' → Inv (X.gblk (AA.over (cL elt tg iter ifs scope pos it cenv) []) s0 H0 cenv fp) pl σw H' s' ∧ tn (i + 1) s'.heap ∧ ∀ b ∈ fp, H' b = none := fun {s' H'} I' => by
      have pin' : ∀ b ∈ fp, ∀ o, s7.heap.get? b = some o → s'.heap.get? b = some o ∧ H' b = none := fun b hb o e =>
        let z := I'.pin (b, o) (List.mem_append_right _ (List.mem_append_right _ (mem_pinsAt hb e)))
        ⟨z.1, z.2.1⟩
      have hl : σw.length = σ8.length := by rw [← hw8, wipe_length]
      refine ⟨(I'.unpinned (pins := pl)).weak hl (fun j v e => ?_), T.keep _ _ _ st7 fun b hb o e => (pin' b hb o e).1, fun b hb => ?_⟩
      · rw [← hw8] at e
        exact (wipe_some e).1
      · obtain ⟨o, e, _⟩ := T.obj _ _ st7 b hb
        exact (pin' b hb o e).2
    cases b with
    | false =>
      simp only [Bool.false_eq_true, if_false] at q9 ⊢
      obtain ⟨m', hm, w'⟩ := hNx H9 q9
      obtain ⟨Ib, tb, nb⟩ := back I9
      exact seg_again rfl (ih m' hm n (i + 1) s₀ s9 H9 (by omega) Ib tb nb g9 w')
    | true =>
      simp only [if_true] at q9 ⊢
      have hy : ∀ v, yieldOut cenv v = yieldValue v := fun v => by simp only [yieldOut, hco, Bool.false_eq_true, if_false]
      simp only [hy]
      rw [Sem.bind_eq_wrap', Sem.bind_eq_wrap', Sem.wrap_wrap, Sem.wrap_wrap]
      refine seg_wrap (thnG (pe _ s9 σ8 H9 _ I9 q9) g9 fun z s10 g10 ⟨yv, H10, I10, r10, q10⟩ => ?_)
      obtain ⟨Ib, tb, nb⟩ := back I10
      obtain ⟨n', rfl⟩ : ∃ n', n = n' + 1 := ⟨n - 1, by omega⟩
      refine seg_at (seg_yield rfl rfl rfl ⟨i, m, yv, H10, r10, Ib, tb, nb, g10, by omega, q10, fun m' s'' hm w' hh ho hb hg'' => ?_⟩)
      exact seg_again rfl (ih m' hm n' (i + 1) s'' s'' H10 (by omega) (Ib.gens hh ho hb) (by rw [hh]; exact tb) nb hg'' w')
end
end L2

set_option Elab.async false
set_option linter.all false
set_option maxRecDepth 100000
set_option maxHeartbeats 4000000
namespace L2
open PySem PySem.Spec PyProof.Rows
def tabPh (P : Addr) : Heap → Prop := fun h => ∃ ps, h.get? P = some { cls := .none, data := .fields ps } ∧ TriplesOk ps.toList
def tabO (P : Addr) : HO := .ext (tabPh P)
structure CodeAt (h : Heap) (c P : Addr) : Prop where
  ex : ∃ o vs file tf flags tg inF text tt, h.get? c = some o ∧ o.data = .fields vs ∧ vs.getD 11 .none = .ref P ∧ vs.getD 18 .none = .str file tf ∧ vs.getD 7 .none = .int flags tg ∧ vs.getD 9 .none = .bool inF ∧ vs.getD 10 .none = .int text tt ∧ c ≠ P ∧ o.cls = .type "code" ∧ vs[11]? = some (.ref P)
theorem upd_self {H : Hp} {a : Addr} {o : HO} (h : H a = some o) : upd H a o = H := by
  funext b
  unfold upd
  split
  · next e => rw [e, h]
  · rfl
theorem tab_ok {P' : Program} {w : World} {H : Hp} {h : Heap} {P : Addr} {ps : Array Value} (e : h.get? P = some { cls := .none, data := .fields ps }) (t : TriplesOk ps.toList) : ObjOk P' w H h P (tabO P) :=
  ⟨⟨ps, e, t⟩, ⟨_, e⟩, fun h1 h2 ⟨qs, q, t⟩ k => ⟨qs, k _ q, t⟩⟩
theorem CodeAt.code {h : Heap} {c P : Addr} (x : CodeAt h c P) {ps : Array Value} (e : h.get? P = some { cls := .none, data := .fields ps }) (t : TriplesOk ps.toList) : h.IsCode c P ps ∧ h.TableAt c P ps := by
  obtain ⟨o, vs, file, tf, flags, tg, inF, text, tt, h1, h2, h3, h4, h5, h6, h7, h8, h9, h10⟩ := x.ex
  exact ⟨⟨o, vs, file, tf, flags, tg, inF, text, tt, _, h1, h2, h3, h4, h5, h6, h7, e, rfl, t, h8⟩, ⟨o, vs, h1, h9, h2, h10⟩, e⟩
theorem CodeAt.keeps {h h' : Heap} {c P : Addr} (x : CodeAt h c P) (k : ∀ b o, h.get? b = some o → h'.get? b = some o) : CodeAt h' c P := by
  obtain ⟨o, vs, file, tf, flags, tg, inF, text, tt, h1, r⟩ := x.ex
  exact ⟨o, vs, file, tf, flags, tg, inF, text, tt, k _ _ h1, r⟩
section
variable {X : Cx} {pins : List (Addr × Obj)} {σ : St} {H : Hp} {s : Shared}
theorem gcode_ok {A : Around} {E : Value → Shared → Prop} {c P : Addr} {pos : Pos} {qn : Str} {scope : Scope} {Q : Value → Shared → Prop} (I : Inv X pins σ H s) (hc : X.env.code = .ref c) (hC : CodeAt X.base c P) (hP : H P = some (tabO P))
    (h : ∀ (code : Value) (h' : Heap) (tk : Nat), Inv X pins σ H { s with heap := h', toks := tk } → s.heap.objs.size ≤ h'.objs.size → (∀ b o, b ≠ P → s.heap.get? b = some o → h'.get? b = some o) → Q code { s with heap := h', toks := tk }) :
    wpAny (model X.prog X.w) A (genexprCode X.env pos qn scope) Q E s := by
  obtain ⟨⟨ps, e, t⟩, _, _⟩ := (show ObjOk X.prog X.w H s.heap P (tabO P) from I.hok P _ hP)
  obtain ⟨k1, k2⟩ := (hC.keeps I.bk).code e t
  cases hf : codeAmong pos ps.toList with
  | some cv => exact wpAny_genexprCode_hit hc k1 hf (h cv s.heap s.toks (I.tok s.toks) (Nat.le_refl _) fun _ _ _ z => z)
  | none =>
    refine wpAny_genexprCodeX hc k1 k2 hf fun c' h' tk hx hge hlt hcode' _ htab' _ => ?_
    refine h _ h' tk ?_ (Nat.le_trans hge (Nat.le_of_lt hlt)) fun b o hb z => hx b o hb z
    obtain ⟨_, _, _, _, _, _, _, _, _, op, _, _, _, _, _, _, _, hop, hpd, htr, _⟩ := hcode'
    have := I.write (x := P) (e := P) (o := tabO P) (h' := h') (t' := tk) (by rw [hP]; trivial) (.inl rfl) (fun b u hb z => hx b u hb z) ⟨_, htab'.2⟩ (tab_ok htab'.2 htr)
    rw [upd_self hP] at this
    exact this
end
section
variable {X : Cx} {AA : Around} {s0 : Shared} {H0 : Hp} {cenv : Env} {fp : List Addr} {it : Addr} {tn : Nat → Heap → Prop} {J : It} {elt tg iter : Expr} {ifs : List Expr} {scope : Scope} {pos : Pos} {g : TG} {tt : TT} {te : TE} {vs : List Nat}
  {σw : St} {W : Nat → Nat → Hp → Prop} {Yl : Nat → Nat → V → Hp → Prop} {En : Hp → Prop} {pl : List (Addr × Obj)} {gn : Nat}
abbrev cS (elt tg iter : Expr) (ifs : List Expr) (scope : Scope) (pos : Pos) (it : Addr) (cenv : Env) : Code := .compStart (.GeneratorExp elt [⟨tg, iter, ifs, 0⟩] scope pos) 0 (.ref it) .none cenv
theorem seg_gs {M : Model} {R : GenEnd} {Y : Protocol} {n : Nat} {s₀ s : Shared} (hM : M = model X.prog X.w) (T : Turn X.prog X.w X.K tg J fp it tn) (st : tn 0 s.heap) (loop : Seg M AA R Y n s₀ (cL elt tg iter ifs scope pos it cenv) (M.den (cL elt tg iter ifs scope pos it cenv)) [] s) :
    Seg M AA R Y n s₀ (cS elt tg iter ifs scope pos it cenv) (M.den (cS elt tg iter ifs scope pos it cenv)) [] s := by
  subst hM
  show Seg _ AA _ _ _ s₀ _ ((compStart (.GeneratorExp elt [⟨tg, iter, ifs, 0⟩] scope pos) 0 (.ref it) .none cenv).onRaise (leaving cenv)) [] s
  unfold compStart
  rw [Sem.onRaise_eq_wrap]
  show Seg _ AA _ _ _ s₀ _ ((ask >>= _).wrap _ _ _ _) [] s
  refine seg_bind_wrap (wpAny_askSetting ?_)
  split
  · exact seg_again rfl loop
  · first
      | exact seg_bind_wrap (wpAny_rule (seg_bind_wrap (wpAny_standAt (seg_bind_wrap (T.self _ 0 s _ _ st (seg_again rfl loop))))))
      | (refine seg_bind_wrap (wpAny_rule ?_); show Seg _ AA _ _ _ s₀ _ ((standAt iter.pos >>= _).wrap _ _ _ _) [] s; exact seg_bind_wrap (wpAny_standAt (seg_bind_wrap (T.self _ 0 s _ _ st (seg_again rfl loop)))))
theorem bare_set {s : Shared} {g : Nat} {x : GenState} (h : AllBare s.gens) (hb : x.bare = true) (hg : g < s.gens.size) : AllBare (s.setGen g x).gens := by
  have e : (s.setGen g x).gens[g]? = some x := by simp [Shared.setGen, hg]
  exact GenOnlyQ.bare (GenOnlyQ.of (GenOnly.setGen s g x) e hb) h
/-- what a generator that stands still is worth -/
def Goeson (Xg : Cx) (AA : Around) (pl : List (Addr × Obj)) (fp : List Addr) (tn : Nat → Heap → Prop) (σw : St) (W : Nat → Nat → Hp → Prop) (Yl : Nat → Nat → V → Hp → Prop) (En : Hp → Prop) (gn n : Nat) (s : Shared) : Prop :=
  ∃ gs, s.gens[gn]? = some gs ∧ ∀ s'' : Shared, s''.heap = s.heap → s''.os = s.os → AllBare s''.gens → gn < s''.gens.size → gs.Goes (model Xg.prog Xg.w) AA (GenR Xg pl σw En gn) (GenP Xg pl fp tn σw W Yl gn) n (.send .none) s''
theorem gen_next {Xg : Cx} {A1 : Around} {a : Addr} {n : Nat} {s : Shared} {H : Hp} {E : Value → Shared → Prop} (hh : A1.handled = none) (hroom : A1.depth < recursionLimit) (I : Inv Xg pl σw H s) (hg : s.heap.IsGen a gn) (G : Goeson Xg A1.in1 pl fp tn σw W Yl En gn n s) :
    wpAny (model Xg.prog Xg.w) A1 (pyNext (.ref a)) (fun r s1 => match r with
      | none => ∃ H', Inv Xg pl σw H' s1 ∧ En H'
      | some v => ∃ (i m : Nat) (y : V) (H' : Hp), RelV y v ∧ Inv Xg pl σw H' s1 ∧ m ≤ n - 1 ∧ Yl i m y H' ∧ ∀ m', m' < m → W (i + 1) m' H' → Goeson Xg A1.in1 pl fp tn σw W Yl En gn (n - 1) s1) E s := by
  obtain ⟨gs, hgs, hgo⟩ := G
  have hlt : gn < s.gens.size := by
    rcases Nat.lt_or_ge gn s.gens.size with h' | h'
    · exact h'
    · rw [Array.getElem?_eq_none h'] at hgs; cases hgs
  have b1 : AllBare (s.setGen gn .running).gens := bare_set I.bare rfl hlt
  refine wpAny_pyNext_genexpQ (P := fun _ _ s₁ => ∃ H', Inv Xg pl σw H' s₁ ∧ En H' ∧ gn < s₁.gens.size) hh I.nolimit hroom hg hgs (hgo _ rfl rfl b1 (by rw [size_setGen]; exact hlt)) (fun v s₁ gs' hb hv => ?_) (fun s₁ hp h' hk => ?_)
  · obtain ⟨i, m, y, H', ry, I', t', nf, g', hm, hy, kap⟩ := hv
    have I2 : Inv Xg pl σw H' (s₁.setGen gn gs') := I'.gens rfl rfl (bare_set I'.bare hb g')
    refine ⟨i, m, y, H', ry, I2, hm, hy, fun m' hm' w' => ⟨gs', by simp [Shared.setGen, g'], fun s'' e1 e2 e3 e4 => ?_⟩⟩
    have := kap m' s'' hm' w' (e1.trans rfl) (e2.trans rfl) e3 e4
    cases n with
    | zero => exact this.elim
    | succ n => exact this
  · obtain ⟨H', I', en, g'⟩ := hp
    have I2 : Inv Xg pl σw H' (s₁.setGen gn .finished) := I'.gens rfl rfl (bare_set I'.bare rfl g')
    exact ⟨H', I2.kept (t' := s₁.toks) hk, en⟩
/-- all(..), any(..) over it: c tells which (true: all, false: any) -/
theorem all_gl {Xg : Cx} {A : Around} {a : Addr} {Qf : Hp → Prop} (hh : A.handled = none) (hroom : A.depth < recursionLimit) (hpin : ∀ {σ : St} {H : Hp} {s : Shared}, Inv Xg pl σ H s → s.heap.IsGen a gn)
    (hY : ∀ i m y H, Yl i m y H → ∃ c, y = V.bl c ∧ if c = true then ∃ m', m' < m ∧ W (i + 1) m' H else Qf H) :
    ∀ (n : Nat) (s : Shared) (H : Hp), Inv Xg pl σw H s → Goeson Xg A.in1.in1 pl fp tn σw W Yl En gn n s →
      codeAny (model Xg.prog Xg.w) A (.builtin "all.loop" ⟨[.ref a], []⟩) (fun r s' => ∃ c H', r = .ok (.ret (.bool c)) ∧ Inv Xg pl σw H' s' ∧ if c = true then En H' else Qf H') s := by
  intro n
  induction n using Nat.strongRecOn with
  | ind n ih =>
  intro s H I G
  refine codeAny_builtin F.entry_all_loop ?_
  rw [Around.under_plainId F.plain_all_loop _]
  show wpAny _ A.in1 (pyNext (.ref a) >>= _) _ _ s
  refine wpAny_bind (thn (gen_next (A1 := A.in1) hh hroom I (hpin I) G) fun r s1 h1 => ?_)
  cases r with
  | none =>
    obtain ⟨H', I', en⟩ := h1
    exact wpAny_bind (wpAny_rule (wpAny_pure ⟨true, H', rfl, I', en⟩))
  | some v =>
    obtain ⟨i, m, y, H', ry, I', hm, hy, go⟩ := h1
    obtain ⟨c, rfl, q⟩ := hY i m y H' hy
    have ry : v = Value.bool c := ry
    subst ry
    refine wpAny_bind (wpAny_holding (wpAny_truthy_bool ?_))
    refine wpAny_bind (wpAny_letGo ?_)
    cases c with
    | true =>
      simp only [if_true] at q ⊢
      obtain ⟨m', hm', w'⟩ := q
      exact wpAny_pure ⟨plainId_quiet F.plain_all_loop _, ih (n - 1) (by omega) s1 H' I' (go m' hm' w')⟩
    | false =>
      simp only [Bool.false_eq_true, if_false] at q ⊢
      exact wpAny_bind (wpAny_rule (wpAny_pure ⟨false, H', rfl, I', by simpa using q⟩))
end
end L2

set_option Elab.async false
set_option linter.all false
set_option maxRecDepth 100000
set_option maxHeartbeats 4000000
namespace L2
open PySem PySem.Spec PyProof.Rows
section
variable {X : Cx} {elt tg iter : Expr} {ifs : List Expr} {scope : Scope} {own : List (Str × Nat)} {gpos : Pos} {wi : TI} {g : TG} {tt : TT} {te : TE} {c P : Addr} {k : Nat}
abbrev gAr (A : Around) (elt tg iter : Expr) (ifs : List Expr) (scope : Scope) (gpos : Pos) (it : Addr) (cenv : Env) : Around := A.in1.in1.over (cL elt tg iter ifs scope gpos it cenv) []
theorem gAr_frames {A : Around} {it : Addr} {cenv : Env} {l : List Env} (h : A.frames = some l) : (gAr A elt tg iter ifs scope gpos it cenv).frames = some (cenv :: l) := by
  show pushEnvs [cenv] A.frames = _
  rw [h]; rfl
theorem gAr_room {A : Around} {it : Addr} {cenv : Env} (hr : Room (k + 1) A) : Room k (gAr A elt tg iter ifs scope gpos it cenv) := by
  have h1 := hr.dp
  have h2 := hr.un
  refine ⟨hr.hd, ?_, ?_⟩
  · show A.depth + 0 + 1 + 3 * k + 5 < _
    omega
  · show A.units + 1 + 1 + 0 + 3 + 16 * k + 200 < _
    omega
/-- what stands when a generator expression has been made -/
structure GenMade (X : Cx) (pins : List (Addr × Obj)) (σ : St) (elt tg iter : Expr) (ifs : List Expr) (scope : Scope) (own : List (Str × Nat)) (gpos : Pos) (R : It → Hp → Prop) (a : Addr) (s5 : Shared) (it : Addr) (fp : List Addr) (tn : Nat → Heap → Prop) (J : It) (H1 : Hp) (gn : Nat) (gobj : Obj) (s4 : Shared) (cenv : Env) : Prop where
  T : Turn X.prog X.w X.K tg J fp it tn
  r : R J H1
  i4 : Inv X pins σ H1 s4
  f4 : ∀ b ∈ fp, FpOk X pins H1 b
  ce : ∃ code, cenv = genEnv scope (cloFrom X.env.cells scope.names []) s4.heap.objs.size code builtinsNs X.env
  i5 : Inv (X.gblk (gAr X.A elt tg iter ifs scope gpos it cenv) s4 H1 cenv fp) [(a, gobj)] (wipe σ (own.map (·.2))) H1 s5
  st : tn 0 s5.heap
  gs : s5.gens[gn]? = some (.fresh (cS elt tg iter ifs scope gpos it cenv))
  ob : ∃ nm qn, gobj.cls = .type "generator" ∧ gobj.data = .fields #[.int gn 0, nm, qn] ∧ gobj.slots = #[]
  af : a ∉ fp
theorem gen_make {pins : List (Addr × Obj)} {σ : St} {H : Hp} {s : Shared} {R : It → Hp → Prop} (hc : X.calm = true) (hN : X.N.Nodup) (hr : Room k X.A) (I : Inv X pins σ H s) (hi : PI X tg iter wi) (ok : BlkOk X.N X.env.scope scope own) (hcell : ∀ y ∈ scope.names, y.2 ≠ .cell)
    (h0 : scope.names.lookup (".0" : Str) = some NameKind.local) (hco : scope.isCoroutine = false) (hcode : X.env.code = .ref c) (hC : CodeAt X.base c P) (hM : ∃ bm ob, BMod X.base mainGlobals X.mg bm ob)
    (h : wi σ H fun J H1 => H1 P = some (tabO P) ∧ R J H1) (hs : ∀ x, genFold iter X.env x = pure x) :
    wpAny (model X.prog X.w) X.A (eval (.GeneratorExp elt [⟨tg, iter, ifs, 0⟩] scope gpos) X.env) (fun u s5 => ∃ a it fp tn J H1 gn gobj s4 cenv, u = .ref a ∧ GenMade X pins σ elt tg iter ifs scope own gpos R a s5 it fp tn J H1 gn gobj s4 cenv) X.xe s := by
  have hfree : ∀ y ∈ scope.names, y.2 = .free → ∃ c, X.env.cells.lookup y.1 = some c := fun y hy e => by
    rcases ok.free y hy e with k | k
    · exact I.ok.has _ (.inl k)
    · exact I.ok.has _ (.inr k)
  refine wpAny_GeneratorExp_make hco (closure_ok hfree) hcell h0 ok.kind hr.depth (thn (hi pins s σ H _ I h) fun xv s1 hx => thn hx fun itv s2 h2 => ?_) hs
  obtain ⟨it, fp, tn, J, H2, e, I2, T, st2, f2, hP, q⟩ := h2
  subst e
  refine ⟨I2.nolimit, gcode_ok I2 hcode hC hP fun code h3 tk3 I3 hsz3 k3 => ?_⟩
  obtain ⟨bm, ob, M⟩ := hM
  refine wpAny_builtinsFor (by rw [I2.ok.glob]; exact M.ns.keeps I3.bk) M.name M.ne (I3.bk _ _ M.obj) M.cls M.dict M.data ?_
  intro h' hn' hs'
  have nP : ∀ b ∈ fp, b ≠ P := fun b hb z => by
    have := (f2 b hb).1
    rw [z, hP] at this; cases this
  have st3 : tn 0 h3 := T.keep _ _ _ st2 fun b hb o e => k3 b o (nP b hb) e
  have fps : ∀ b ∈ fp, b < h3.objs.size := fun b hb => by
    obtain ⟨o, e, _⟩ := T.obj _ _ st3 b hb
    exact Heap.lt_size e
  have hsz' : h'.objs.size = h3.objs.size + 1 := by
    rw [hs'.1]
    show (h3.push _).objs.size = _
    rw [Heap.size_push]
  have kp1 : ∀ b o, h3.get? b = some o → h'.get? b = some o := fun b o e => hs'.extBut b o (Nat.ne_of_lt (Heap.lt_size e)) (Heap.get?_push_of_some _ e)
  refine ⟨h'.objs.size, it, fp, tn, J, H2, s2.gens.size, { cls := .type "generator", data := .fields #[.int s2.gens.size 0, .str "<genexpr>" (tk3 + 1), .str (X.env.qual ++ "<genexpr>") (tk3 + 1 + 1)] }, { s2 with heap := h3, toks := tk3 }, _, rfl, T, q, I3, f2, ⟨code, rfl⟩, ?_, ?_, ?_, ⟨_, _, rfl, rfl, rfl⟩, ?_⟩
  · refine gen_start (code := code) I3 ok hcell hN (fun b hb => ⟨f2 b hb, fps b hb⟩) (gAr_frames I2.ok.frames) (fun z => I2.ok.hd z) rfl rfl ?_ (fun b o e => Heap.get?_push_of_some _ (kp1 b o e)) (hn'.push _) (Heap.get?_push_size _ rfl) ?_ fun v z => nomatch z
    · exact AllBare.push I2.bare rfl
    · show h3.objs.size < h'.objs.size
      omega
  · exact T.keep _ _ _ st3 fun b hb o e => Heap.get?_push_of_some _ (kp1 b o e)
  · exact Array.getElem?_push_size ..
  · intro hb
    have h1 : h'.objs.size < h3.objs.size := fps _ hb
    rw [hsz'] at h1
    exact absurd h1 (Nat.not_lt.mpr (Nat.le_succ _))
theorem GenMade.isGen {pins : List (Addr × Obj)} {σ : St} {R : It → Hp → Prop} {a : Addr} {s5 : Shared} {it : Addr} {fp : List Addr} {tn : Nat → Heap → Prop} {J : It} {H1 : Hp} {gn : Nat} {gobj : Obj} {s4 : Shared} {cenv : Env}
    (G : GenMade X pins σ elt tg iter ifs scope own gpos R a s5 it fp tn J H1 gn gobj s4 cenv) {Xg : Cx} {σ' : St} {H' : Hp} {s' : Shared} (I : Inv Xg [(a, gobj)] σ' H' s') : s'.heap.IsGen a gn := by
  obtain ⟨nm, qn, h1, h2, h3⟩ := G.ob
  exact ⟨gobj, nm, qn, (I.pin (a, gobj) (List.mem_append_right _ List.mem_cons_self)).1, h1, h2, h3⟩
theorem GenMade.back {pins : List (Addr × Obj)} {σ : St} {R : It → Hp → Prop} {a : Addr} {s5 : Shared} {it : Addr} {fp : List Addr} {tn : Nat → Heap → Prop} {J : It} {H1 : Hp} {gn : Nat} {gobj : Obj} {s4 : Shared} {cenv : Env}
    (G : GenMade X pins σ elt tg iter ifs scope own gpos R a s5 it fp tn J H1 gn gobj s4 cenv) {A' : Around} {pl : List (Addr × Obj)} {σ' : St} {H' : Hp} {s' : Shared} (I : Inv (X.gblk A' s4 H1 cenv fp) pl σ' H' s') : Inv X pins σ H' s' :=
  G.i4.call' (ch := fp) I.os I.base I.hok I.bare fun b hb => ⟨(G.f4 b hb).2.2.2.1, (G.f4 b hb).2.1, (G.f4 b hb).2.2.2.2.1, (G.f4 b hb).2.2.2.2.2⟩
/-- its turns -/
theorem GenMade.goes {pins : List (Addr × Obj)} {σ : St} {R : It → Hp → Prop} {a : Addr} {s5 : Shared} {it : Addr} {fp : List Addr} {tn : Nat → Heap → Prop} {J : It} {H1 : Hp} {gn : Nat} {gobj : Obj} {s4 : Shared} {cenv : Env}
    (G : GenMade X pins σ elt tg iter ifs scope own gpos R a s5 it fp tn J H1 gn gobj s4 cenv) {W : Nat → Nat → Hp → Prop} {Yl : Nat → Nat → V → Hp → Prop} {En : Hp → Prop} {m0 : Nat} (hc : X.calm = true) (hco : scope.isCoroutine = false)
    (pg : PG (X.gblk (gAr X.A elt tg iter ifs scope gpos it cenv) s4 H1 cenv fp) tg g) (pt : PTs (X.gblk (gAr X.A elt tg iter ifs scope gpos it cenv) s4 H1 cenv fp) ifs tt) (pe : PE (X.gblk (gAr X.A elt tg iter ifs scope gpos it cenv) s4 H1 cenv fp) elt te)
    (w0 : W 0 m0 H1) (turn : ∀ i m H, W i m H → (J.stop i H ∧ En H) ∨ (J.go i H ∧ ∃ Nx : Hp → Prop, (∀ H', Nx H' → ∃ m', m' < m ∧ W (i + 1) m' H') ∧ ∀ x H', J.yld i H x H' → g x (wipe σ (own.map (·.2))) H' fun σ2 H2 => wipe σ2 (own.map (·.2)) = wipe σ (own.map (·.2)) ∧ tt σ2 H2 fun b H3 =>
      if b = true then te σ2 H3 fun y H4 => Yl i m y H4 else Nx H3)) :
    Goeson (X.gblk (gAr X.A elt tg iter ifs scope gpos it cenv) s4 H1 cenv fp) X.A.in1.in1 [(a, gobj)] fp tn (wipe σ (own.map (·.2))) W Yl En gn (m0 + 1) s5 := by
  refine ⟨_, G.gs, fun s'' e1 e2 e3 e4 => ⟨rfl, seg_gs rfl G.T (by rw [e1]; exact G.st) ?_⟩⟩
  have nf : ∀ b ∈ fp, H1 b = none := fun b hb => (G.f4 b hb).1
  have hco' : cenv.scope.isCoroutine = false := by
    obtain ⟨code, e⟩ := G.ce
    rw [e]; exact hco
  have af := G.af
  have hpl : ∀ p ∈ [(a, gobj)], p.1 ∉ fp := fun p hp z => by
    have hp : p = (a, gobj) := by simpa using hp
    rw [hp] at z
    exact af z
  exact seg_gl (AA := X.A.in1.in1) (vs := own.map (·.2)) hc G.T hco' pg pt pe hpl turn m0 (m0 + 1) 0 s'' s'' H1 (Nat.lt_succ_self _) (G.i5.gens e1 e2 e3) (by rw [e1]; exact G.st) nf e4 w0
end
end L2

set_option Elab.async false
set_option linter.all false
set_option maxRecDepth 100000
set_option maxHeartbeats 4000000
namespace L2
open PySem PySem.Spec PyProof.Rows
section
variable {X : Cx} {elt tg iter : Expr} {ifs : List Expr} {scope : Scope} {own : List (Str × Nat)} {gpos pos np : Pos} {wi : TI} {g : TG} {tt : TT} {te : TE} {c P : Addr} {k : Nat}
/-- all(e for x in ..) -/
def tAllG (P : Addr) (wi : TI) (g : TG) (tt : TT) (te : TE) (vs : List Nat) : TE := fun σ H Q => wi σ H fun J H1 => H1 P = some (tabO P) ∧ ∃ W : Nat → Nat → Hp → Prop, (∃ m, W 0 m H1) ∧ ∀ i m H, W i m H →
  (J.stop i H ∧ Q (.bl true) H) ∨ (J.go i H ∧ ∃ Nx : Hp → Prop, (∀ H', Nx H' → ∃ m', m' < m ∧ W (i + 1) m' H') ∧ ∀ x H', J.yld i H x H' → g x (wipe σ vs) H' fun σ2 H2 => wipe σ2 vs = wipe σ vs ∧ tt σ2 H2 fun b H3 =>
    if b = true then te σ2 H3 fun y H4 => ∃ c, y = .bl c ∧ if c = true then ∃ m', m' < m ∧ W (i + 1) m' H4 else Q (.bl false) H4 else Nx H3)
theorem pe_allg (hr : Room (k + 1) X.A) (hg' : Gl X "all") (hm : X.mg "all" = none) (hcode : X.env.code = .ref c) (hC : CodeAt X.base c P) (hM : ∃ bm ob, BMod X.base mainGlobals X.mg bm ob) (hc : X.calm = true) (hN : X.N.Nodup) (hi : PI X tg iter wi) (ok : BlkOk X.N X.env.scope scope own)
    (hg : ∀ (A' : Around) (s : Shared) (H : Hp) (C : Addr) (cl : List (Str × Addr)) (code : Value) (fp : List Addr), PG (X.gblk A' s H (genEnv scope cl C code builtinsNs X.env) fp) tg g)
    (ht : ∀ (A' : Around) (s : Shared) (H : Hp) (C : Addr) (cl : List (Str × Addr)) (code : Value) (fp : List Addr), Room k A' → PTs (X.gblk A' s H (genEnv scope cl C code builtinsNs X.env) fp) ifs tt)
    (he : ∀ (A' : Around) (s : Shared) (H : Hp) (C : Addr) (cl : List (Str × Addr)) (code : Value) (fp : List Addr), Room k A' → PE (X.gblk A' s H (genEnv scope cl C code builtinsNs X.env) fp) elt te)
    (hcell : ∀ y ∈ scope.names, y.2 ≠ .cell := by decide) (h0 : scope.names.lookup (".0" : Str) = some NameKind.local := by rfl) (hco : scope.isCoroutine = false := by rfl) (hs : ∀ x, genFold iter X.env x = pure x := by intro _; rfl)
    (hse : starEach [(.GeneratorExp elt [⟨tg, iter, ifs, 0⟩] scope gpos : Expr)] X.env = (false, eval (.GeneratorExp elt [⟨tg, iter, ifs, 0⟩] scope gpos) X.env) :: starEach [] X.env := by rfl) :
    PE X (.Call (.Name "all" np) [.GeneratorExp elt [⟨tg, iter, ifs, 0⟩] scope gpos] [] pos) (tAllG P wi g tt te (own.map (·.2))) := by
  intro pins s σ H Q I h
  refine wpAny_Call_Name_kw (ld_blt I hg' hm (show bootBuiltins "all" = some (.builtin "all") by decide +kernel) ?_)
  refine PyProof.Rows.callWith_builtin1 ?_ hse rfl
  rw [hse]
  refine Calls.spliced_cons (thn (gen_make (own := own) hc hN hr I hi ok hcell h0 hco hcode hC hM h hs) fun u s5 ⟨a, it, fp, tn, J, H1, gn, gobj, s4, cenv, e, G⟩ => Calls.spliced_nil ?_)
  subst e
  obtain ⟨W, ⟨m0, w0⟩, turn⟩ := G.r
  obtain ⟨code, ec⟩ := G.ce
  have hr' : Room k (gAr X.A elt tg iter ifs scope gpos it cenv) := gAr_room hr
  have go := G.goes (Yl := fun i m y H => ∃ c, y = V.bl c ∧ if c = true then ∃ m', m' < m ∧ W (i + 1) m' H else Q (.bl false) H) (En := fun H => Q (.bl true) H) hc hco (by rw [ec]; exact hg _ _ _ _ _ _ _) (by have := ht _ s4 H1 s4.heap.objs.size (cloFrom X.env.cells scope.names []) code fp hr'; rw [← ec] at this; exact this)
    (by have := he _ s4 H1 s4.heap.objs.size (cloFrom X.env.cells scope.names []) code fp hr'; rw [← ec] at this; exact this) w0 turn
  refine call_function_tree F.kind_all F.plain_all F.entry_all (F.args_all1 _) ?_
  unfold Builtin.«all»
  refine wpAny_bind (m := oneArg "all" _) (wpAny_pure ?_)
  refine wpAny_bind (wpAny_pyIter_gen (G.isGen G.i5) ?_)
  refine wpAny_pure ⟨plainId_quiet F.plain_all_loop _, codeAny_mono (all_gl (Xg := X.gblk (gAr X.A elt tg iter ifs scope gpos it cenv) s4 H1 cenv fp) (Qf := fun H => Q (.bl false) H) (A := X.A) hr.hd hr.depth (fun I => G.isGen I) (fun _ _ _ _ z => z) (m0 + 1) s5 H1 G.i5 go) fun r s' hq => ?_⟩
  obtain ⟨b, H', rfl, I', q⟩ := hq
  show EP X pins σ Q (.bool b) s'
  refine ⟨.bl b, H', G.back I', rfl, ?_⟩
  cases b with
  | true => simpa using q
  | false => simpa using q
end
end L2

set_option Elab.async false
set_option linter.all false
set_option maxRecDepth 100000
set_option maxHeartbeats 4000000
namespace L2
open PySem PySem.Spec PyProof.Rows
section
variable {X : Cx}
def CDivB (i j : Int) : Prop := 0 < j ∧ j.natAbs.log2 < 9000
theorem op_fdivB : OpR X (binaryOp .FloorDiv) (rI CDivB fun i j => .int (i / j)) := opI fun i j _ _ _ _ _ hc q => by
  have h1 : (0 : Int) < j := hc.1
  exact floordiv_int (by omega) (by rw [Int.fdiv_eq_ediv_of_nonneg i (by omega)]; exact q) (.inl (PyProof.noPylong_of_log2 hc.2))
theorem isnot_bool_gen {M : Model} {A : Around} {E : Value → Shared → Prop} {s : Shared} {Q : Value → Shared → Prop} {v : Value} {c : Bool} (hv : ∀ id, v ≠ .builtin id) (h : Q (.bool (!(v == .bool c))) s) : wpAny M A (compareOp .IsNot v (.bool c)) Q E s := by
  cases v <;> first | exact wpAny_pure h | exact absurd rfl (hv _)
theorem rel_nb {x : V} {v : Value} (r : RelV x v) : ∀ id, v ≠ .builtin id := fun id e => by
  subst e
  cases x with
  | non => exact nomatch (show Value.builtin id = Value.none from r)
  | bl b => exact nomatch (show Value.builtin id = Value.bool b from r)
  | int i => exact nomatch (show ∃ t, Value.builtin id = Value.int i t from r)
  | str i => exact nomatch (show ∃ t, Value.builtin id = Value.str i t from r)
  | byt i => exact nomatch (show ∃ t, Value.builtin id = Value.bytes i t from r)
  | flt i => exact nomatch (show ∃ t, Value.builtin id = Value.float i t from r)
  | ref a => exact nomatch (show Value.builtin id = Value.ref a from r)
  | ty n => exact nomatch (show Value.builtin id = Value.type n from r)
theorem rel_beq_bool {x : V} {v : Value} {c : Bool} (r : RelV x v) : (v == Value.bool c) = decide (x = V.bl c) := by
  cases x with
  | bl b => cases (show v = Value.bool b from r); cases b <;> cases c <;> rfl
  | non => cases (show v = Value.none from r); rfl
  | int i => obtain ⟨t, rfl⟩ := (show ∃ t, v = Value.int i t from r); rfl
  | str i => obtain ⟨t, rfl⟩ := (show ∃ t, v = Value.str i t from r); rfl
  | byt i => obtain ⟨t, rfl⟩ := (show ∃ t, v = Value.bytes i t from r); rfl
  | flt i => obtain ⟨t, rfl⟩ := (show ∃ t, v = Value.float i t from r); rfl
  | ref a => cases (show v = Value.ref a from r); rfl
  | ty n => cases (show v = Value.type n from r); rfl
def rNotB : R2 := fun x y H Q => ∃ c, y = .bl c ∧ Q (.bl (!decide (x = .bl c))) H
theorem op_isnotB : OpR X (compareOp .IsNot) rNotB := by
  intro pins s σ H x y v u Q I rx ry h
  obtain ⟨c, rfl, q⟩ := h
  cases (show u = Value.bool c from ry)
  exact isnot_bool_gen (rel_nb rx) (fin_bl I q (congrArg not (rel_beq_bool rx).symm))
def kitT (T U : String) : Option Bool := if (Value.type T == Value.type U) = true then some true else if PySem.W.kitMeta U = true then (fastBuiltinMro T).map (·.contains (.type U)) else none
theorem kit_ty {K : PySem.W.Frag} {T U : String} {b : Bool} (h : kitT T U = some b) : PySem.W.kitOne K (.type T) (.type U) = some b := h
def rIsi (K : PySem.W.Frag) : List V → Hp → VK → Prop := fun xs H Q => ∃ x T t b, xs = [x, .ty T] ∧ TyOf K H x t ∧ PySem.W.kitOne K t (.type T) = some b ∧ Q (.bl b) H
theorem call_isi : CallR X (.builtin "isinstance") (rIsi X.K) := by
  intro pins s σ H xs us Q I r h
  obtain ⟨x, T, t, b, rfl, ty, e, q⟩ := h
  cases r with
  | cons rx r2 =>
    cases r2 with
    | cons ry r3 =>
      cases r3
      cases ry
      exact isinst_ok I rx ty e fun tk => ⟨.bl b, H, I.tok tk, rfl, q⟩
theorem k_int_str : kitT "int" "str" = some false := by decide +kernel
theorem k_int_tuple : kitT "int" "tuple" = some false := by decide +kernel
theorem k_bool_str : kitT "bool" "str" = some false := by decide +kernel
theorem k_bool_tuple : kitT "bool" "tuple" = some false := by decide +kernel
theorem k_str_str : kitT "str" "str" = some true := by decide +kernel
theorem k_str_tuple : kitT "str" "tuple" = some false := by decide +kernel
theorem k_non_str : kitT "NoneType" "str" = some false := by decide +kernel
theorem k_non_tuple : kitT "NoneType" "tuple" = some false := by decide +kernel
theorem k_tuple_str : kitT "tuple" "str" = some false := by decide +kernel
theorem k_tuple_tuple : kitT "tuple" "tuple" = some true := by decide +kernel
end
end L2

set_option Elab.async false
set_option linter.all false
set_option maxRecDepth 100000
set_option maxHeartbeats 4000000
namespace L2
open PySem PySem.Spec PyProof.Rows
/-- the tables of the codes of the defs that bear these names -/
def TabsOf (names : List Str) (mg : Str → Option Value) (base : Heap) (H : Hp) : Prop :=
  ∀ n ∈ names, ∀ f, mg n = some (.ref f) → ∃ o fd c P, base.get? f = some o ∧ o.data = .func fd ∧ fd.code = .ref c ∧ CodeAt base c P ∧ H P = some (tabO P)
theorem TabsOf.same {names : List Str} {mg : Str → Option Value} {base : Heap} {H H' : Hp} (t : TabsOf names mg base H) (h : Same H H') : TabsOf names mg base H' := fun n hn f hf => by
  obtain ⟨o, fd, c, P, h1, h2, h3, h4, h5⟩ := t n hn f hf
  exact ⟨o, fd, c, P, h1, h2, h3, h4, h _ _ h5⟩
theorem TabsOf.at {names : List Str} {mg : Str → Option Value} {base : Heap} {H : Hp} (t : TabsOf names mg base H) {n x qual : Str} {st : Stmt} {f : Addr} {fd : FuncData} {K : PySem.W.Frag} (hn : n ∈ names) (hf : mg n = some (.ref f)) (F : Fun K x qual st f fd) (kb : K.In base) :
    ∃ c P, fd.code = .ref c ∧ CodeAt base c P ∧ H P = some (tabO P) := by
  obtain ⟨o, fd', c, P, h1, h2, h3, h4, h5⟩ := t n hn f hf
  obtain ⟨oc, od, kV, doc, pm, an, cdv, ct, osl, e, lk, hcd⟩ := F.ex
  have := kb _ _ lk
  rw [h1] at this
  cases this
  cases h2
  exact ⟨c, P, h3, h4, h5⟩
/-- THE RULE for a def whose code object is asked for -/
theorem Fun.okC {P : Program} {w : World} {K : PySem.W.Frag} {mg : Str → Option Value} {base : Heap} {x qual : Str} {st : Stmt} {f : Addr} {fd : FuncData} {N ps : List Str} {k : Nat} {sp : Sp} (F : Fun K x qual st f fd) (S : FnScope N ps (defScope st)) (len : ∀ vs H Q E, sp vs H Q E → vs.length = ps.length)
    (hbody : ∀ (cdv : Value) (A : Around) (outer : List Env) (s : Shared) (H : Hp) (vs : List V) (Q : VK) (E : XK), fd.code = cdv → Room k (A.deeper (envOfC qual (defScope st) s.heap.objs.size f cdv)) → sp vs H Q E →
      ∃ t, PSs (cxOf CX0 P w K mg base N qual (defScope st) f cdv A outer s H E).nox (defBody st) t ∧ t { nx := fun _ H' => Q .non H', rt := Q } (start N vs) H) : FnOk P w K mg base CX0 (k + 1) f fd ps sp := by
  obtain ⟨oc, od, kV, doc, pm, an, cdv, ct, osl, rfl, lk, hcd⟩ := F.ex
  refine fn_of lk hcd S len fun A outer s H vs Q E hr hsp => ?_
  obtain ⟨t, h, q⟩ := hbody cdv A outer s H vs Q E rfl hr hsp
  exact ⟨t, h.nox, q⟩
open Classical in
theorem law_callT {P q : Program} {loose : List Str} {mean : ExcName → Option Value} {w : World} {K : PySem.W.Frag} {mg mb : Str → Option Value} {CX : CXT} {k : Nat} {fa a : Addr} {fd : FuncData} {x : Str} {sp : Heap → Sp} {s₁ : Shared} {vs : List Value} {ns : List Int} {names : List Str}
    (T : Top q loose mean mg mb s₁.heap) (KX : K.In s₁.heap) (hKc : PySem.W.kb_classed K = true) (hnm : ∀ n ∈ names, ∃ d ∈ recsOf q, d.name = n) (hg : s₁.gens = #[])
    (ha : s₁.heap.get? a = some { cls := .type "list", data := .seq vs.toArray }) (hi : IntsAre vs ns) (hl : ns.length ≤ sizeLine) (hr : Room k callerA)
    (F : ∀ base : Heap, K.In base → base.Ns mainGlobals mg → (∃ bm ob, BMod base mainGlobals mg bm ob) → FnOk P w K mg base CX k fa fd [x] (sp base)) (hbind : ∀ (s : Shared) (u : Value), BindsTo s fd ⟨[u], []⟩ [(x, u)])
    (hsp : ∀ (base : Heap) (H : Hp), TabsOf names mg base H → SqL K H a (ns.map V.int) → sp base [.ref a] H (fun v H' => v = .bl true ∧ ∀ P, H P = some (tabO P) → H' P = some (tabO P)) fun _ _ _ => False)
    (hCX : ∀ H e s', CX [] H s₁ (fun _ _ _ => False) e s' → False) :
    codeAny (model P w) callerA (.call (.ref fa) ⟨[.ref a], []⟩) (fun r s' => r = .ok (.ret (.bool true)) ∧ OldK s₁.heap s'.heap ∧ s'.os = s₁.os ∧ AllBare s'.gens) s₁ := by
  have rv := vals_ints hi
  have lenV := hi.length
  -- a table of a def's code
  let IsT : Addr → Prop := fun b => ∃ c, s₁.heap.IsCode c b #[] ∧ s₁.heap.TableAt c b #[]
  have tabGet : ∀ {b}, IsT b → s₁.heap.get? b = some { cls := .none, data := .fields #[] } := fun ⟨c, _, t⟩ => t.2
  have tabNot : ∀ {b : Addr} {o : Obj}, s₁.heap.get? b = some o → o.cls ≠ .none → ¬ IsT b := fun {b o} e hc t => by
    rw [tabGet t] at e; cases e; exact hc rfl
  have core : ∀ H : Hp, (∀ b, IsT b → H b = some (tabO b)) → (∀ b, H b = none ∨ (b = a ∧ ∃ o xs, H b = some (.frz o (.lst xs))) ∨ (IsT b ∧ H b = some (tabO b))) → SqL K H a (ns.map V.int) → HOk P w H s₁.heap → (H a ≠ none → K.lookup a = none) →
      codeAny (model P w) callerA (.call (.ref fa) ⟨[.ref a], []⟩) (fun r s' => r = .ok (.ret (.bool true)) ∧ OldK s₁.heap s'.heap ∧ s'.os = s₁.os ∧ AllBare s'.gens) s₁ := by
    intro H hT hO hS hok hK
    have base_of : ∀ {b : Addr} {o : Obj}, s₁.heap.get? b = some o → H b = none → (hidT s₁.heap H).get? b = some o := fun e n => hidT_get e n
    have free : ∀ {b : Addr} {o : Obj}, s₁.heap.get? b = some o → o.cls ≠ .none → b ≠ a → H b = none := fun {b o} e hc hne => by
      rcases hO b with z | ⟨z, _⟩ | ⟨z, _⟩
      · exact z
      · exact absurd z hne
      · exact absurd z (tabNot e hc)
    have noA : ∀ {b : Addr} {o : Obj} {es : Array DictEntry} {ep : Nat}, s₁.heap.get? b = some o → o.data = .dict es ep → H b = none := fun {b o es ep} e d => by
      rcases hO b with z | ⟨z, _⟩ | ⟨z, _⟩
      · exact z
      · subst z
        rw [ha] at e; cases e
        have d' : Data.seq vs.toArray _ = Data.dict es ep := d
        cases d'
      · rw [tabGet z] at e; cases e
        have d' : Data.fields _ = Data.dict es ep := d
        cases d'
    have nsK : ∀ {b : Addr} {m : Str → Option Value}, s₁.heap.Ns b m → (hidT s₁.heap H).Ns b m := fun {b m} ⟨o, es, ep, e, d, r⟩ => ⟨o, es, ep, base_of e (noA e d), d, r⟩
    have hKb : K.In (hidT s₁.heap H) := fun b o e => base_of (KX b o e) (by
      have e1 := KX b o e
      have q := List.all_eq_true.mp hKc (b, o) (PySem.W.kb_mem e)
      simp only [Bool.or_eq_true, decide_eq_true_eq, beq_iff_eq] at q
      have nt : ¬ IsT b := fun t => by
        rcases q with (q | q) | q
        · exact tabNot e1 q t
        · obtain ⟨mc, ⟨o', es, ep, e2, d, _⟩, _⟩ := T.nolimit
          rw [← q, tabGet t] at e2; cases e2
          have d' : Data.fields _ = Data.dict es ep := d
          cases d'
        · obtain ⟨o', es, ep, e2, d, _⟩ := T.g
          rw [← q, tabGet t] at e2; cases e2
          have d' : Data.fields _ = Data.dict es ep := d
          cases d'
      rcases hO b with z | ⟨z, o', xs, z2⟩ | ⟨z, _⟩
      · exact z
      · subst z
        rw [hK (by rw [z2]; simp)] at e; cases e
      · exact absurd z nt)
    have hM : Mod K mg (hidT s₁.heap H) := ⟨hKb, nsK T.g, ⟨mb, nsK T.b, T.builtins⟩, let ⟨mc, h1, h2⟩ := T.nolimit; ⟨mc, nsK h1, h2⟩⟩
    have hB : ∃ bm ob, BMod (hidT s₁.heap H) mainGlobals mg bm ob := by
      obtain ⟨bm, ob, h1, h2, h3, h4, h5, h6⟩ := T.bmain
      refine ⟨bm, ob, nsK T.g, h1, h2, base_of h3 (free h3 (by rw [h4]; simp) fun z => ?_), h4, h5, h6⟩
      subst z
      rw [ha] at h3; cases h3
      exact absurd h4 (by simp)
    have tabs : TabsOf names mg (hidT s₁.heap H) H := fun n hn f hf => by
      obtain ⟨d, hd, rfl⟩ := hnm n hn
      obtain ⟨f', o, fd', c, P', h1, h2, h3, h4, h5, h6⟩ := T.tab d hd
      rw [hf] at h1; cases h1
      have hP : H P' = some (tabO P') := hT P' ⟨c, h5, h6⟩
      obtain ⟨⟨oc, vc, e1, e2, e3, e4⟩, _⟩ := id h6
      obtain ⟨oc', vc', file, tf, flags, tg, inF, text, tt, op, g1, g2, g3, g4, g5, g6, g7, _, _, _, g8⟩ := id h5
      rw [e1] at g1; cases g1
      rw [e3] at g2; cases g2
      refine ⟨o, fd', c, P', base_of h2 ?_, h3, h4, ⟨oc, vc, file, tf, flags, tg, inF, text, tt, base_of e1 (free e1 (by rw [e2]; simp) fun z => ?_), e3, g3, g4, g5, g6, g7, g8, e2, e4⟩, hP⟩
      · rcases hO f with z | ⟨z, _⟩ | ⟨z, _⟩
        · exact z
        · subst z
          rw [ha] at h2; cases h2
          have d' : Data.seq vs.toArray _ = Data.func fd' := h3
          cases d'
        · rw [tabGet z] at h2; cases h2
          have d' : Data.fields _ = Data.func fd' := h3
          cases d'
      · subst z
        rw [ha] at e1; cases e1
        exact absurd e2 (by simp)
    have e0 : Env0 P w K mg (hidT s₁.heap H) callerA [] s₁ H := ⟨rfl, hM, fun b o e => of_hidT e, Nat.le_of_eq (hidT_size _ _), trivial, fun b hb => absurd (show b ∈ ([] : List Addr) from hb) (by simp), hok, .of_eq hg⟩
    refine codeAny_mono ((F _ hKb (nsK T.g) hB).run callerA [] s₁ H ⟨[.ref a], []⟩ [.ref a] [.ref a] _ _ hr e0 (hbind s₁ (.ref a)) (.cons rfl .nil) (hsp _ H tabs hS)) fun r s' h => ?_
    cases r with
    | error e => exact (hCX H e s' h).elim
    | ok fl =>
      cases fl with
      | next => exact False.elim h
      | brk => exact False.elim h
      | cont => exact False.elim h
      | ret u =>
        obtain ⟨v, H', os, bare, un, hok', r', q⟩ := h
        obtain ⟨q', hend⟩ := q
        subst q'
        obtain rfl : u = Value.bool true := r'
        have old : ∀ b o, s₁.heap.get? b = some o → s'.heap.get? b = some o ∨ (IsT b ∧ ∃ ps, s'.heap.get? b = some { cls := .none, data := .fields ps }) := fun b o e => by
          rcases hO b with z | ⟨_, ob, xs, z⟩ | ⟨z, z2⟩
          · exact .inl (un.keep b o e z (by intro z; exact absurd (show b ∈ ([] : List Addr) from z) (by simp)) (by simp))
          · have z2 := un.frzs b ob _ z
            obtain ⟨e1, _⟩ := hok b _ z
            obtain ⟨e2, _⟩ := hok' b _ z2
            rw [e] at e1; cases e1
            exact .inl e2
          · obtain ⟨⟨ps, e1, _⟩, _⟩ := hok' b _ (hend b z2)
            exact .inr ⟨z, ps, e1⟩
        refine ⟨rfl, ⟨fun b o e => ?_, fun b o e => ?_⟩, os, bare⟩
        · rcases old b o e with z | ⟨z, ps, z2⟩
          · exact .inl z
          · obtain ⟨c, _, t⟩ := id z
            rw [tabGet z] at e; cases e
            exact .inr (.inl ⟨t.isCodeTable, rfl, #[], ps, rfl, by rw [z2]; simp⟩)
        · rcases old b o e with z | ⟨_, ps, z2⟩
          · exact ⟨o, z⟩
          · exact ⟨_, z2⟩
  have nta : ¬ IsT a := tabNot ha (by simp)
  cases hk : K.lookup a with
  | some o =>
    have e := KX a o hk
    rw [ha] at e
    cases e
    refine core (fun b => if IsT b then some (tabO b) else none) (fun b z => if_pos z) (fun b => ?_) (.inr ⟨_, vs.toArray, _, hk, rfl, rfl, rfl, by rw [List.size_toArray, lenV]; exact hl, by simpa using rv⟩) (fun b u z => ?_) fun z => ?_
    · by_cases hb : IsT b
      · exact .inr (.inr ⟨hb, if_pos hb⟩)
      · exact .inl (if_neg hb)
    · by_cases hb : IsT b
      · have z' := (if_pos hb).symm.trans z
        cases z'
        exact tab_ok (tabGet hb) trivial
      · have z' := (if_neg hb).symm.trans z
        cases z'
    · exact absurd (if_neg nta) z
  | none =>
    refine core (fun b => if b = a then some (.frz { cls := .type "list", data := .seq vs.toArray } (.lst (ns.map V.int))) else if IsT b then some (tabO b) else none) (fun b z => ?_) (fun b => ?_) (.inl (.inr ⟨{ cls := .type "list", data := .seq vs.toArray }, if_pos rfl⟩)) (fun b u z => ?_) fun _ => hk
    · have hb : b ≠ a := fun e => nta (e ▸ z)
      show (if b = a then _ else _) = _
      rw [if_neg hb, if_pos z]
    · by_cases hb : b = a
      · exact .inr (.inl ⟨hb, _, _, if_pos hb⟩)
      · by_cases ht : IsT b
        · refine .inr (.inr ⟨ht, ?_⟩)
          show (if b = a then _ else _) = _
          rw [if_neg hb, if_pos ht]
        · refine .inl ?_
          show (if b = a then _ else _) = _
          rw [if_neg hb, if_neg ht]
    · by_cases hb : b = a
      · have z' := (if_pos hb).symm.trans z
        cases z'
        subst hb
        exact ⟨ha, by rw [List.length_map]; exact hl, vs, _, rv, ha⟩
      · have z' := (if_neg hb).symm.trans z
        by_cases ht : IsT b
        · have z2 := (if_pos ht).symm.trans z'
          cases z2
          exact tab_ok (tabGet ht) trivial
        · have z2 := (if_neg ht).symm.trans z'
          cases z2
theorem walk_ofT {l : PySem.W.OpenLaw} {n k : Nat} {q : Program} {loose : List Str} {XP : (Str → Option Value) → Heap → Prop} {YP : World → Heap → Prop} {d : DefRec} {K : Params → PySem.W.Frag} {sp : (Str → Option Value) → PySem.W.Frag → Heap → Sp} {x : Str} {names : List Str}
    (hn : l.most = some n) (hn2 : n ≤ sizeLine) (hdf : d.params.defaults = []) (hr : Room k callerA)
    (hY : ∀ (w : World) (h : Heap), YP w h → (K w.params).In h) (hKc : ∀ p, PySem.W.kb_classed (K p) = true) (hnm : (names.all fun n => (recsOf q).any fun d => d.name == n) = true)
    (F : ∀ (w : World) (mg : Str → Option Value) (fa : Addr) (h : Heap), (K w.params).In h → h.Ns mainGlobals mg → mg d.name = some (.ref fa) →
      ∃ fd : FuncData, (∀ (s : Shared) (u : Value), BindsTo s fd ⟨[u], []⟩ [(x, u)]) ∧
        ∀ base : Heap, (K w.params).In base → base.Ns mainGlobals mg → (∃ bm ob, BMod base mainGlobals mg bm ob) → FnOk l.prog w (K w.params) mg base CX0 k fa fd [x] (sp mg (K w.params) base))
    (hsp : ∀ (mg : Str → Option Value) (K : PySem.W.Frag) (base : Heap) (H : Hp) (a : Addr) (ns : List Int), ns.length ≤ n → TabsOf names mg base H → SqL K H a (ns.map V.int) → sp mg K base [.ref a] H (fun v H' => v = .bl true ∧ ∀ P, H P = some (tabO P) → H' P = some (tabO P)) fun _ _ _ => False) :
    PySem.W.WalkO q loose XP YP l.row.toRowW d [] (fun f vs => PySem.call f vs) := by
  refine Att.attach_call hn hdf fun w s₀ s₁ mg mb fa o pm cd doc a vs ns G Y ho hd hcd hmg hobj hints hlen hg => ?_
  have KX := hY w _ Y
  obtain ⟨fd, hb, hF⟩ := F w mg fa _ KX G.T.g hmg
  refine law_callT (names := names) (sp := sp mg (K w.params)) G.T KX (hKc _) (fun n hn => ?_) hg hobj hints (Nat.le_trans hlen hn2) hr hF hb (fun base H hT hS => hsp mg (K w.params) base H a ns hlen hT hS) fun H e s' z => z
  have z := List.any_eq_true.mp (List.all_eq_true.mp hnm n hn)
  obtain ⟨d, hd, e⟩ := z
  exact ⟨d, hd, beq_iff_eq.mp e⟩
end L2

set_option Elab.async false
set_option linter.all false
set_option maxRecDepth 100000
set_option maxHeartbeats 4000000
namespace L2
open PySem PySem.Spec PyProof.Rows
section
variable {X : Cx}
/-- xs + ys of any two lists that are read -/
theorem op_catS : OpR X (binaryOp .Add) (fun x y H Q => ∃ l b xs zs, x = .ref l ∧ y = .ref b ∧ SqL X.K H l xs ∧ SqL X.K H b zs ∧ xs.length + zs.length ≤ sizeLine ∧ ∀ p, H p = none → Q (.ref p) (upd H p (.lst (xs ++ zs)))) := by
  intro pins s σ H x y v u Q I rx ry h
  obtain ⟨l, b, xs, zs, rfl, rfl, hH, hB, hz, q⟩ := h
  cases rx
  cases ry
  obtain ⟨its, r, pl, _⟩ := I.list hH
  obtain ⟨its2, r2, pl2, _⟩ := I.list hB
  obtain ⟨⟨cls, dd, data, sl⟩, ho, hc, n, hd⟩ := pl.isList
  obtain ⟨⟨cls2, dd2, data2, sl2⟩, ho2, hc2, n2, hd2⟩ := pl2.isList
  simp only at hc hd hc2 hd2
  subst hc hd hc2 hd2
  have e1 := r.length
  have e2 := r2.length
  have ea : its.toArray ++ its2.toArray = (its ++ its2).toArray := by simp
  refine concat_meets ⟨_, ho, rfl⟩ ⟨_, ho2, rfl⟩ noFill_list_add seq_list_add PySem.F.slot_list_add PySem.F.entry_list_add (PySem.F.args_list_add_2 _ _) (list_addW l b its.toArray its2.toArray n n2 dd dd2 sl sl2 (by simp; omega)) ⟨ho, ho2, ?_⟩
  rw [ea]
  exact ⟨.ref _, _, I.lnew (t' := s.toks) (r.append r2) (by rw [List.length_append]; omega), rfl, q _ I.fresh⟩
end
inductive IntsE : List Expr → List Int → Prop
  | nil : IntsE [] []
  | cons {i : Int} {j : Nat} {pos : Pos} {es : List Expr} {ns : List Int} : IntsE es ns → IntsE (.Constant (.int i) j pos :: es) (i :: ns)
def tVals (vs : List V) : TA := fun _ H Q => Q vs H
theorem pa_ints {X : Cx} {es : List Expr} {ns : List Int} (h : IntsE es ns) : PA X es (tVals (ns.map V.int)) := by
  induction h with
  | nil => exact pa_nil
  | cons _ ih => exact pa_cons pe_int ih
def rLenS (K : PySem.W.Frag) : List V → Hp → VK → Prop := fun xs H Q => ∃ p ys, xs = [.ref p] ∧ (SqL K H p ys ∨ SqT K H p ys) ∧ Q (.int ys.length) H
theorem call_len_sq {X : Cx} : CallR X (.builtin "len") (rLenS X.K) := call_len_seq
structure It.Over (J : It) (H : Hp) (xs : List V) : Prop where
  go : ∀ i, i < xs.length → J.go i H
  yld : ∀ i x H', J.yld i H x H' → H' = H ∧ xs[i]? = some x
  stop : J.stop xs.length H
theorem over_str (z : Str) (H : Hp) : (Its z).Over H (z.cps.toList.map fun c => V.str ⟨#[c]⟩) where
  go := fun i h => by
    rw [List.length_map] at h
    show i < z.cps.size
    simpa using h
  yld := fun i x H' y => by
    obtain ⟨e, c, hc, rfl⟩ := y
    refine ⟨e, ?_⟩
    rw [List.getElem?_map]
    have : z.cps.toList[i]? = some c := by simpa using hc
    rw [this]; rfl
  stop := by
    rw [List.length_map]
    show z.cps.size ≤ z.cps.toList.length
    simp
theorem over_tup {K : PySem.W.Frag} {H : Hp} {a : Addr} {xs : List V} (h : SqT K H a xs) : (Itt K a).Over H xs where
  go := fun i hi => ⟨xs, xs[i], h, by simp [hi]⟩
  yld := fun i x H' y => by
    obtain ⟨e, y⟩ := y
    exact ⟨e, y xs h⟩
  stop := ⟨xs, h, Nat.le_refl _⟩
theorem over_list {K : PySem.W.Frag} {H : Hp} {a : Addr} {xs : List V} (h : SqL K H a xs) : (Itl K a).Over H xs where
  go := fun i hi => ⟨xs, xs[i], h, by simp [hi]⟩
  yld := fun i x H' y => by
    obtain ⟨e, y⟩ := y
    exact ⟨e, y xs h⟩
  stop := ⟨xs, h, Nat.le_refl _⟩
theorem all_take_succ {xs : List V} {q : V → Bool} {i : Nat} {x : V} (h : xs[i]? = some x) (hp : (xs.take i).all q = true) (hx : q x = true) : (xs.take (i + 1)).all q = true := by
  obtain ⟨hi, e⟩ := List.getElem?_eq_some_iff.mp h
  rw [List.take_succ_eq_append_getElem hi, List.all_append, hp, e]
  simp [hx]
theorem all_false_of {xs : List V} {q : V → Bool} {i : Nat} {x : V} (h : xs[i]? = some x) (hx : q x = false) : xs.all q = false := by
  rw [List.all_eq_false]
  exact ⟨x, List.mem_of_getElem? h, by simp [hx]⟩
theorem allg_pure {J : It} {H : Hp} {xs : List V} {g : TG} {tt : TT} {te : TE} {vs : List Nat} {σ : St} {Q : VK} (hJ : J.Over H xs) (q : V → Bool)
    (h : ∀ (i : Nat) (x : V) (k : VK), xs[i]? = some x → k (.bl (q x)) H → g x (wipe σ vs) H fun σ2 H2 => wipe σ2 vs = wipe σ vs ∧ tt σ2 H2 fun b H3 => if b = true then te σ2 H3 k else False) (hQ : Q (.bl (xs.all q)) H) :
    ∃ W : Nat → Nat → Hp → Prop, (∃ m, W 0 m H) ∧ ∀ i m H, W i m H →
      (J.stop i H ∧ Q (.bl true) H) ∨ (J.go i H ∧ ∃ Nx : Hp → Prop, (∀ H', Nx H' → ∃ m', m' < m ∧ W (i + 1) m' H') ∧ ∀ x H', J.yld i H x H' → g x (wipe σ vs) H' fun σ2 H2 => wipe σ2 vs = wipe σ vs ∧ tt σ2 H2 fun b H3 =>
        if b = true then te σ2 H3 fun y H4 => ∃ c, y = .bl c ∧ if c = true then ∃ m', m' < m ∧ W (i + 1) m' H4 else Q (.bl false) H4 else Nx H3) := by
  refine ⟨fun i m H' => H' = H ∧ i ≤ xs.length ∧ m = xs.length - i ∧ (xs.take i).all q = true, ⟨xs.length, rfl, Nat.zero_le _, by simp, by simp⟩, ?_⟩
  rintro i m H' ⟨rfl, hi, rfl, hp⟩
  by_cases hlt : i < xs.length
  · refine .inr ⟨hJ.go i hlt, fun _ => False, fun _ z => z.elim, fun x H' y => ?_⟩
    obtain ⟨rfl, hx⟩ := hJ.yld i x H' y
    refine h i x _ hx ⟨q x, rfl, ?_⟩
    cases hq : q x with
    | true => exact iteT ⟨xs.length - (i + 1), by omega, rfl, hlt, rfl, all_take_succ hx hp hq⟩
    | false =>
      refine iteF ?_
      rw [all_false_of hx hq] at hQ
      exact hQ
  · have e : i = xs.length := by omega
    subst e
    rw [List.take_length] at hp
    rw [hp] at hQ
    exact .inl ⟨hJ.stop, hQ⟩
theorem yes {σ : L2.St} {H : Hp} {A B : Hp → Prop} (h : A H) : tYes σ H (fun b H3 => if b = true then A H3 else B H3) := by
  show (if true = true then A H else B H)
  rw [if_pos rfl]
  exact h
theorem log_small {b : Int} (h : b.natAbs < 1073741824) : b.natAbs.log2 < 9000 := by
  by_cases h0 : b.natAbs = 0
  · rw [h0]; decide +kernel
  · have h30 : b.natAbs.log2 < 30 := (Nat.log2_lt h0).mpr h
    omega
theorem test_or_and {σ : L2.St} {H : Hp} {Q : Bool → Hp → Prop} {A B C : TT} {a b c : Bool} (hA : ∀ Q : Bool → Hp → Prop, Q a H → A σ H Q) (hB : ∀ Q : Bool → Hp → Prop, Q b H → B σ H Q) (hC : ∀ Q : Bool → Hp → Prop, Q c H → C σ H Q) (q : Q ((a && b) || c) H) : tOr (tAnd A B) C σ H Q := by
  refine hA _ ?_
  cases a with
  | true =>
    refine iteT (hB _ ?_)
    cases b with
    | true => exact iteT q
    | false => exact iteF (hC _ q)
  | false => exact iteF (iteF (hC _ q))
theorem dec_nat (a b : Nat) : decide (V.int (a : Int) = V.int (b : Int)) = decide (a = b) := by
  refine decide_eq_decide.mpr ⟨fun h => ?_, fun h => by rw [h]⟩
  injection h with h
  omega
/-- all that was tracked but p is as it was -/
def KeepBut (p : Addr) (H H' : Hp) : Prop := ∀ b o, H b = some o → b ≠ p → H' b = some o
theorem KeepBut.refl (p : Addr) (H : Hp) : KeepBut p H H := fun _ _ h _ => h
theorem KeepBut.trans {p : Addr} {H H1 H2 : Hp} (a : KeepBut p H H1) (b : KeepBut p H1 H2) : KeepBut p H H2 := fun c o h n => b c o (a c o h n) n
theorem KeepBut.upd {p : Addr} {H : Hp} {o : HO} : KeepBut p H (L2.upd H p o) := fun b u h n => by rw [upd_ne n]; exact h
theorem KeepBut.new {p a : Addr} {H H1 : Hp} {o : HO} (k : KeepBut p H H1) (hn : H1 a = none) : KeepBut p H (L2.upd H1 a o) := fun b u h n => by
  have := k b u h n
  rw [upd_ne (ne_of_none this hn)]; exact this
theorem Same.new {a : Addr} {H H1 : Hp} {o : HO} (k : Same H H1) (hn : H1 a = none) : Same H (L2.upd H1 a o) := fun b u h => by
  have := k b u h
  rw [upd_ne (ne_of_none this hn)]; exact this
theorem Same.but {p : Addr} {H H1 H2 : Hp} (a : Same H H1) (hp : H p = none) (b : KeepBut p H1 H2) : Same H H2 := fun c o h => b c o (a c o h) (ne_of_none h hp)
theorem Same.keep {p : Addr} {H H1 H2 : Hp} (a : KeepBut p H H1) (b : Same H1 H2) : KeepBut p H H2 := fun c o h n => b c o (a c o h n)
end L2

set_option Elab.async false
set_option linter.all false
set_option maxRecDepth 100000
set_option maxHeartbeats 4000000
namespace Nm
open PySem
theorem pig {α : Type} [DecidableEq α] : ∀ (l t : List α), l.Nodup → (∀ x ∈ l, x ∈ t) → l.length ≤ t.length
  | [], _, _, _ => Nat.zero_le _
  | x :: r, t, h, hs => by
    have h' := List.nodup_cons.mp h
    have hx := hs x List.mem_cons_self
    have ih := pig r (t.erase x) h'.2 fun y hy => (List.mem_erase_of_ne (show y ≠ x from fun e => h'.1 (by rw [← e]; exact hy))).mpr (hs y (List.mem_cons_of_mem _ hy))
    rw [List.length_erase_of_mem hx] at ih
    have : 0 < t.length := List.length_pos_of_mem hx
    rw [List.length_cons]
    omega
def spelt : Nat → Nat → List Nat
  | _, 0 => []
  | n, k + 1 => spelt (n / 26) k ++ [97 + n % 26]
theorem spelt_len : ∀ (k n : Nat), (spelt n k).length = k
  | 0, _ => rfl
  | k + 1, n => by
    unfold spelt
    rw [List.length_append, spelt_len k]
    rfl
theorem spelt_low : ∀ (k n c : Nat), c ∈ spelt n k → 97 ≤ c ∧ c ≤ 122
  | 0, _, _, h => by cases h
  | k + 1, n, c, h => by
    unfold spelt at h
    rcases List.mem_append.mp h with h | h
    · exact spelt_low k _ c h
    · have := List.mem_singleton.mp h
      omega
theorem spelt_inj : ∀ (k a b : Nat), spelt a k = spelt b k → a % 26 ^ k = b % 26 ^ k
  | 0, a, b, _ => by rw [Nat.pow_zero, Nat.mod_one, Nat.mod_one]
  | k + 1, a, b, h => by
    unfold spelt at h
    have hl : (spelt (a / 26) k).length = (spelt (b / 26) k).length := by rw [spelt_len, spelt_len]
    obtain ⟨h1, h2⟩ := List.append_inj h hl
    have ih := spelt_inj k _ _ h1
    have h3 : a % 26 = b % 26 := by
      have := List.cons.inj h2
      omega
    rw [Nat.pow_succ, Nat.mul_comm, Nat.mod_mul, Nat.mod_mul, ih, h3]
theorem spelt_near {k n i j : Nat} (hj : j < 26 ^ k) (hij : i < j) (h : spelt (n + i) k = spelt (n + j) k) : False := by
  have e := spelt_inj k _ _ h
  have e2 : (n + j - (n + i)) % 26 ^ k = 0 := Nat.sub_mod_eq_zero_of_mod_eq e.symm
  have e3 : n + j - (n + i) = j - i := by omega
  rw [e3, Nat.mod_eq_of_lt (by omega)] at e2
  omega
/-- one turn of the search -/
def stepN (t : List (List Nat)) (k n : Nat) : Nat := if spelt n k ∈ t then n + 1 else n
def runN (t : List (List Nat)) (k : Nat) : Nat → Nat → Nat
  | 0, n => n
  | i + 1, n => stepN t k (runN t k i n)
theorem run_or (t : List (List Nat)) (k n : Nat) : ∀ i, spelt (runN t k i n) k ∉ t ∨ (runN t k i n = n + i ∧ ∀ j, j < i → spelt (n + j) k ∈ t)
  | 0 => by
    right
    exact ⟨rfl, fun j h => absurd h (Nat.not_lt_zero _)⟩
  | i + 1 => by
    rcases run_or t k n i with h | ⟨h, hj⟩
    · left
      show spelt (stepN t k (runN t k i n)) k ∉ t
      unfold stepN
      rw [if_neg h]
      exact h
    · by_cases m : spelt (n + i) k ∈ t
      · right
        refine ⟨?_, fun j hlt => ?_⟩
        · show stepN t k (runN t k i n) = _
          unfold stepN
          rw [h, if_pos m]
          omega
        · rcases Nat.lt_succ_iff_lt_or_eq.mp hlt with h' | h'
          · exact hj j h'
          · rw [h']; exact m
      · left
        show spelt (stepN t k (runN t k i n)) k ∉ t
        unfold stepN
        rw [h, if_neg m]
        exact m
theorem range_nodup_spelt (k n : Nat) : ∀ m, m ≤ 26 ^ k → ((List.range m).map fun j => spelt (n + j) k).Nodup
  | 0, _ => List.nodup_nil
  | m + 1, h => by
    rw [List.range_succ, List.map_append]
    refine L2.nd_snoc (range_nodup_spelt k n m (by omega)) fun hm => ?_
    obtain ⟨j, hj, e⟩ := List.mem_map.mp hm
    exact spelt_near (k := k) (n := n) (i := j) (j := m) (by omega) (List.mem_range.mp hj) e
theorem run_out (t : List (List Nat)) (k n : Nat) (h : t.length < 26 ^ k) : spelt (runN t k t.length n) k ∉ t := by
  rcases run_or t k n t.length with h' | ⟨h', hj⟩
  · exact h'
  · rw [h']
    intro m
    have nd := range_nodup_spelt k n (t.length + 1) (by omega)
    have := pig _ t nd fun x hx => by
      obtain ⟨j, hj', e⟩ := List.mem_map.mp hx
      rw [← e]
      rcases Nat.lt_succ_iff_lt_or_eq.mp (List.mem_range.mp hj') with h2 | h2
      · exact hj j h2
      · rw [h2]; exact m
    rw [List.length_map, List.length_range] at this
    omega
def ofL (l : List Nat) : Str := ⟨l.toArray⟩
theorem ofL_toList (l : List Nat) : (ofL l).cps.toList = l := by simp [ofL]
theorem ofL_length (l : List Nat) : (ofL l).length = l.length := by simp [ofL, Str.length]
theorem ofL_inj {a b : List Nat} (h : ofL a = ofL b) : a = b := by
  have := congrArg (fun z : Str => z.cps.toList) h
  simpa [ofL_toList] using this
theorem ofL_self (z : Str) : ofL z.cps.toList = z := by
  obtain ⟨a⟩ := z
  simp [ofL]
/-- a word -/
def Word (z : Str) : Prop := 1 ≤ z.length ∧ z.length ≤ 8 ∧ ∀ c ∈ z.cps.toList, 97 ≤ c ∧ c ≤ 122
structure Apart (l : List Str) (many : Nat) (taken : List Str) : Prop where
  len : l.length = many
  nd : l.Nodup
  word : ∀ z ∈ l, Word z
  out : ∀ z ∈ l, z ∉ taken
theorem Apart.nil (taken : List Str) : Apart [] 0 taken := ⟨rfl, List.nodup_nil, fun _ h => (nomatch h), fun _ h => (nomatch h)⟩
theorem Apart.snoc {l : List Str} {m : Nat} {taken : List Str} {z : Str} (h : Apart l m taken) (hw : Word z) (ho : z ∉ l ++ taken) : Apart (l ++ [z]) (m + 1) taken where
  len := by rw [List.length_append, h.len]; rfl
  nd := L2.nd_snoc h.nd fun q => ho (List.mem_append_left _ q)
  word := fun y hy => by
    rcases List.mem_append.mp hy with hy | hy
    · exact h.word y hy
    · rw [List.mem_singleton.mp hy]; exact hw
  out := fun y hy => by
    rcases List.mem_append.mp hy with hy | hy
    · exact h.out y hy
    · rw [List.mem_singleton.mp hy]
      exact fun q => ho (List.mem_append_right _ q)
theorem word_spelt {n k : Nat} (h1 : 1 ≤ k) (h2 : k ≤ 8) : Word (ofL (spelt n k)) := by
  refine ⟨by rw [ofL_length, spelt_len]; exact h1, by rw [ofL_length, spelt_len]; exact h2, fun c hc => ?_⟩
  rw [ofL_toList] at hc
  exact spelt_low k n c hc
def midL (b : List Nat) (at' c : Nat) : List Nat := b.take at' ++ [97 + c % 26] ++ b.drop at'
def nameL (b : List Nat) (at' first : Nat) (tail : Nat → Bool) (k : Nat) : List Nat := midL b at' (first + 5 * k) ++ (if tail k = true then [98] else [])
theorem midL_len (b : List Nat) (at' c : Nat) : (midL b at' c).length = b.length + 1 := by
  unfold midL
  rw [List.length_append, List.length_append]
  have : (b.take at').length + (b.drop at').length = b.length := by rw [← List.length_append, List.take_append_drop]
  simp only [List.length_singleton]
  omega
theorem midL_at {b : List Nat} {at' c d : Nat} (h : midL b at' c = midL b at' d) : c % 26 = d % 26 := by
  unfold midL at h
  rw [List.append_assoc, List.append_assoc] at h
  have := List.append_cancel_left h
  have := (List.cons.inj this).1
  omega
theorem nameL_inj {b : List Nat} {at' first : Nat} {tail : Nat → Bool} {j k : Nat} (hj : j < 26) (hk : k < 26) (h : nameL b at' first tail j = nameL b at' first tail k) : j = k := by
  unfold nameL at h
  have hl : (midL b at' (first + 5 * j)).length = (midL b at' (first + 5 * k)).length := by rw [midL_len, midL_len]
  have := midL_at (List.append_inj h hl).1
  omega
theorem nameL_word {b : List Nat} {at' first : Nat} {tail : Nat → Bool} {k : Nat} (hb : b.length ≤ 6) (hl : ∀ c ∈ b, 97 ≤ c ∧ c ≤ 122) : Word (ofL (nameL b at' first tail k)) := by
  unfold nameL
  have e : (midL b at' (first + 5 * k)).length = b.length + 1 := midL_len _ _ _
  refine ⟨?_, ?_, fun c hc => ?_⟩
  · rw [ofL_length, List.length_append]; omega
  · rw [ofL_length, List.length_append]
    split <;> simp <;> omega
  · rw [ofL_toList] at hc
    rcases List.mem_append.mp hc with hc | hc
    · unfold midL at hc
      rcases List.mem_append.mp hc with hc | hc
      · rcases List.mem_append.mp hc with hc | hc
        · exact hl c (List.mem_of_mem_take hc)
        · have := List.mem_singleton.mp hc
          omega
      · exact hl c (List.mem_of_mem_drop hc)
    · split at hc
      · have := List.mem_singleton.mp hc
        omega
      · cases hc
theorem names_apart {b : List Nat} {at' first : Nat} {tail : Nat → Bool} {taken : List Str} (hb : b.length ≤ 6) (hl : ∀ c ∈ b, 97 ≤ c ∧ c ≤ 122) (ht : ∀ k, ofL (nameL b at' first tail k) ∉ taken) :
    ∀ m, m ≤ 26 → Apart ((List.range m).map fun k => ofL (nameL b at' first tail k)) m taken
  | 0, _ => Apart.nil _
  | m + 1, h => by
    rw [List.range_succ, List.map_append]
    refine (names_apart hb hl ht m (by omega)).snoc (nameL_word hb hl) fun q => ?_
    rcases List.mem_append.mp q with q | q
    · obtain ⟨j, hj, e⟩ := List.mem_map.mp q
      have hj := List.mem_range.mp hj
      have := nameL_inj (by omega) (by omega) (ofL_inj e)
      omega
    · exact ht m q
end Nm

set_option Elab.async false
set_option linter.all false
set_option maxRecDepth 100000
set_option maxHeartbeats 4000000
namespace Bk
open PySem L2 Nm
abbrev MakeD := Str × List Str
abbrev KindD := Str × List MakeD
abbrev BookD := List KindD
inductive Pd {α β : Type} (R : α → β → Prop) : List α → List β → Prop
  | nil : Pd R [] []
  | cons {a : α} {b : β} {as : List α} {bs : List β} : R a b → Pd R as bs → Pd R (a :: as) (b :: bs)
namespace Pd
variable {α β : Type} {R S : α → β → Prop}
theorem mono (f : ∀ a b, R a b → S a b) : ∀ {as : List α} {bs : List β}, Pd R as bs → Pd S as bs
  | _, _, .nil => .nil
  | _, _, .cons h t => .cons (f _ _ h) (mono f t)
theorem length : ∀ {as : List α} {bs : List β}, Pd R as bs → as.length = bs.length
  | _, _, .nil => rfl
  | _, _, .cons _ t => by rw [List.length_cons, List.length_cons, length t]
theorem append : ∀ {as cs : List α} {bs ds : List β}, Pd R as bs → Pd R cs ds → Pd R (as ++ cs) (bs ++ ds)
  | _, _, _, _, .nil, h => h
  | _, _, _, _, .cons x t, h => .cons x (append t h)
theorem snoc {as : List α} {bs : List β} {a : α} {b : β} (h : Pd R as bs) (x : R a b) : Pd R (as ++ [a]) (bs ++ [b]) := h.append (.cons x .nil)
theorem take : ∀ {as : List α} {bs : List β} (n : Nat), Pd R as bs → Pd R (as.take n) (bs.take n)
  | _, _, 0, _ => by rw [List.take_zero, List.take_zero]; exact .nil
  | _, _, _ + 1, .nil => .nil
  | _, _, n + 1, .cons x t => .cons x (take n t)
theorem drop : ∀ {as : List α} {bs : List β} (n : Nat), Pd R as bs → Pd R (as.drop n) (bs.drop n)
  | _, _, 0, h => h
  | _, _, _ + 1, .nil => .nil
  | _, _, n + 1, .cons _ t => drop n t
theorem get : ∀ {as : List α} {bs : List β} {i : Nat} {a : α}, Pd R as bs → as[i]? = some a → ∃ b, bs[i]? = some b ∧ R a b
  | _, _, 0, _, .cons x _, e => by
    simp at e
    subst e
    exact ⟨_, rfl, x⟩
  | _, _, i + 1, a, .cons _ t, e => by
    obtain ⟨b, h1, h2⟩ := get (i := i) (a := a) t (by simpa using e)
    exact ⟨b, by simpa using h1, h2⟩
end Pd
/-- tuples are kept -/
def KeepT (H H' : Hp) : Prop := ∀ b xs, H b = some (.tup xs) → H' b = some (.tup xs)
theorem KeepT.refl (H : Hp) : KeepT H H := fun _ _ h => h
theorem KeepT.trans {H H1 H2 : Hp} (a : KeepT H H1) (b : KeepT H1 H2) : KeepT H H2 := fun c xs h => b c xs (a c xs h)
theorem _root_.L2.Same.keepT {H H' : Hp} (s : Same H H') : KeepT H H' := fun b xs h => s b _ h
theorem _root_.L2.KeepBut.keepT {p : Addr} {H H' : Hp} {l : List V} (k : KeepBut p H H') (hp : H p = some (.lst l)) : KeepT H H' := fun b xs h => k b _ h (ne_of h hp (fun z => by cases z))
def MakeAt (H : Hp) (v : V) (m : MakeD) : Prop := ∃ a b, v = .ref a ∧ H a = some (.tup [.str m.1, .ref b]) ∧ H b = some (.tup (m.2.map V.str))
def KindAt (H : Hp) (v : V) (k : KindD) : Prop := ∃ a b vs, v = .ref a ∧ H a = some (.tup [.str k.1, .ref b]) ∧ H b = some (.tup vs) ∧ Pd (MakeAt H) vs k.2
def BookAt (H : Hp) (v : V) (b : BookD) : Prop := ∃ a vs, v = .ref a ∧ H a = some (.tup vs) ∧ Pd (KindAt H) vs b
theorem MakeAt.keep {H H' : Hp} (k : KeepT H H') {v : V} {m : MakeD} (h : MakeAt H v m) : MakeAt H' v m := by
  obtain ⟨a, b, e, h1, h2⟩ := h
  exact ⟨a, b, e, k _ _ h1, k _ _ h2⟩
theorem KindAt.keep {H H' : Hp} (k : KeepT H H') {v : V} {m : KindD} (h : KindAt H v m) : KindAt H' v m := by
  obtain ⟨a, b, vs, e, h1, h2, h3⟩ := h
  exact ⟨a, b, vs, e, k _ _ h1, k _ _ h2, h3.mono fun _ _ q => MakeAt.keep k q⟩
theorem BookAt.keep {H H' : Hp} (k : KeepT H H') {v : V} {m : BookD} (h : BookAt H v m) : BookAt H' v m := by
  obtain ⟨a, vs, e, h1, h2⟩ := h
  exact ⟨a, vs, e, k _ _ h1, h2.mono fun _ _ q => KindAt.keep k q⟩
/-- all makes of a book, in its order -/
def makesD (b : BookD) : List MakeD := (b.map (·.2)).flatten
def kindsD (b : BookD) : List Str := b.map (·.1)
structure Wf (b : BookD) : Prop where
  len1 : 1 ≤ b.length
  len6 : b.length ≤ 6
  kw : ∀ k ∈ kindsD b, Word k
  knd : (kindsD b).Nodup
  knum : ("num" : Str) ∉ kindsD b
  mw : ∀ m ∈ makesD b, Word m.1
  mnd : ((makesD b).map (·.1)).Nodup
  m26 : (makesD b).length ≤ 26
  ms : ∀ k ∈ b, 1 ≤ k.2.length ∧ k.2.length ≤ 6
  fs : ∀ m ∈ makesD b, m.2.length ≤ 4
  fk : ∀ m ∈ makesD b, ∀ f ∈ m.2, f = "num" ∨ f ∈ kindsD b
theorem mem_makesD {b : BookD} {m : MakeD} : m ∈ makesD b ↔ ∃ k ∈ b, m ∈ k.2 := by
  unfold makesD
  rw [List.mem_flatten]
  constructor
  · rintro ⟨l, hl, hm⟩
    obtain ⟨k, hk, rfl⟩ := List.mem_map.mp hl
    exact ⟨k, hk, hm⟩
  · rintro ⟨k, hk, hm⟩
    exact ⟨k.2, List.mem_map.mpr ⟨k, hk, rfl⟩, hm⟩
theorem Wf.perm {a b : BookD} (h : Wf a) (p : b.Perm a) : Wf b := by
  have pk : (kindsD b).Perm (kindsD a) := p.map _
  have pm : (makesD b).Perm (makesD a) := (p.map _).flatten
  exact { len1 := by rw [p.length_eq]; exact h.len1
          len6 := by rw [p.length_eq]; exact h.len6
          kw := fun k hk => h.kw k (pk.mem_iff.mp hk)
          knd := pk.nodup_iff.mpr h.knd
          knum := fun z => h.knum (pk.mem_iff.mp z)
          mw := fun m hm => h.mw m (pm.mem_iff.mp hm)
          mnd := (pm.map _).nodup_iff.mpr h.mnd
          m26 := by rw [pm.length_eq]; exact h.m26
          ms := fun k hk => h.ms k (p.mem_iff.mp hk)
          fs := fun m hm => h.fs m (pm.mem_iff.mp hm)
          fk := fun m hm f hf => (h.fk m (pm.mem_iff.mp hm) f hf).imp id fun z => pk.mem_iff.mpr z }
theorem rot_perm {α : Type} (l : List α) (n : Nat) : (l.drop n ++ l.take n).Perm l := by
  have := List.perm_append_comm (l₁ := l.drop n) (l₂ := l.take n)
  rw [List.take_append_drop] at this
  exact this
def PoolAt (H : Hp) (p : Addr) : Prop := ∃ a c k, H p = some (.lst [.int a, .int c, .int k])
theorem PoolAt.keep {H H' : Hp} {p a : Addr} {o : HO} (h : PoolAt H p) (e : H' = upd H a o) (hn : H a = none) : PoolAt H' p := by
  obtain ⟨x, y, z, hp⟩ := h
  refine ⟨x, y, z, ?_⟩
  rw [e, upd_ne (ne_of_none hp hn)]
  exact hp
theorem PoolAt.other {H : Hp} {p a : Addr} {o : HO} (h : PoolAt H p) (hn : p ≠ a) : PoolAt (upd H a o) p := by
  obtain ⟨x, y, z, hp⟩ := h
  exact ⟨x, y, z, by rw [upd_ne hn]; exact hp⟩
theorem PoolAt.ne {H : Hp} {p a : Addr} (h : PoolAt H p) (hn : H a = none) : p ≠ a := by
  obtain ⟨x, y, z, hp⟩ := h
  exact ne_of_none hp hn
theorem PoolAt.keepT {H H' : Hp} {p : Addr} (h : PoolAt H p) (k : KeepBut p H H') : KeepT H H' := by
  obtain ⟨x, y, z, hp⟩ := h
  exact k.keepT hp
structure Ls (H : Hp) (p : Addr) (ls : List (Addr × HO)) (H' : Hp) : Prop where
  pool : PoolAt H' p
  keep : KeepBut p H H'
  own : ∀ q ∈ ls, H' q.1 = some q.2 ∧ H q.1 = none ∧ q.1 ≠ p
  nd : (ls.map (·.1)).Nodup
namespace Ls
variable {H H' H2 : Hp} {p : Addr} {ls : List (Addr × HO)}
theorem start (hp : PoolAt H p) : Ls H p [] H := ⟨hp, KeepBut.refl _ _, fun _ h => (nomatch h), List.nodup_nil⟩
theorem get (L : Ls H p ls H') {i : Nat} {a : Addr} {o : HO} (h : ls[i]? = some (a, o)) : H' a = some o := (L.own _ (List.mem_of_getElem? h)).1
theorem ne (L : Ls H p ls H') {i : Nat} {a : Addr} {o : HO} (h : ls[i]? = some (a, o)) : a ≠ p := (L.own _ (List.mem_of_getElem? h)).2.2
theorem none (L : Ls H p ls H') {i : Nat} {a : Addr} {o : HO} (h : ls[i]? = some (a, o)) : H a = .none := (L.own _ (List.mem_of_getElem? h)).2.1
theorem next (L : Ls H p ls H') (hp : PoolAt H2 p) (k : KeepBut p H' H2) : Ls H p ls H2 :=
  ⟨hp, L.keep.trans k, fun q hq => ⟨k _ _ (L.own q hq).1 (L.own q hq).2.2, (L.own q hq).2⟩, L.nd⟩
theorem free (L : Ls H p ls H') {c : Addr} (h : H' c = .none) : H c = .none := by
  cases q : H c with
  | none => rfl
  | some o =>
    by_cases e : c = p
    · obtain ⟨x, y, z, hp⟩ := L.pool
      rw [e, hp] at h; cases h
    · rw [L.keep c o q e] at h; cases h
theorem new (L : Ls H p ls H') {c : Addr} (o : HO) (h : H' c = .none) : Ls H p ((c, o) :: ls) (upd H' c o) := by
  refine ⟨L.pool.keep rfl h, KeepBut.new L.keep h, fun q hq => ?_, ?_⟩
  · rcases List.mem_cons.mp hq with rfl | hq
    · exact ⟨upd_same, L.free h, fun e => L.pool.ne h e.symm⟩
    · exact ⟨by rw [upd_ne (ne_of_none (L.own q hq).1 h)]; exact (L.own q hq).1, (L.own q hq).2⟩
  · show (c :: ls.map (·.1)).Nodup
    refine List.nodup_cons.mpr ⟨fun m => ?_, L.nd⟩
    obtain ⟨q, hq, e⟩ := List.mem_map.mp m
    have := (L.own q hq).1
    rw [e, h] at this; cases this
/-- a new object that is not followed -/
theorem pass (L : Ls H p ls H') {c : Addr} (o : HO) (h : H' c = .none) : Ls H p ls (upd H' c o) :=
  let M := L.new o h
  ⟨M.pool, M.keep, fun q hq => M.own q (List.mem_cons_of_mem _ hq), L.nd⟩
theorem tail {q : Addr × HO} (L : Ls H p (q :: ls) H') : Ls H p ls H' := ⟨L.pool, L.keep, fun r hr => L.own r (List.mem_cons_of_mem _ hr), (List.nodup_cons.mp L.nd).2⟩
theorem set (L : Ls H p ls H') (i : Nat) {a : Addr} {o : HO} (o' : HO) (h : ls[i]? = some (a, o)) : Ls H p (ls.set i (a, o')) (upd H' a o') := by
  have hm := List.mem_of_getElem? h
  have ha := L.own _ hm
  have e : (ls.set i (a, o')).map (·.1) = ls.map (·.1) := by
    rw [List.map_set]
    apply List.ext_getElem?
    intro j
    rw [List.getElem?_set]
    split
    · rename_i ij
      subst ij
      rw [List.getElem?_map, h]
      split
      · rfl
      · rename_i hlt
        rw [List.length_map] at hlt
        exact absurd (List.getElem?_eq_some_iff.mp h).1 hlt
    · rfl
  refine ⟨L.pool.other (Ne.symm ha.2.2), fun b u hb n => ?_, fun q hq => ?_, by rw [e]; exact L.nd⟩
  · rw [upd_ne (ne_of_none hb ha.2.1)]
    exact L.keep b u hb n
  · obtain ⟨j, hj⟩ := List.getElem?_of_mem hq
    rw [List.getElem?_set] at hj
    split at hj
    · split at hj
      · cases hj
        exact ⟨upd_same, ha.2⟩
      · cases hj
    · rename_i ij
      have hq := L.own _ (List.mem_of_getElem? hj)
      refine ⟨?_, hq.2⟩
      rw [upd_ne]
      · exact hq.1
      · intro e
        apply ij
        have h1 : (ls.map (·.1))[i]? = some a := by rw [List.getElem?_map, h]; rfl
        have h2 : (ls.map (·.1))[j]? = some a := by rw [List.getElem?_map, hj]; exact congrArg some e
        exact nd_ix L.nd h1 h2
theorem sub {ls' : List (Addr × HO)} (L : Ls H p ls H') (h : List.Sublist ls' ls) : Ls H p ls' H' := ⟨L.pool, L.keep, fun q hq => L.own q (h.subset hq), (h.map _).nodup L.nd⟩
theorem keepT_set (L : Ls H p ls H') {i : Nat} {a : Addr} {xs : List V} {o' : HO} (h : ls[i]? = some (a, .lst xs)) : KeepT H' (upd H' a o') := fun b ys hb => by
  rw [upd_ne (ne_of hb (L.get h) (fun z => by cases z))]
  exact hb
theorem keepT_new {c : Addr} {o : HO} (h : H' c = .none) : KeepT H' (upd H' c o) := (Same.new (Same.refl H') h).keepT
end Ls
theorem at_strs {l : List Str} {i : Nat} (h : i < l.length) : atI (l.map V.str) (i : Int) = some (.str l[i]) := atI_nat (by simp [h])
theorem at_nats {l : List Nat} {i : Nat} (h : i < l.length) : atI (l.map fun n : Nat => V.int ((n : Nat) : Int)) (i : Int) = some (.int ((l[i] : Nat) : Int)) := atI_nat (by simp [h])
/-- an if that sets a name, both ways on alike -/
theorem if_set {b : Bool} {te : TE} {i : Nat} {D : Ends} {σ : L2.St} {H : Hp} {m0 : V} (R : V → Hp → Prop) (hσ : σ.set i (some m0) = σ) (h1 : b = true → ∀ k : VK, (∀ v H', R v H' → k v H') → te σ H k) (h2 : b = false → R m0 H)
    (hJ : ∀ v H', R v H' → D.nx (σ.set i (some v)) H') : if b = true then tAsg te (gName i) D σ H else tNext D σ H := by
  cases b with
  | true => exact iteT (h1 rfl _ fun v H' r => hJ v H' r)
  | false =>
    refine iteF ?_
    have := hJ m0 H (h2 rfl)
    rw [hσ] at this
    exact this
theorem cutV_drop (l : List V) (n : Nat) : cutV l (some (n : Int)) none = l.drop n := by
  unfold cutV
  rw [HT.sIx_none, HT.sIx_nat]
  rcases Nat.le_total n l.length with h | h
  · rw [Nat.min_eq_left h, List.take_of_length_le (by rw [List.length_drop]; exact Nat.le_refl _)]
  · rw [Nat.min_eq_right h, List.drop_length, List.drop_of_length_le h, List.take_nil]
theorem cutV_take (l : List V) (n : Nat) : cutV l none (some (n : Int)) = l.take n := by
  unfold cutV
  rw [HT.sIx_none, HT.sIx_nat, List.drop_zero, Nat.sub_zero]
  rcases Nat.le_total n l.length with h | h
  · rw [Nat.min_eq_left h]
  · rw [Nat.min_eq_right h, List.take_length, List.take_of_length_le h]
theorem seq0 (n : Nat) : seqIndex? 0 (n + 1) = some 0 := by
  unfold seqIndex?
  simp
theorem kindsD_snoc (B : BookD) (k : KindD) : kindsD (B ++ [k]) = kindsD B ++ [k.1] := by simp [kindsD]
theorem makesD_snoc (B : BookD) (k : KindD) : makesD (B ++ [k]) = makesD B ++ k.2 := by simp [makesD]
end Bk

set_option Elab.async false
set_option linter.all false
set_option maxRecDepth 100000
set_option maxHeartbeats 4000000
namespace L2
open PySem PySem.Spec PyProof.Rows
section
variable {prog : Program} {w : World} {A : Around} {R : Result → Shared → Prop} {s : Shared} {kx vx t0 i0 t1 i1 : Expr} {ifs0 ifs1 : List Expr} {scope : Scope} {pos : Pos} {it acc : Value} {env : Env}
end

section
variable {X : Cx}
end
end L2

set_option Elab.async false
set_option linter.all false
set_option maxRecDepth 100000
set_option maxHeartbeats 4000000
namespace Bk
open PySem L2 Nm
/-- a book's makes, each with its kind -/
def pairsD (b : BookD) : List (KindD × MakeD) := (b.map fun k => k.2.map fun m => (k, m)).flatten
/-- the table of a dict holds what is due of these pairs -/
structure TabOk (H : Hp) (val : KindD → Addr → V) (kvs : List (Key × V)) (done : List (KindD × MakeD)) : Prop where
  len : kvs.length ≤ done.length
  val : ∀ p ∈ done, ∃ b, valV kvs (Sum.inr p.2.1) = some (val p.1 b) ∧ H b = some (.tup (p.2.2.map V.str))
theorem TabOk.nil {H : Hp} {val : KindD → Addr → V} : TabOk H val [] [] := ⟨Nat.le_refl _, fun _ h => (nomatch h)⟩
theorem SqT.same {K : PySem.W.Frag} {H H' : Hp} {a : Addr} {xs : List V} (e : Same H H') (h : SqT K H a xs) : SqT K H' a xs := by
  rcases h with (h | ⟨o, h⟩) | h
  · exact .inl (.inl (e _ _ h))
  · exact .inl (.inr ⟨o, e _ _ h⟩)
  · exact .inr h
theorem Pd.at {α β : Type} {R : α → β → Prop} : ∀ {as : List α} {bs : List β} (i : Nat), Pd R as bs → (hi : i < bs.length) → ∃ a, as[i]? = some a ∧ R a bs[i]
  | _, _, i, .nil, hi => absurd hi (Nat.not_lt_zero _)
  | _, _, 0, .cons x _, _ => ⟨_, rfl, x⟩
  | _, _, i + 1, .cons _ t, hi => by
    obtain ⟨a, h1, h2⟩ := Pd.at i t (Nat.lt_of_succ_lt_succ hi)
    exact ⟨a, by simpa using h1, h2⟩
theorem strOk_word {z : Str} (h : Word z) : PyData.strOk z = true := by
  unfold PyData.strOk
  rw [Array.all_eq_true']
  intro c hc
  have := h.2.2 c (by simpa using hc)
  simp
  omega
theorem word_num : Word "num" := by
  refine ⟨by decide +kernel, by decide +kernel, ?_⟩
  decide +kernel
theorem dp_strs {K : PySem.W.Frag} {H : Hp} : ∀ fs : List Str, DpAll K H (fs.map V.str) (fs.map PyData.str)
  | [] => .nil
  | f :: r => .cons (.str f) (dp_strs r)
end Bk

set_option Elab.async false
set_option linter.all false
set_option maxRecDepth 100000
set_option maxHeartbeats 4000000
namespace L2
open PySem PySem.Spec PyProof.Rows
section
variable {X : Cx}
end
end L2

set_option Elab.async false
set_option linter.all false
set_option maxRecDepth 100000
set_option maxHeartbeats 4000000
namespace L2
open PySem PySem.Spec PyProof.Rows
section
variable {X : Cx} {K : PySem.W.Frag}
theorem pi_tupK {tg iter : Expr} {tl : TE} (hK : X.K = K) (h : PE X iter tl) : PI X tg iter (iTup K tl) := by subst hK; exact pi_tup h
theorem op_inK (hK : X.K = K) : OpR X (compareOp .In) (rIn K false) := by subst hK; exact op_in_seq
theorem ix_listK (hK : X.K = K) : IxR X (rIxL K) := by subst hK; exact ix_list
end
end L2

set_option Elab.async false
set_option linter.all false
set_option maxRecDepth 100000
set_option maxHeartbeats 4000000
namespace Bk
open PySem L2 Nm
inductive PV where
  | num (z : Int)
  | mk (n : Str) (ps : List PV)
mutual
inductive ValAt (H : Hp) : V → PV → Prop
  | num (z : Int) : ValAt H (.int z) (.num z)
  | mk {a : Addr} {n : Str} {vs : List V} {ps : List PV} : H a = some (.tup (.str n :: vs)) → ValsAt H vs ps → ValAt H (.ref a) (.mk n ps)
inductive ValsAt (H : Hp) : List V → List PV → Prop
  | nil : ValsAt H [] []
  | cons {v : V} {p : PV} {vs : List V} {ps : List PV} : ValAt H v p → ValsAt H vs ps → ValsAt H (v :: vs) (p :: ps)
end
mutual
theorem ValAt.keep {H H' : Hp} (k : KeepT H H') : ∀ {v : V} {p : PV}, ValAt H v p → ValAt H' v p
  | _, _, .num z => .num z
  | _, _, .mk h t => .mk (k _ _ h) (ValsAt.keep k t)
theorem ValsAt.keep {H H' : Hp} (k : KeepT H H') : ∀ {vs : List V} {ps : List PV}, ValsAt H vs ps → ValsAt H' vs ps
  | _, _, .nil => .nil
  | _, _, .cons h t => .cons (ValAt.keep k h) (ValsAt.keep k t)
end
theorem ValsAt.snoc {H : Hp} {v : V} {p : PV} (h : ValAt H v p) : ∀ {vs : List V} {ps : List PV}, ValsAt H vs ps → ValsAt H (vs ++ [v]) (ps ++ [p])
  | _, _, .nil => .cons h .nil
  | _, _, .cons a t => .cons a (ValsAt.snoc h t)
theorem ValsAt.length {H : Hp} : ∀ {vs : List V} {ps : List PV}, ValsAt H vs ps → vs.length = ps.length
  | _, _, .nil => rfl
  | _, _, .cons _ t => by rw [List.length_cons, List.length_cons, ValsAt.length t]
abbrev GotD := List (Str × PV)
def gv (g : GotD) (f : Str) : Option PV := (g.find? fun p => decide (p.1 = f)).map (·.2)
theorem gv_pos {p : Str × PV} {r : GotD} {f : Str} (e : p.1 = f) : gv (p :: r) f = some p.2 := by simp [gv, List.find?_cons, e]
theorem gv_neg {p : Str × PV} {r : GotD} {f : Str} (e : ¬ p.1 = f) : gv (p :: r) f = gv r f := by simp [gv, List.find?_cons, e]
def allGot (g : GotD) (fs : List Str) : Bool := fs.all fun f => (gv g f).isSome
def made (g : GotD) (m : MakeD) : PV := .mk m.1 (m.2.map fun f => (gv g f).getD (.num 0))
def firstMade (g : GotD) : List MakeD → Option PV
  | [] => none
  | m :: r => if allGot g m.2 = true then some (made g m) else firstMade g r
def oneR (g : GotD) (k : KindD) : GotD := if (gv g k.1).isSome = true then [] else match firstMade g k.2 with
  | none => []
  | some p => [(k.1, p)]
def nextR (g : GotD) (b : BookD) : GotD := (b.map (oneR g)).flatten
/-- the rounds -/
def G (b : BookD) : Nat → GotD
  | 0 => [("num", .num 0)]
  | n + 1 => G b n ++ nextR (G b n) b
def plainG (b : BookD) : GotD := G b b.length
structure GotOk (b : BookD) (g : GotD) : Prop where
  nd : (g.map (·.1)).Nodup
  sub : ∀ f : Str, f ∈ g.map (·.1) → f = "num" ∨ f ∈ kindsD b
  num : ("num" : Str) ∈ g.map (·.1)
theorem nodup_len {α : Type} [DecidableEq α] : ∀ {l r : List α}, l.Nodup → (∀ x ∈ l, x ∈ r) → l.length ≤ r.length
  | [], _, _, _ => Nat.zero_le _
  | a :: l, r, hn, hs => by
    obtain ⟨h1, h2⟩ := List.nodup_cons.mp hn
    have : l.length ≤ (r.erase a).length := nodup_len h2 fun x hx => by
      have hne : x ≠ a := fun e => h1 (e ▸ hx)
      exact (List.mem_erase_of_ne hne).mpr (hs x (List.mem_cons_of_mem _ hx))
    have hm := hs a List.mem_cons_self
    rw [List.length_erase_of_mem hm] at this
    have : 0 < r.length := List.length_pos_of_mem hm
    rw [List.length_cons]
    omega
theorem GotOk.len {b : BookD} {g : GotD} (h : GotOk b g) : g.length ≤ b.length + 1 := by
  have := nodup_len (r := ("num" : Str) :: kindsD b) h.nd fun x hx => by
    rcases h.sub x hx with e | e
    · rw [e]; exact List.mem_cons_self
    · exact List.mem_cons_of_mem _ e
  rw [List.length_map, List.length_cons] at this
  have e : (kindsD b).length = b.length := by simp [kindsD]
  omega
def GotAt (H : Hp) (kvs : List (Key × V)) (g : GotD) : Prop := Pd (fun (kv : Key × V) (p : Str × PV) => kv.1 = Sum.inr p.1 ∧ ValAt H kv.2 p.2) kvs g
theorem GotAt.keep {H H' : Hp} (k : KeepT H H') {kvs : List (Key × V)} {g : GotD} (h : GotAt H kvs g) : GotAt H' kvs g := h.mono fun _ _ q => ⟨q.1, q.2.keep k⟩
theorem GotAt.val {H : Hp} {f : Str} : ∀ {kvs : List (Key × V)} {g : GotD}, GotAt H kvs g → (gv g f = none ∧ valV kvs (Sum.inr f : Key) = none) ∨ ∃ p v, gv g f = some p ∧ valV kvs (Sum.inr f : Key) = some v ∧ ValAt H v p
  | _, _, .nil => .inl ⟨rfl, rfl⟩
  | _, _, .cons (a := kv) (b := p) h t => by
    by_cases e : p.1 = f
    · exact .inr ⟨p.2, kv.2, gv_pos e, valV_pos (by rw [h.1, e]), h.2⟩
    · have e' : ¬ kv.1 = (Sum.inr f : Key) := fun z => e (by rw [h.1] at z; exact Sum.inr.inj z)
      rw [gv_neg e, valV_neg e']
      exact GotAt.val t
theorem GotAt.isSome {H : Hp} {f : Str} {kvs : List (Key × V)} {g : GotD} (h : GotAt H kvs g) : (valV kvs (Sum.inr f : Key)).isSome = (gv g f).isSome := by
  rcases h.val (f := f) with ⟨h1, h2⟩ | ⟨p, v, h1, h2, _⟩ <;> rw [h1, h2] <;> rfl
theorem GotAt.length {H : Hp} {kvs : List (Key × V)} {g : GotD} (h : GotAt H kvs g) : kvs.length = g.length := Pd.length h
theorem GotAt.keys {H : Hp} : ∀ {kvs : List (Key × V)} {g : GotD}, GotAt H kvs g → kvs.map (·.1) = g.map fun p => (Sum.inr p.1 : Key)
  | _, _, .nil => rfl
  | _, _, .cons h t => by rw [List.map_cons, List.map_cons, h.1, GotAt.keys t]
inductive Alive (b : BookD) : Str → Prop
  | num : Alive b "num"
  | kind {k : KindD} {m : MakeD} : k ∈ b → m ∈ k.2 → (∀ f ∈ m.2, Alive b f) → Alive b k.1
end Bk

set_option Elab.async false
set_option linter.all false
set_option maxRecDepth 100000
set_option maxHeartbeats 4000000
namespace Bk
open PySem L2 Nm
/-- the makes of a kind -/
def ownD (b : BookD) (k : Str) : List MakeD := ((b.filter fun q => decide (q.1 = k)).map (·.2)).flatten
def comesD (b : BookD) (k : Str) : List MakeD := (ownD b k).filter fun m => allGot (plainG b) m.2
end Bk

set_option Elab.async false
set_option linter.all false
set_option maxRecDepth 100000
set_option maxHeartbeats 4000000
namespace Bk
open PySem L2 Nm
theorem eqV_strB (a b : Str) : eqV (.str a) (.str b) = decide (a = b) := by
  show (a == b) = _
  by_cases h : a = b
  · subst h; simp
  · rw [decide_eq_false h]; simpa using h
theorem inV_strB (z : Str) (l : List Str) : inV (.str z) (l.map V.str) = decide (z ∈ l) := by
  unfold inV
  rw [List.any_map, Bool.eq_iff_iff, List.any_eq_true, decide_eq_true_eq]
  constructor
  · rintro ⟨y, hy, e⟩
    have e : eqV (.str y) (.str z) = true := e
    rw [eqV_strB] at e
    rw [← of_decide_eq_true e]
    exact hy
  · intro h
    exact ⟨z, h, by show eqV (.str z) (.str z) = true; rw [eqV_strB]; simp⟩
theorem flat_strB (l : List Str) : (l.map V.str).all flatV = true := by
  rw [List.all_map, List.all_eq_true]
  intro x _
  rfl
structure LiveOk (b : BookD) (l : List Str) : Prop where
  nd : l.Nodup
  sub : ∀ f : Str, f ∈ l → f = "num" ∨ f ∈ kindsD b
  num : ("num" : Str) ∈ l
  live : ∀ f : Str, f ∈ l → Alive b f
theorem LiveOk.len {b : BookD} {l : List Str} (h : LiveOk b l) : l.length ≤ b.length + 1 := by
  have := nodup_len (r := ("num" : Str) :: kindsD b) h.nd fun x hx => by
    rcases h.sub x hx with e | e
    · rw [e]; exact List.mem_cons_self
    · exact List.mem_cons_of_mem _ e
  rw [List.length_cons] at this
  have e : (kindsD b).length = b.length := by simp [kindsD]
  omega
theorem LiveOk.start (b : BookD) : LiveOk b ["num"] := ⟨by simp, fun f hf => .inl (by simpa using hf), by simp, fun f hf => by
  have : f = "num" := by simpa using hf
  rw [this]; exact .num⟩
theorem LiveOk.snoc {b : BookD} {l : List Str} (h : LiveOk b l) {k : KindD} {m : MakeD} (hk : k ∈ b) (hm : m ∈ k.2) (hall : ∀ f ∈ m.2, f ∈ l) (hn : k.1 ∉ l) : LiveOk b (l ++ [k.1]) := by
  refine ⟨?_, fun f hf => ?_, ?_, fun f hf => ?_⟩
  · rw [List.nodup_append]
    refine ⟨h.nd, by simp, fun x hx y hy e => ?_⟩
    rw [List.mem_singleton.mp hy] at e
    exact hn (e ▸ hx)
  · rcases List.mem_append.mp hf with hf | hf
    · exact h.sub f hf
    · rw [List.mem_singleton.mp hf]
      exact .inr (List.mem_map.mpr ⟨k, hk, rfl⟩)
  · exact List.mem_append.mpr (.inl h.num)
  · rcases List.mem_append.mp hf with hf | hf
    · exact h.live f hf
    · rw [List.mem_singleton.mp hf]
      exact .kind hk hm fun f hf => h.live f (hall f hf)
end Bk

set_option Elab.async false
set_option linter.all false
set_option maxRecDepth 100000
set_option maxHeartbeats 4000000
namespace L2
open PySem PySem.Spec PyProof.Rows
section
variable {X : Cx}
end
end L2

set_option Elab.async false
set_option linter.all false
set_option maxRecDepth 100000
set_option maxHeartbeats 4000000
namespace Bk
open PySem L2 Nm
mutual
def pvData : PV → PyData
  | .num z => .int z
  | .mk n ps => .tuple (.str n :: pvDatas ps)
def pvDatas : List PV → List PyData
  | [] => []
  | p :: r => pvData p :: pvDatas r
end
mutual
theorem ValAt.dp {K : PySem.W.Frag} {H : Hp} : ∀ {v : V} {p : PV}, ValAt H v p → Dp K H v (pvData p)
  | _, _, .num z => by unfold pvData; exact .int z
  | _, _, .mk h t => by unfold pvData; exact .tup (SqT.of h) (.cons (.str _) (ValsAt.dp t))
theorem ValsAt.dp {K : PySem.W.Frag} {H : Hp} : ∀ {vs : List V} {ps : List PV}, ValsAt H vs ps → DpAll K H vs (pvDatas ps)
  | _, _, .nil => by unfold pvDatas; exact .nil
  | _, _, .cons h t => by unfold pvDatas; exact .cons (ValAt.dp h) (ValsAt.dp t)
end
def Flat (n : Nat) (p : PV) : Prop := (pvData p).canLay0 = true ∧ (pvData p).depth ≤ n
theorem flats {n : Nat} : ∀ ps : List PV, (∀ p ∈ ps, Flat n p) → PyData.canLayAll0 (pvDatas ps) = true ∧ PyData.depthAll (pvDatas ps) ≤ n
  | [], _ => by unfold pvDatas; exact ⟨by simp [PyData.canLayAll0], by simp [PyData.depthAll]⟩
  | p :: r, h => by
    obtain ⟨h1, h2⟩ := h p List.mem_cons_self
    obtain ⟨h3, h4⟩ := flats r fun x hx => h x (List.mem_cons_of_mem _ hx)
    unfold pvDatas
    refine ⟨by simp [PyData.canLayAll0, h1, h3], ?_⟩
    unfold PyData.depthAll
    omega
theorem Flat.num {n : Nat} (z : Int) : Flat n (.num z) := by
  unfold Flat pvData
  exact ⟨by simp [PyData.canLay0], by simp [PyData.depth]⟩
theorem Flat.mk {n : Nat} {m : Str} {ps : List PV} (hw : Word m) (h : ∀ p ∈ ps, Flat n p) : Flat (n + 1) (.mk m ps) := by
  obtain ⟨h1, h2⟩ := flats ps h
  unfold Flat pvData
  refine ⟨by simp [PyData.canLay0, PyData.canLayAll0, strOk_word hw, h1], ?_⟩
  simp only [PyData.depth, PyData.depthAll]
  omega
theorem Flat.mono {n k : Nat} (h : n ≤ k) {p : PV} (f : Flat n p) : Flat k p := ⟨f.1, Nat.le_trans f.2 h⟩
end Bk

set_option Elab.async false
set_option linter.all false
set_option maxRecDepth 100000
set_option maxHeartbeats 4000000
namespace L2
open PySem PySem.Spec PyProof.Rows
section
variable {prog : Program} {w : World} {A : Around} {E : Value → Shared → Prop} {s : Shared}
end
end L2

set_option Elab.async false
set_option linter.all false
set_option maxRecDepth 100000
set_option maxHeartbeats 4000000
namespace L2
open PySem PySem.Spec PyProof.Rows
abbrev ZipAt (h : Heap) (z TI TO : Addr) (f0 f1 : Value) : Prop := h.get? z = some { cls := .type "zip", dict := none, data := .fields #[f0, f1, .bool false, .ref TI, .ref TO], slots := #[] }
structure ZSt (h : Heap) (z TI TO i1 i2 t1 t2 : Addr) (xs ys : Array Value) (k : Nat) : Prop where
  zip : ∃ f0 b, (f0 = .none ∨ ∃ T : Nat, f0 = rawInt T) ∧ ZipAt h z TI TO f0 (.bool b)
  ins : IsPair h TI (.ref i1) (.ref i2)
  out : ∃ a b, IsPair h TO a b
  it1 : h.IsTupleIter i1 t1 k
  it2 : h.IsTupleIter i2 t2 k
  tu1 : h.IsTuple t1 xs
  tu2 : h.IsTuple t2 ys
section
variable {prog : Program} {w : World} {A : Around} {E : Value → Shared → Prop} {s : Shared}
end
end L2

set_option Elab.async false
set_option linter.all false
set_option maxRecDepth 100000
set_option maxHeartbeats 4000000
namespace L2
open PySem PySem.Spec PyProof.Rows
section
variable {prog : Program} {w : World} {A : Around} {E : Value → Shared → Prop} {s : Shared}
end
end L2

set_option Elab.async false
set_option linter.all false
set_option maxRecDepth 100000
set_option maxHeartbeats 4000000
namespace L2
open PySem PySem.Spec PyProof.Rows
theorem ZSt.keep {h h' : Heap} {z TI TO i1 i2 t1 t2 : Addr} {xs ys : Array Value} {k : Nat} (st : ZSt h z TI TO i1 i2 t1 t2 xs ys k) (hk : ∀ b ∈ [z, TI, TO, i1, i2, t1, t2], ∀ o, h.get? b = some o → h'.get? b = some o) : ZSt h' z TI TO i1 i2 t1 t2 xs ys k := by
  obtain ⟨⟨f0, b, hf, hz⟩, h1, ⟨a, c, h2⟩, ⟨o3, h3, r3⟩, ⟨o4, h4, r4⟩, ⟨o5, h5, r5⟩, ⟨o6, h6, r6⟩⟩ := st
  exact ⟨⟨f0, b, hf, hk _ (by simp) _ hz⟩, hk _ (by simp) _ h1, ⟨a, c, hk _ (by simp) _ h2⟩, ⟨o3, hk _ (by simp) _ h3, r3⟩, ⟨o4, hk _ (by simp) _ h4, r4⟩, ⟨o5, hk _ (by simp) _ h5, r5⟩, ⟨o6, hk _ (by simp) _ h6, r6⟩⟩
section
variable {X : Cx} {pins : List (Addr × Obj)} {σ : St}
end
end L2

set_option Elab.async false
set_option linter.all false
set_option maxRecDepth 100000
set_option maxHeartbeats 4000000
namespace Bk
open PySem L2 Nm
theorem strs_inj : ∀ l r : List Str, l.map V.str = r.map V.str → l = r
  | [], [], _ => rfl
  | [], _ :: _, h => by cases h
  | _ :: _, [], h => by cases h
  | x :: l, y :: r, h => by
    rw [List.map_cons, List.map_cons] at h
    injection h with h1 h2
    injection h1 with h1
    rw [h1, strs_inj l r h2]
theorem MakeAt.inj {H : Hp} {v : V} {a b : MakeD} (h : MakeAt H v a) (h' : MakeAt H v b) : a = b := by
  obtain ⟨a1, a2⟩ := a
  obtain ⟨b1, b2⟩ := b
  obtain ⟨p, q, rfl, h1, h2⟩ := h
  obtain ⟨p', q', e, h3, h4⟩ := h'
  injection e with e
  subst e
  rw [h1] at h3
  have e := HO.tup.inj (Option.some.inj h3)
  injection e with e1 e2
  injection e1 with e1
  injection e2 with e2
  injection e2 with e2
  subst e2
  rw [h2] at h4
  have e3 := strs_inj _ _ (HO.tup.inj (Option.some.inj h4))
  have e1 : a1 = b1 := e1
  have e3 : a2 = b2 := e3
  rw [e1, e3]
end Bk

set_option Elab.async false
set_option linter.all false
set_option maxRecDepth 100000
set_option maxHeartbeats 4000000
namespace Bk
open PySem L2 Nm
/-- a value of a kind, less than n deep -/
def IsVal (b : BookD) : Nat → Str → PV → Prop
  | 0 => fun _ _ => False
  | n + 1 => fun f p => (∃ z, p = .num z ∧ f = "num") ∨ ∃ k ∈ b, ∃ m ∈ k.2, ∃ ps, k.1 = f ∧ p = .mk m.1 ps ∧ Pd (IsVal b n) m.2 ps
theorem IsVal.up {b : BookD} : ∀ {n : Nat} {f : Str} {p : PV}, IsVal b n f p → IsVal b (n + 1) f p
  | 0, _, _, h => h.elim
  | n + 1, f, p, h => by
    rcases h with h | ⟨k, hk, m, hm, ps, e1, e2, h⟩
    · exact .inl h
    · exact .inr ⟨k, hk, m, hm, ps, e1, e2, h.mono fun _ _ q => IsVal.up q⟩
theorem IsVal.mono {b : BookD} {n : Nat} {f : Str} {p : PV} (h : IsVal b n f p) : ∀ {k : Nat}, n ≤ k → IsVal b k f p
  | 0, hk => by
    have : n = 0 := by omega
    rw [this] at h; exact h
  | k + 1, hk => by
    by_cases e : n = k + 1
    · rw [← e]; exact h
    · exact (IsVal.mono h (k := k) (by omega)).up
theorem Pd.zip {α β : Type} {R : α → β → Prop} : ∀ {as : List α} {bs : List β}, Pd R as bs → ∀ x ∈ as.zip bs, R x.1 x.2
  | _, _, .nil, x, hx => by cases hx
  | _, _, .cons h t, x, hx => by
    rw [List.zip_cons_cons] at hx
    rcases List.mem_cons.mp hx with e | e
    · rw [e]; exact h
    · exact Pd.zip t x e
theorem ValsAt.zip {H : Hp} {R : Str → PV → Prop} : ∀ {vs : List V} {ps : List PV} {fs : List Str}, ValsAt H vs ps → Pd R fs ps → ∀ x ∈ (fs.map V.str).zip vs, ∃ f p, x.1 = .str f ∧ ValAt H x.2 p ∧ R f p
  | _, _, _, .nil, .nil, x, hx => by cases hx
  | _, _, _, .cons h t, .cons r q, x, hx => by
    rw [List.map_cons, List.zip_cons_cons] at hx
    rcases List.mem_cons.mp hx with e | e
    · rw [e]; exact ⟨_, _, rfl, h, r⟩
    · exact ValsAt.zip t q x e
end Bk

set_option Elab.async false
set_option linter.all false
set_option maxRecDepth 100000
set_option maxHeartbeats 4000000
namespace Bk
open PySem L2 Nm
theorem keepT_lst {H : Hp} {D : Addr} {l : List V} {o : HO} (h : H D = some (.lst l)) : KeepT H (upd H D o) := fun b xs hb => by
  rw [upd_ne (ne_of hb h (fun z => by cases z))]; exact hb
theorem same_upd {H H' : Hp} {D : Addr} {o : HO} (s : Same H H') (h : H D = none) : Same H (upd H' D o) := fun b u hb => by
  rw [upd_ne (ne_of_none hb h)]; exact s b u hb
def FirstIs (H : Hp) (v : V) : Option PV → Prop
  | none => v = .non
  | some p => ValAt H v p
mutual
def pvSize : PV → Nat
  | .num _ => 1
  | .mk _ ps => 1 + pvSizes ps
def pvSizes : List PV → Nat
  | [] => 0
  | p :: r => pvSize p + pvSizes r
end
/-- less than n deep -/
def Dpt : Nat → PV → Prop
  | 0 => fun _ => False
  | n + 1 => fun p => (∃ z, p = .num z) ∨ ∃ nm ps, p = .mk nm ps ∧ ps.length ≤ 4 ∧ ∀ q ∈ ps, Dpt n q
theorem Dpt.up : ∀ {n : Nat} {p : PV}, Dpt n p → Dpt (n + 1) p
  | 0, _, h => h.elim
  | n + 1, p, h => by
    rcases h with h | ⟨nm, ps, e, hl, h⟩
    · exact .inl h
    · exact .inr ⟨nm, ps, e, hl, fun q hq => (h q hq).up⟩
theorem Dpt.mono {n : Nat} {p : PV} (h : Dpt n p) : ∀ {k : Nat}, n ≤ k → Dpt k p
  | 0, hk => by
    have : n = 0 := by omega
    rw [this] at h; exact h
  | k + 1, hk => by
    by_cases e : n = k + 1
    · rw [← e]; exact h
    · exact (Dpt.mono h (k := k) (by omega)).up
end Bk
namespace Bk
open PySem L2 Nm
theorem ValsAt.get {H : Hp} : ∀ {vs : List V} {ps : List PV} {i : Nat} {x : V}, ValsAt H vs ps → vs[i]? = some x → ∃ p, ps[i]? = some p ∧ ValAt H x p
  | _, _, 0, _, .cons h _, e => by
    simp at e
    subst e
    exact ⟨_, rfl, h⟩
  | _, _, i + 1, x, .cons _ t, e => by
    obtain ⟨p, h1, h2⟩ := ValsAt.get (i := i) (x := x) t (by simpa using e)
    exact ⟨p, by simpa using h1, h2⟩
end Bk

set_option Elab.async false
set_option linter.all false
set_option maxRecDepth 100000
set_option maxHeartbeats 4000000
namespace Bk
open PySem L2 Nm
end Bk

set_option Elab.async false
set_option linter.all false
set_option maxRecDepth 100000
set_option maxHeartbeats 4000000
namespace Bk
open PySem L2 Nm
/-- a pool and a room that are drawn on, all else kept -/
structure Dr (p rm : Addr) (H H' : Hp) : Prop where
  pool : PoolAt H' p
  room : ∃ r : Int, H' rm = some (.lst [.int r])
  keep : ∀ b o, H b = some o → b ≠ p → b ≠ rm → H' b = some o
namespace Dr
variable {p rm : Addr} {H H1 H2 : Hp}
theorem refl (hp : PoolAt H p) (hr : ∃ r : Int, H rm = some (.lst [.int r])) : Dr p rm H H := ⟨hp, hr, fun _ _ h _ _ => h⟩
theorem trans (a : Dr p rm H H1) (b : Dr p rm H1 H2) : Dr p rm H H2 := ⟨b.pool, b.room, fun c o h n1 n2 => b.keep c o (a.keep c o h n1 n2) n1 n2⟩
theorem same (a : Dr p rm H H1) (s : Same H1 H2) : Dr p rm H H2 := by
  obtain ⟨x, y, z, hp⟩ := a.pool
  obtain ⟨r, hr⟩ := a.room
  exact ⟨⟨x, y, z, s _ _ hp⟩, ⟨r, s _ _ hr⟩, fun c o h n1 n2 => s _ _ (a.keep c o h n1 n2)⟩
theorem but (a : Dr p rm H H1) (hne : p ≠ rm) (hp : PoolAt H2 p) (k : KeepBut p H1 H2) : Dr p rm H H2 := by
  obtain ⟨r, hr⟩ := a.room
  exact ⟨hp, ⟨r, k _ _ hr (Ne.symm hne)⟩, fun c o h n1 n2 => k _ _ (a.keep c o h n1 n2) n1⟩
/-- another list, made since, is written -/
theorem other (a : Dr p rm H H1) {L : Addr} {o : HO} (h : H L = none) (h1 : p ≠ L) (h2 : rm ≠ L) : Dr p rm H (upd H1 L o) := by
  obtain ⟨x, y, z, hp⟩ := a.pool
  obtain ⟨r, hr⟩ := a.room
  exact ⟨⟨x, y, z, by rw [upd_ne h1]; exact hp⟩, ⟨r, by rw [upd_ne h2]; exact hr⟩, fun c u hc n1 n2 => by rw [upd_ne (ne_of_none hc h)]; exact a.keep c u hc n1 n2⟩
theorem keepT (a : Dr p rm H H1) (hp : PoolAt H p) (hr : ∃ r : Int, H rm = some (.lst [.int r])) : KeepT H H1 := fun b xs hb => by
  obtain ⟨x, y, z, hp⟩ := hp
  obtain ⟨r, hr⟩ := hr
  exact a.keep b _ hb (ne_of hb hp (fun z => by cases z)) (ne_of hb hr (fun z => by cases z))
theorem dict (a : Dr p rm H H1) (hp : PoolAt H p) (hr : ∃ r : Int, H rm = some (.lst [.int r])) {D : Addr} {kvs : List (Key × V)} (h : H D = some (.dK kvs)) : H1 D = some (.dK kvs) := by
  obtain ⟨x, y, z, hp⟩ := hp
  obtain ⟨r, hr⟩ := hr
  exact a.keep D _ h (ne_of h hp (fun z => by cases z)) (ne_of h hr (fun z => by cases z))
end Dr
end Bk

set_option Elab.async false
set_option linter.all false
set_option maxRecDepth 100000
set_option maxHeartbeats 4000000
namespace L2
open PySem PySem.Spec PyProof.Rows
theorem extend_by_tuple (l : Addr) (items : Array Value) (n : Nat) (b : Addr) (items2 : Array Value) (n2 : Nat) (dd : Option Addr) (sl : Array (Option Value)) (hs0 : ¬(!items.isEmpty && Builtin.List.listTooLong (items.size + items2.size)) = true) (hs1 : items.size ≤ sizeLine) (hs2 : items.size + items2.size ≤ sizeLine + 1) :
    Meets (Builtin.«list.extend» ⟨[.ref l, .ref b], []⟩) (fun _ R s => s.heap.get? l = some { cls := .type "list", dict := none, data := .seq items n, slots := #[] } ∧ s.heap.get? b = some { cls := .type "tuple", dict := dd, data := .seq items2 n2, slots := sl } ∧
      R (.ok (.ret Value.none)) { s with heap := s.heap.update l (Obj.mapSeq fun x => x ++ items2), toks := s.toks }) :=
  .of_wp fun prog w A R s h => by
    obtain ⟨hp, g, d, tk, os⟩ := s
    obtain ⟨hl, hb, h⟩ := h
    have f1 := AutoSeq1.idx_int; have f2 := AutoSeq1.sub_tuple_tuple; have f3 := AutoSeq1.sub_list_list; have f4 := AutoSeq1.sub_tuple_list; have f5 := AutoSeq1.sub_list_tuple
    have hz' : (items ++ items2).size ≤ sizeLine + 1 := by rw [Array.size_append]; exact hs2
    wp_walk using (wpAny_updateSeq hl rfl (hz := hs1) (_hz' := hz')), wpAny_loadPart' hl, wpAny_loadPart' hb
    exact ⟨_, rfl, h⟩
section
variable {X : Cx}
def rExtendT (K : PySem.W.Frag) : V → List V → Hp → VK → Prop := fun x vs H Q => ∃ l b xs zs, x = .ref l ∧ vs = [.ref b] ∧ H l = some (.lst xs) ∧ SqT K H b zs ∧ xs.length + zs.length ≤ sizeLine ∧ Q .non (upd H l (.lst (xs ++ zs)))
theorem mt_extendT : MtM X "list.extend" (rExtendT X.K) := by
  intro pins s σ H x vs v us Q I rx rv h
  obtain ⟨l, b, xs, zs, rfl, rfl, hH, hB, hz, q⟩ := h
  cases rx
  obtain ⟨u, rfl, ru⟩ := rv.one
  cases ru
  obtain ⟨z, its, n, r, hl, e⟩ := I.lstM hH
  obtain ⟨its2, r2, ⟨⟨c0, dd, dat, sl⟩, ho, hc, n2, hd⟩, z2⟩ := I.tuple hB
  simp only at hc hd
  subst hc hd
  have hl2 := r2.length
  have hsz : its.toArray.size + its2.toArray.size ≤ sizeLine := by rw [List.size_toArray, List.size_toArray]; omega
  have hlong : ¬ (!its.toArray.isEmpty && Builtin.List.listTooLong (its.toArray.size + its2.toArray.size)) = true := by
    rw [notLongL hsz, Bool.and_false]
    exact Bool.false_ne_true
  refine call_meets PySem.F.slot_list_extend ⟨_, e, rfl⟩ PySem.F.entry_list_extend (PySem.F.args_list_extend_2 _ _) (extend_by_tuple l its.toArray n b its2.toArray n2 dd sl hlong (by rw [List.size_toArray]; omega) (by omega)) ⟨e, ho, ?_⟩
  refine ⟨.non, _, I.lset (its' := its ++ its2) hH e (by simp) (r.append r2) ?_, rfl, q⟩
  rw [List.length_append]
  omega
end
end L2

set_option Elab.async false
set_option linter.all false
set_option maxRecDepth 100000
set_option maxHeartbeats 4000000
namespace Bk
open PySem L2 Nm
theorem ValsAt.append {H : Hp} : ∀ {vs us : List V} {ps qs : List PV}, ValsAt H vs ps → ValsAt H us qs → ValsAt H (vs ++ us) (ps ++ qs)
  | _, _, _, _, .nil, h => h
  | _, _, _, _, .cons a t, h => .cons a (t.append h)
end Bk

set_option Elab.async false
set_option linter.all false
set_option maxRecDepth 100000
set_option maxHeartbeats 4000000
namespace L2
open PySem PySem.Spec PyProof.Rows
section
variable {X : Cx} {pins : List (Addr × Obj)} {σ : St}
end
end L2

set_option Elab.async false
set_option linter.all false
set_option maxRecDepth 100000
set_option maxHeartbeats 4000000
namespace L2
open PySem PySem.Spec PyProof.Rows
section
variable {X : Cx} {K : PySem.W.Frag}
theorem it_list {a : Addr} {xs : List V} {H0 : Hp} {Qd : Hp → Prop} {Bd : (Hp → Prop) → V → Hp → Prop} (Pv : Nat → Hp → Prop) (h0 : Pv 0 H0) (hl : ∀ i H, i ≤ xs.length → Pv i H → SqL K H a xs)
    (hs : ∀ i x H, xs[i]? = some x → Pv i H → Bd (Pv (i + 1)) x H) (hd : ∀ H, Pv xs.length H → Qd H) :
    ∃ W : Nat → Nat → Hp → Prop, (∃ m, W 0 m H0) ∧ ∀ i m H, W i m H →
      ((Itl K a).stop i H ∧ Qd H) ∨ ((Itl K a).go i H ∧ ∃ Nx : Hp → Prop, (∀ H', Nx H' → ∃ m', m' < m ∧ W (i + 1) m' H') ∧ ∀ x H', (Itl K a).yld i H x H' → Bd Nx x H') := by
  refine ⟨fun i m H => m = xs.length - i ∧ i ≤ xs.length ∧ Pv i H, ⟨xs.length, by simp, Nat.zero_le _, h0⟩, ?_⟩
  rintro i m H ⟨rfl, hi, p⟩
  have q := hl i H hi p
  by_cases hlt : i < xs.length
  · refine .inr ⟨⟨xs, xs[i], q, by simp [hlt]⟩, Pv (i + 1), fun H' p' => ⟨xs.length - (i + 1), by omega, rfl, hlt, p'⟩, fun x H' y => ?_⟩
    obtain ⟨e, y⟩ := y
    subst e
    exact hs i x _ (y xs q) p
  · have e : i = xs.length := by omega
    subst e
    exact .inl ⟨⟨xs, q, Nat.le_refl _⟩, hd H p⟩
theorem it_tup {a : Addr} {xs : List V} {H0 : Hp} {Qd : Hp → Prop} {Bd : (Hp → Prop) → V → Hp → Prop} (Pv : Nat → Hp → Prop) (h0 : Pv 0 H0) (hl : ∀ i H, i ≤ xs.length → Pv i H → SqT K H a xs)
    (hs : ∀ i x H, xs[i]? = some x → Pv i H → Bd (Pv (i + 1)) x H) (hd : ∀ H, Pv xs.length H → Qd H) :
    ∃ W : Nat → Nat → Hp → Prop, (∃ m, W 0 m H0) ∧ ∀ i m H, W i m H →
      ((Itt K a).stop i H ∧ Qd H) ∨ ((Itt K a).go i H ∧ ∃ Nx : Hp → Prop, (∀ H', Nx H' → ∃ m', m' < m ∧ W (i + 1) m' H') ∧ ∀ x H', (Itt K a).yld i H x H' → Bd Nx x H') := by
  refine ⟨fun i m H => m = xs.length - i ∧ i ≤ xs.length ∧ Pv i H, ⟨xs.length, by simp, Nat.zero_le _, h0⟩, ?_⟩
  rintro i m H ⟨rfl, hi, p⟩
  have q := hl i H hi p
  by_cases hlt : i < xs.length
  · refine .inr ⟨⟨xs, xs[i], q, by simp [hlt]⟩, Pv (i + 1), fun H' p' => ⟨xs.length - (i + 1), by omega, rfl, hlt, p'⟩, fun x H' y => ?_⟩
    obtain ⟨e, y⟩ := y
    subst e
    exact hs i x _ (y xs q) p
  · have e : i = xs.length := by omega
    subst e
    exact .inl ⟨⟨xs, q, Nat.le_refl _⟩, hd H p⟩
end
end L2
namespace Bk
open PySem L2 Nm
end Bk

set_option Elab.async false
set_option linter.all false
set_option maxRecDepth 100000
set_option maxHeartbeats 4000000
namespace PySem
section
variable {prog : Program} {w : World} {A : Around} {E : Value → Shared → Prop} {s : Shared}
end
end PySem
namespace L2
open PySem PySem.Spec PyProof.Rows
section
variable {X : Cx} {tg : Expr}
end
end L2

set_option Elab.async false
set_option linter.all false
set_option maxRecDepth 100000
set_option maxHeartbeats 4000000
namespace Bk
open PySem L2 Nm
abbrev StepD := Str × Int
def StepAt (H : Hp) (v : V) (s : StepD) : Prop := ∃ a, v = .ref a ∧ H a = some (.tup [.str s.1, .int s.2])
theorem StepAt.keep {H H' : Hp} {v : V} {s : StepD} (h : StepAt H v s) (k : KeepT H H') : StepAt H' v s := by
  obtain ⟨a, e, h⟩ := h
  exact ⟨a, e, k _ _ h⟩
def SpotAt (H : Hp) (v : V) (sp : List StepD) : Prop := ∃ a us, v = .ref a ∧ H a = some (.tup us) ∧ Pd (StepAt H) us sp
theorem SpotAt.keep {H H' : Hp} {v : V} {sp : List StepD} (h : SpotAt H v sp) (k : KeepT H H') : SpotAt H' v sp := by
  obtain ⟨a, us, e, h, p⟩ := h
  exact ⟨a, us, e, k _ _ h, p.mono fun _ _ q => q.keep k⟩
def partD : PV → List StepD → Option PV
  | p, [] => some p
  | .num _, _ :: _ => none
  | .mk n ps, s :: r => if n = s.1 ∧ 0 ≤ s.2 then (match ps[s.2.toNat]? with | some q => partD q r | none => none) else none
theorem partD_some {p q : PV} {s : StepD} {r : List StepD} (h : partD p (s :: r) = some q) : ∃ n ps c, p = .mk n ps ∧ n = s.1 ∧ 0 ≤ s.2 ∧ ps[s.2.toNat]? = some c ∧ partD c r = some q := by
  cases p with
  | num z => cases h
  | mk n ps =>
    rw [partD] at h
    by_cases h1 : n = s.1 ∧ 0 ≤ s.2
    · rw [if_pos h1] at h
      cases e : ps[s.2.toNat]? with
      | none => rw [e] at h; cases h
      | some c => rw [e] at h; exact ⟨n, ps, c, rfl, h1.1, h1.2, e, h⟩
    · rw [if_neg h1] at h; cases h
def Nice : Nat → PV → Prop
  | 0 => fun _ => False
  | n + 1 => fun p => (∃ z, p = .num z) ∨ ∃ nm ps, p = .mk nm ps ∧ Word nm ∧ ps.length ≤ 4 ∧ ∀ q ∈ ps, Nice n q
theorem Nice.up : ∀ {n : Nat} {p : PV}, Nice n p → Nice (n + 1) p
  | 0, _, h => h.elim
  | n + 1, p, h => by
    rcases h with h | ⟨nm, ps, e, w, hl, h⟩
    · exact .inl h
    · exact .inr ⟨nm, ps, e, w, hl, fun q hq => (h q hq).up⟩
theorem Nice.mono {n : Nat} {p : PV} (h : Nice n p) : ∀ {k : Nat}, n ≤ k → Nice k p
  | 0, hk => by
    have : n = 0 := by omega
    rw [this] at h; exact h
  | k + 1, hk => by
    by_cases e : n = k + 1
    · rw [← e]; exact h
    · exact (Nice.mono h (k := k) (by omega)).up
theorem Nice.flat : ∀ {n : Nat} {p : PV}, Nice n p → Flat n p
  | 0, _, h => h.elim
  | n + 1, p, h => by
    rcases h with ⟨z, e⟩ | ⟨nm, ps, e, w, hl, h⟩
    · rw [e]; exact .num z
    · rw [e]; exact .mk w fun q hq => (h q hq).flat
theorem Nice.shaped {n : Nat} {p : PV} (h : Nice n p) (hn : n ≤ 63) : SeqAt.shaped (pvData p) = true := by
  have h1 := h.flat
  unfold SeqAt.shaped
  rw [h1.1]
  have : (pvData p).depth ≤ 64 := Nat.le_trans h1.2 (by omega)
  simpa using this
theorem Nice.parts {n : Nat} {nm : Str} {ps : List PV} (h : Nice (n + 1) (.mk nm ps)) : Word nm ∧ ps.length ≤ 4 ∧ ∀ q ∈ ps, Nice n q := by
  rcases h with ⟨z, e⟩ | ⟨nm', ps', e, w, hl, h⟩
  · cases e
  · cases e; exact ⟨w, hl, h⟩
theorem Nice.part : ∀ {sp : List StepD} {n : Nat} {p c : PV}, Nice n p → partD p sp = some c → Nice n c
  | [], n, p, c, h, e => by
    have : p = c := by cases p <;> exact Option.some.inj e
    rw [← this]; exact h
  | s :: r, n, p, c, h, e => by
    obtain ⟨nm, ps, d, rfl, h1, h2, h3, h4⟩ := partD_some e
    cases n with
    | zero => exact h.elim
    | succ n => exact (Nice.part ((h.parts).2.2 d (List.mem_of_getElem? h3)) h4).up
def IsValS (b : BookD) (g : GotD) : Nat → Str → PV → Prop
  | 0 => fun _ _ => False
  | n + 1 => fun f p => (∃ z, p = .num z ∧ f = "num") ∨ ∃ k ∈ b, ∃ m ∈ k.2, ∃ ps, k.1 = f ∧ p = .mk m.1 ps ∧ allGot g m.2 = true ∧ Pd (IsValS b g n) m.2 ps
theorem IsValS.up {b : BookD} {g : GotD} : ∀ {n : Nat} {f : Str} {p : PV}, IsValS b g n f p → IsValS b g (n + 1) f p
  | 0, _, _, h => h.elim
  | n + 1, f, p, h => by
    rcases h with h | ⟨k, hk, m, hm, ps, e1, e2, e3, h⟩
    · exact .inl h
    · exact .inr ⟨k, hk, m, hm, ps, e1, e2, e3, h.mono fun _ _ q => IsValS.up q⟩
theorem IsValS.mono {b : BookD} {g : GotD} {n : Nat} {f : Str} {p : PV} (h : IsValS b g n f p) : ∀ {k : Nat}, n ≤ k → IsValS b g k f p
  | 0, hk => by
    have : n = 0 := by omega
    rw [this] at h; exact h
  | k + 1, hk => by
    by_cases e : n = k + 1
    · rw [← e]; exact h
    · exact (IsValS.mono h (k := k) (by omega)).up
theorem Pd.at2 {α β : Type} {R : α → β → Prop} : ∀ {as : List α} {bs : List β} {i : Nat} {y : β}, Pd R as bs → bs[i]? = some y → ∃ x, as[i]? = some x ∧ R x y
  | _, _, 0, _, .cons h _, e => by
    simp at e
    subst e
    exact ⟨_, rfl, h⟩
  | _, _, i + 1, y, .cons _ t, e => by
    obtain ⟨x, h1, h2⟩ := Pd.at2 (i := i) (y := y) t (by simpa using e)
    exact ⟨x, by simpa using h1, h2⟩
end Bk

set_option Elab.async false
set_option linter.all false
set_option maxRecDepth 100000
set_option maxHeartbeats 4000000
namespace Bk
open PySem L2 Nm
theorem ValsAt.at2 {H : Hp} : ∀ {vs : List V} {ps : List PV} {i : Nat} {p : PV}, ValsAt H vs ps → ps[i]? = some p → ∃ x, vs[i]? = some x ∧ ValAt H x p
  | _, _, 0, _, .cons h _, e => by
    simp at e
    subst e
    exact ⟨_, rfl, h⟩
  | _, _, i + 1, p, .cons _ t, e => by
    obtain ⟨x, h1, h2⟩ := ValsAt.at2 (i := i) (p := p) t (by simpa using e)
    exact ⟨x, by simpa using h1, h2⟩
theorem ValsAt.set {H : Hp} {v : V} {p : PV} (h : ValAt H v p) : ∀ {vs : List V} {ps : List PV} (i : Nat), ValsAt H vs ps → ValsAt H (vs.set i v) (ps.set i p)
  | _, _, _, .nil => .nil
  | _, _, 0, .cons _ t => .cons h t
  | _, _, i + 1, .cons a t => .cons a (ValsAt.set h i t)
theorem ValsAt.take {H : Hp} : ∀ {vs : List V} {ps : List PV} (n : Nat), ValsAt H vs ps → ValsAt H (vs.take n) (ps.take n)
  | _, _, 0, _ => by rw [List.take_zero, List.take_zero]; exact .nil
  | _, _, n + 1, .nil => .nil
  | _, _, n + 1, .cons a t => .cons a (ValsAt.take n t)
theorem partD_nil (p : PV) : partD p [] = some p := by cases p <;> rfl
theorem IsVal.part {b : BookD} : ∀ {sp : List StepD} {n : Nat} {f : Str} {p q : PV}, IsVal b n f p → partD p sp = some q → ∃ f', IsVal b n f' q
  | [], n, f, p, q, h, e => by
    rw [partD_nil] at e
    cases e
    exact ⟨f, h⟩
  | s :: r, n, f, p, q, h, e => by
    obtain ⟨nm, ps, d, rfl, h1, h2, h3, h4⟩ := partD_some e
    cases n with
    | zero => exact h.elim
    | succ n =>
      rcases h with ⟨z, e, _⟩ | ⟨k, hk, m, hm, ps', _, e2, hpd⟩
      · cases e
      · cases e2
        obtain ⟨f2, _, hv⟩ := Pd.at2 hpd h3
        obtain ⟨f', hv'⟩ := IsVal.part hv h4
        exact ⟨f', hv'.up⟩
end Bk
namespace Bk
open PySem L2 Nm
end Bk

set_option Elab.async false
set_option linter.all false
set_option maxRecDepth 100000
set_option maxHeartbeats 4000000
namespace HT
open PySem PySem.Spec PyProof.Rows
section
variable {prog : Program} {w : World} {A : Around} {E : Value → Shared → Prop} {s : Shared}
end
end HT
namespace L2
open PySem PySem.Spec PyProof.Rows
section
variable {X : Cx}
end
end L2

set_option Elab.async false
set_option linter.all false
set_option maxRecDepth 100000
set_option maxHeartbeats 4000000
namespace Bk
open PySem L2 Nm
def headD : PV → PyData
  | .num z => .int z
  | .mk n _ => .str n
theorem Nice.head {n : Nat} {p : PV} (h : Nice n p) : SeqAt.shaped (headD p) = true := by
  cases n with
  | zero => exact h.elim
  | succ n =>
    cases p with
    | num z => rfl
    | mk nm ps =>
      have hw := strOk_word h.parts.1
      unfold SeqAt.shaped headD
      have a : (PyData.str nm).canLay0 = true := by simpa [PyData.canLay0] using hw
      rw [a]
      rfl
theorem Pd.set {α β : Type} {R : α → β → Prop} : ∀ {as : List α} {bs : List β} {i : Nat} {x : α} {y : β}, Pd R as bs → as[i]? = some x → R x y → Pd R as (bs.set i y)
  | _, _, _, _, _, .nil, e, _ => by cases e
  | _, _, 0, _, _, .cons h t, e, r => by
    simp at e
    subst e
    exact .cons r t
  | _, _, i + 1, _, _, .cons h t, e, r => .cons h (Pd.set (i := i) t (by simpa using e) r)
/-- a pair of a spot and a value -/
def PutAt (H : Hp) (v : V) (x : List StepD × PV) : Prop := ∃ a s p, v = .ref a ∧ H a = some (.tup [s, p]) ∧ SpotAt H s x.1 ∧ ValAt H p x.2
theorem PutAt.keep {H H' : Hp} {v : V} {x : List StepD × PV} (h : PutAt H v x) (k : KeepT H H') : PutAt H' v x := by
  obtain ⟨a, s, p, e, h1, h2, h3⟩ := h
  exact ⟨a, s, p, e, k _ _ h1, h2.keep k, h3.keep k⟩
end Bk

set_option Elab.async false
set_option linter.all false
set_option maxRecDepth 100000
set_option maxHeartbeats 4000000
namespace L2
open PySem PySem.Spec PyProof.Rows
section
variable {prog : Program} {w : World} {A : Around} {R : Result → Shared → Prop} {s : Shared} {kx vx t1 i1 : Expr} {ifs1 : List Expr} {scope : Scope} {pos : Pos} {it acc : Value} {env : Env}
end
section
variable {X : Cx}
end
end L2

set_option Elab.async false
set_option linter.all false
set_option maxRecDepth 100000
set_option maxHeartbeats 4000000
namespace Bk
open PySem L2 Nm
def TabAt {α : Type} (key : α → Str) (R : V → α → Prop) (kvs : List (Key × V)) (xs : List α) : Prop := Pd (fun (kv : Key × V) (x : α) => kv.1 = Sum.inr (key x) ∧ R kv.2 x) kvs xs
def findK {α : Type} (key : α → Str) (xs : List α) (f : Str) : Option α := xs.find? fun x => decide (key x = f)
theorem TabAt.find {α : Type} {key : α → Str} {R : V → α → Prop} {f : Str} : ∀ {kvs : List (Key × V)} {xs : List α}, TabAt key R kvs xs → (findK key xs f = none ∧ valV kvs (Sum.inr f : Key) = none) ∨ ∃ x v, findK key xs f = some x ∧ valV kvs (Sum.inr f : Key) = some v ∧ R v x
  | _, _, .nil => .inl ⟨rfl, rfl⟩
  | _, _, @Pd.cons _ _ _ kv x kvs xs h t => by
    obtain ⟨k, v⟩ := kv
    obtain ⟨h1, h2⟩ := h
    have h1 : k = Sum.inr (key x) := h1
    subst h1
    by_cases e : key x = f
    · refine .inr ⟨x, v, by simp [findK, e], ?_, h2⟩
      subst e
      simp [valV]
    · have e1 : findK key (x :: xs) f = findK key xs f := by simp [findK, e]
      have e2 : valV ((Sum.inr (key x), v) :: kvs) (Sum.inr f : Key) = valV kvs (Sum.inr f : Key) := by
        simp [valV, e]
      rw [e1, e2]
      exact TabAt.find (key := key) (R := R) t
theorem findK_some {α : Type} {key : α → Str} {xs : List α} {f : Str} {x : α} (h : findK key xs f = some x) : x ∈ xs ∧ key x = f :=
  ⟨List.mem_of_find?_eq_some h, by have := List.find?_some h; simpa using this⟩
theorem TabAt.snoc {α : Type} {key : α → Str} {R : V → α → Prop} {kvs : List (Key × V)} {xs : List α} {x : α} {v : V} (h : TabAt key R kvs xs) (hn : ∀ y ∈ xs, key y ≠ key x) (r : R v x) : putK kvs (Sum.inr (key x) : Key) v = kvs ++ [(Sum.inr (key x), v)] ∧ TabAt key R (kvs ++ [(Sum.inr (key x), v)]) (xs ++ [x]) := by
  refine ⟨putK_new _ ?_, Pd.snoc h ⟨rfl, r⟩⟩
  rcases h.find (f := key x) with ⟨_, e⟩ | ⟨y, _, e, _, _⟩
  · exact e
  · obtain ⟨h1, h2⟩ := findK_some e
    exact absurd h2 (hn y h1)
theorem TabAt.mono {α : Type} {key : α → Str} {R S : V → α → Prop} {kvs : List (Key × V)} {xs : List α} (h : TabAt key R kvs xs) (f : ∀ v x, R v x → S v x) : TabAt key S kvs xs := Pd.mono (fun _ _ q => ⟨q.1, f _ _ q.2⟩) h
abbrev pairOf (B : BookD) (f : Str) : Option (KindD × MakeD) := findK (fun x : KindD × MakeD => x.2.1) (pairsD B) f
def FieldsIs (H : Hp) (v : V) (x : KindD × MakeD) : Prop := ∃ b, v = .ref b ∧ H b = some (.tup (x.2.2.map V.str))
def ComingIs (H : Hp) (B : BookD) (v : V) (k : Str) : Prop := ∃ b, v = .ref b ∧ H b = some (.tup (((comesD B k).map (·.1)).map V.str))
def GroundAt (C : Addr) (H : Hp) (g : Addr) (B : BookD) : Prop := ∃ (dx : Addr) (fs : List (Str × V)) (D1 D2 D3 D4 : Addr) (k1 k2 k3 k4 : List (Key × V)), H g = some (.ins C dx fs) ∧
  (fs.lookup ("plain" : Str) = some (.ref D1) ∧ fs.lookup ("kinds" : Str) = some (.ref D2) ∧ fs.lookup ("fields" : Str) = some (.ref D3) ∧ fs.lookup ("coming" : Str) = some (.ref D4) ∧ fs.lookup ("comes" : Str) = none ∧ fs.lookup ("sole" : Str) = none) ∧
  (H D1 = some (.dK k1) ∧ GotAt H k1 (plainG B)) ∧ (H D2 = some (.dK k2) ∧ TabAt (fun x : KindD × MakeD => x.2.1) (fun v x => v = .str x.1.1) k2 (pairsD B)) ∧
  (H D3 = some (.dK k3) ∧ TabAt (fun x : KindD × MakeD => x.2.1) (FieldsIs H) k3 (pairsD B)) ∧ (H D4 = some (.dK k4) ∧ TabAt id (ComingIs H B) k4 (kindsD B ++ [("num" : Str)]))
theorem GroundAt.same {C : Addr} {H H' : Hp} {g : Addr} {B : BookD} (h : GroundAt C H g B) (s : Same H H') : GroundAt C H' g B := by
  obtain ⟨dx, fs, D1, D2, D3, D4, k1, k2, k3, k4, h0, hl, ⟨a1, b1⟩, ⟨a2, b2⟩, ⟨a3, b3⟩, ⟨a4, b4⟩⟩ := h
  exact ⟨dx, fs, D1, D2, D3, D4, k1, k2, k3, k4, s _ _ h0, hl, ⟨s _ _ a1, b1.keep s.keepT⟩, ⟨s _ _ a2, b2⟩, ⟨s _ _ a3, b3.mono fun _ _ ⟨b, e, h⟩ => ⟨b, e, s _ _ h⟩⟩, ⟨s _ _ a4, b4.mono fun _ _ ⟨b, e, h⟩ => ⟨b, e, s _ _ h⟩⟩⟩
end Bk
namespace L2
open PySem
theorem KeepBut.updN {p S : Addr} {H H' : Hp} {o : HO} (k : KeepBut p H H') (hS : H S = none) : KeepBut p H (L2.upd H' S o) := fun b u hb n => by
  rw [upd_ne (ne_of_none hb hS)]; exact k b u hb n
end L2
namespace L2
open PySem PySem.Spec PyProof.Rows
end L2

set_option Elab.async false
set_option linter.all false
set_option maxRecDepth 100000
set_option maxHeartbeats 4000000
namespace L2
open PySem PySem.Spec PyProof.Rows
section
variable {X : Cx}
/-- xs.insert(i, y), i from 0 to the length -/
def rInsert : V → List V → Hp → VK → Prop := fun x vs H Q => ∃ (l : Addr) (xs : List V) (i : Nat) (y : V), x = .ref l ∧ vs = [.int i, y] ∧ H l = some (.lst xs) ∧ i ≤ xs.length ∧ xs.length < sizeLine ∧ Q .non (upd H l (.lst ((xs.take i ++ [y]) ++ xs.drop i)))
theorem mt_insert : MtM X "list.insert" rInsert := by
  intro pins s σ H x vs v us Q I rx rv h
  obtain ⟨l, xs, i, y, rfl, rfl, hH, hi, hz, q⟩ := h
  cases rx
  obtain ⟨u1, u2, rfl, r1, r2⟩ := rv.two
  obtain ⟨t, rfl⟩ := r1
  obtain ⟨z, its, n, r, hl, e⟩ := I.lstM hH
  have hln := line63
  obtain ⟨arr, harr⟩ : ∃ arr, arr = its.toArray := ⟨_, rfl⟩
  obtain ⟨xi, hxi⟩ : ∃ xi : Int, xi = (i : Int) := ⟨_, rfl⟩
  have hfit : ¬ (!Builtin.List.listFitsIndex xi) = true := by
    rw [fitsIndex_both (by omega) (by omega)]
    exact Bool.false_ne_true
  have hsz : arr.size ≤ sizeLine := by rw [harr, List.size_toArray]; omega
  have e' := e
  rw [← harr] at e'
  rw [← hxi]
  refine call_meets F.slot_list_insert ⟨_, e, rfl⟩ F.entry_list_insert (F.args_list_insert_3 _ _ _) (PySem.AutoSeq1.list_insert_list_int_val_1 l arr n xi t u2 hfit hsz) ⟨e', ?_⟩
  refine ⟨.non, _, I.lset (its' := (its.take i ++ [u2]) ++ its.drop i) hH e ?_ (((r.take i).append (.cons r2 .nil)).append (r.drop i)) ?_, rfl, q⟩
  · rw [← harr]
    have e1 : (if xi < 0 then (xi + ((arr.size : Nat) : Int)).toNat else min xi.toNat arr.size) = i := by
      rw [if_neg (by omega), harr, List.size_toArray]
      omega
    show (arr.extract 0 (if xi < 0 then (xi + ((arr.size : Nat) : Int)).toNat else min xi.toNat arr.size)).push u2 ++ arr.extract (if xi < 0 then (xi + ((arr.size : Nat) : Int)).toNat else min xi.toNat arr.size) = _
    rw [e1, harr]
    simp
    exact List.take_of_length_le (by simp)
  · rw [List.length_append, List.length_append, List.length_take, List.length_drop, List.length_singleton]
    omega
end
section
variable {prog : Program} {w : World} {A : Around} {E : Value → Shared → Prop} {s : Shared}
theorem setItem_slC {l b sl : Addr} {items new : Array Value} {n n2 : Nat} {vl vu : Value} {lo hi : Option Int} {a c : Nat} {Q : Unit → Shared → Prop}
    (e : s.heap.get? l = some { cls := .type "list", data := .seq items n }) (e2 : s.heap.get? b = some { cls := .type "list", data := .seq new n2 }) (hne : l ≠ b)
    (hs : s.heap.IsSliceOf sl vl vu .none) (pl : IsPart vl lo) (pu : IsPart vu hi) (hac : a ≤ c) (hc : c ≤ items.size) (hbd : sliceBounds lo hi none items.size = ((a : Int), (c : Int), 1))
    (hsz : items.size + new.size ≤ sizeLine) (h : Q () { s with heap := s.heap.update l (Obj.mapSeq fun xs => xs.extract 0 a ++ new ++ xs.extract c xs.size) }) :
    wpAny (model prog w) A (setItem (.ref l) (.ref sl) (.ref b)) Q E s := by
  have hl : s.heap.IsList l items := PySem.IsL.isList e
  have hb : s.heap.IsList b new := PySem.IsL.isList e2
  obtain ⟨os, hos, hcs, hds⟩ := id hs
  have hTs : s.TypeIs (.ref sl) "slice" := ⟨os, hos, hcs⟩
  have hstep : ¬ ((rawPart none == rawInt 0) = true) := Bool.false_ne_true
  have hsame : Builtin.List.listSameRef (.ref l) (.ref b) = false := by
    unfold Builtin.List.listSameRef
    exact beq_eq_false_iff_ne.mpr hne
  have hmax : (max (a : Int) (c : Int)).toNat = c := by omega
  have hz' : ((fun xs : Array Value => xs.extract 0 a ++ new ++ xs.extract c xs.size) items).size ≤ sizeLine + 1 := by
    simp only [Array.size_append, Array.size_extract]
    omega
  unfold setItem
  try with_reducible refine wpAny_holding ?_
  first | refine wpAny_bind (wpAny_pure ?_) | skip
  refine wpAny_bind (wpAny_sequenceKey hl.typeIs (by decide) ?_)
  refine wpAny_bind (wpAny_callSpecial?_slot (name := Str.ofString "__setitem__") hl.typeIs slot_list_setitem
    (wpAny_call_entry slot_list_setitem hl.typeIs entry_list_setitem ?_ (args_list_setitem _ _ _)))
  show wpAny _ _ (Builtin.List.listSubscript? (.ref sl) >>= _) _ _ s
  refine wpAny_bind ?_
  unfold Builtin.List.listSubscript?
  refine wpAny_bind (wpAny_specialOf hTs slice_no_index ?_)
  simp only [Option.isNone_none, if_true]
  refine wpAny_pure ?_
  show wpAny _ _ (typeOf (.ref sl) >>= _) _ _ s
  refine wpAny_bind (wpAny_typeOf hTs ?_)
  first
    | rw [if_neg (by decide)]
    | refine PySem.W.KFB.if_not (by decide) ?_
  rw [listSliceParts_eq]
  refine wpAny_bind (wpAny_bind (wpAny_field hos hds (x := .none) rfl (wpAny_bind (wpAny_listPart .none ?_))))
  rw [if_neg hstep]
  refine wpAny_bind (wpAny_field hos hds (x := vl) rfl (wpAny_bind (wpAny_listPart pl ?_)))
  refine wpAny_bind (wpAny_field hos hds (x := vu) rfl (wpAny_bind (wpAny_listPart pu (wpAny_pure ?_))))
  first
    | simp only [hsame, Bool.false_eq_true, if_false]
    | refine PySem.W.KFB.if_not hsame ?_
    | (dsimp only
       rw [if_neg (by rw [hsame]; exact Bool.false_ne_true)])
  refine wpAny_bind (m := Builtin.List.listAllItems (.ref b) "must assign iterable to extended slice") ?_
  unfold Builtin.List.listAllItems
  refine wpAny_bind (wpAny_typeOf hb.typeIs ?_)
  first
    | refine PySem.W.KFB.if_so (by decide) ?_
    | rw [if_pos (by decide)]
    | simp only [beq_self_eq_true, Bool.true_or, if_true]
  unfold Builtin.List.listItems
  refine wpAny_bind (wpAny_seqItems e2 rfl (wpAny_pure ?_))
  refine wpAny_bind (wpAny_bind (wpAny_seqItems e rfl (wpAny_pure ?_)))
  refine wpAny_bind (wpAny_of_eq ((sliceIndices_raw lo hi none items.size (by simp)).trans (congrArg (pure : Int × Int × Int → Sem (Int × Int × Int)) hbd)) ?_)
  show wpAny _ _ (if ((1 : Int) == 1) = true then _ else _) _ _ s
  rw [if_pos (by decide)]
  refine wpAny_bind (wpAny_rule ?_)
  first
    | simp only [notLongL hsz, Bool.false_eq_true, if_false]
    | refine PySem.W.KFB.if_not (notLongL hsz) ?_
  first | refine wpAny_bind (wpAny_pure ?_) | skip
  show wpAny _ _ (updateSeq l (fun xs => xs.extract 0 ((a : Int)).toNat ++ new ++ xs.extract (max (a : Int) (c : Int)).toNat xs.size) >>= _) _ _ s
  rw [hmax, Int.toNat_natCast]
  refine wpAny_bind (wpAny_updateSeq (hz := Nat.le_trans (Nat.le_add_right _ _) hsz) (_hz' := hz') e rfl ?_)
  refine wpAny_bind (wpAny_letGo ?_)
  first
    | exact wpAny_bind (wpAny_pure (wpAny_pure ⟨.none, rfl, wpAny_pure h⟩))
    | exact wpAny_pure ⟨.none, rfl, wpAny_pure h⟩
end
section
variable {X : Cx}
end
end L2

set_option Elab.async false
set_option linter.all false
set_option maxRecDepth 100000
set_option maxHeartbeats 4000000
namespace Bk
open PySem L2 Nm
inductive TH where
  | num (z : Int)
  | bl (b : Bool)
  | non
  | str (s : Str)
  | tup (ts : List TH)
mutual
inductive ThAt (H : Hp) : V → TH → Prop
  | num (z : Int) : ThAt H (.int z) (.num z)
  | bl (b : Bool) : ThAt H (.bl b) (.bl b)
  | non : ThAt H .non .non
  | str (s : Str) : ThAt H (.str s) (.str s)
  | tup {a : Addr} {vs : List V} {ts : List TH} : H a = some (.tup vs) → ThsAt H vs ts → ThAt H (.ref a) (.tup ts)
inductive ThsAt (H : Hp) : List V → List TH → Prop
  | nil : ThsAt H [] []
  | cons {v : V} {p : TH} {vs : List V} {ps : List TH} : ThAt H v p → ThsAt H vs ps → ThsAt H (v :: vs) (p :: ps)
end
mutual
theorem ThAt.keep {H H' : Hp} (k : KeepT H H') : ∀ {v : V} {p : TH}, ThAt H v p → ThAt H' v p
  | _, _, .num z => .num z
  | _, _, .bl z => .bl z
  | _, _, .non => .non
  | _, _, .str z => .str z
  | _, _, .tup h t => .tup (k _ _ h) (ThsAt.keep k t)
theorem ThsAt.keep {H H' : Hp} (k : KeepT H H') : ∀ {vs : List V} {ps : List TH}, ThsAt H vs ps → ThsAt H' vs ps
  | _, _, .nil => .nil
  | _, _, .cons h t => .cons (ThAt.keep k h) (ThsAt.keep k t)
end
theorem ThsAt.append {H : Hp} : ∀ {vs us : List V} {ps qs : List TH}, ThsAt H vs ps → ThsAt H us qs → ThsAt H (vs ++ us) (ps ++ qs)
  | _, _, _, _, .nil, h => h
  | _, _, _, _, .cons a t, h => .cons a (t.append h)
theorem ThsAt.length {H : Hp} : ∀ {vs : List V} {ps : List TH}, ThsAt H vs ps → vs.length = ps.length
  | _, _, .nil => rfl
  | _, _, .cons _ t => by rw [List.length_cons, List.length_cons, ThsAt.length t]
theorem ThsAt.get {H : Hp} : ∀ {vs : List V} {ps : List TH} {i : Nat} {x : V}, ThsAt H vs ps → vs[i]? = some x → ∃ p, ps[i]? = some p ∧ ThAt H x p
  | _, _, 0, _, .cons h _, e => by
    simp at e
    subst e
    exact ⟨_, rfl, h⟩
  | _, _, i + 1, x, .cons _ t, e => by
    obtain ⟨p, h1, h2⟩ := ThsAt.get (i := i) (x := x) t (by simpa using e)
    exact ⟨p, by simpa using h1, h2⟩
theorem ThsAt.take {H : Hp} : ∀ {vs : List V} {ps : List TH} (n : Nat), ThsAt H vs ps → ThsAt H (vs.take n) (ps.take n)
  | _, _, 0, _ => by rw [List.take_zero, List.take_zero]; exact .nil
  | _, _, n + 1, .nil => by rw [List.take_nil, List.take_nil]; exact .nil
  | _, _, n + 1, .cons h t => by rw [List.take_succ_cons, List.take_succ_cons]; exact .cons h (t.take n)
theorem ThsAt.drop {H : Hp} : ∀ {vs : List V} {ps : List TH} (n : Nat), ThsAt H vs ps → ThsAt H (vs.drop n) (ps.drop n)
  | _, _, 0, h => h
  | _, _, n + 1, .nil => by rw [List.drop_nil, List.drop_nil]; exact .nil
  | _, _, n + 1, .cons h t => by rw [List.drop_succ_cons, List.drop_succ_cons]; exact t.drop n
mutual
def toTh : PV → TH
  | .num z => .num z
  | .mk n ps => .tup (.str n :: toThs ps)
def toThs : List PV → List TH
  | [] => []
  | p :: r => toTh p :: toThs r
end
mutual
theorem ValAt.th {H : Hp} : ∀ {v : V} {p : PV}, ValAt H v p → ThAt H v (toTh p)
  | _, _, .num z => by unfold toTh; exact .num z
  | _, _, .mk h t => by unfold toTh; exact .tup h (.cons (.str _) (ValsAt.th t))
theorem ValsAt.th {H : Hp} : ∀ {vs : List V} {ps : List PV}, ValsAt H vs ps → ThsAt H vs (toThs ps)
  | _, _, .nil => by unfold toThs; exact .nil
  | _, _, .cons h t => by unfold toThs; exact .cons (ValAt.th h) (ValsAt.th t)
end
theorem toThs_map : ∀ ps : List PV, toThs ps = ps.map toTh
  | [] => by rw [toThs]; rfl
  | p :: r => by rw [toThs, toThs_map r]; rfl
mutual
def thData : TH → PyData
  | .num z => .int z
  | .bl b => .bool b
  | .non => .none
  | .str s => .str s
  | .tup ts => .tuple (thDatas ts)
def thDatas : List TH → List PyData
  | [] => []
  | p :: r => thData p :: thDatas r
end
mutual
theorem ThAt.dp {K : PySem.W.Frag} {H : Hp} : ∀ {v : V} {p : TH}, ThAt H v p → Dp K H v (thData p)
  | _, _, .num z => by unfold thData; exact .int z
  | _, _, .bl z => by unfold thData; exact .bl z
  | _, _, .non => by unfold thData; exact .non
  | _, _, .str z => by unfold thData; exact .str z
  | _, _, .tup h t => by unfold thData; exact .tup (SqT.of h) (ThsAt.dp t)
theorem ThsAt.dp {K : PySem.W.Frag} {H : Hp} : ∀ {vs : List V} {ps : List TH}, ThsAt H vs ps → DpAll K H vs (thDatas ps)
  | _, _, .nil => by unfold thDatas; exact .nil
  | _, _, .cons h t => by unfold thDatas; exact .cons (ThAt.dp h) (ThsAt.dp t)
end
/-- so deep at most, with few parts, and texts that are short -/
def ThOk : Nat → TH → Prop
  | 0 => fun _ => False
  | n + 1 => fun t => (∃ z, t = .num z) ∨ (∃ b, t = .bl b) ∨ t = .non ∨ (∃ s, t = .str s ∧ PyData.strOk s = true) ∨ ∃ ts, t = .tup ts ∧ ts.length ≤ 6 ∧ ∀ q ∈ ts, ThOk n q
theorem ThOk.up : ∀ {n : Nat} {p : TH}, ThOk n p → ThOk (n + 1) p
  | 0, _, h => h.elim
  | n + 1, p, h => by
    rcases h with h | h | h | h | ⟨ts, e, hl, h⟩
    · exact .inl h
    · exact .inr (.inl h)
    · exact .inr (.inr (.inl h))
    · exact .inr (.inr (.inr (.inl h)))
    · exact .inr (.inr (.inr (.inr ⟨ts, e, hl, fun q hq => (h q hq).up⟩)))
theorem ThOk.mono {n : Nat} {p : TH} (h : ThOk n p) : ∀ {k : Nat}, n ≤ k → ThOk k p
  | 0, hk => by
    have : n = 0 := by omega
    rw [this] at h; exact h
  | k + 1, hk => by
    by_cases e : n = k + 1
    · rw [← e]; exact h
    · exact (ThOk.mono h (k := k) (by omega)).up
theorem ThOk.parts {n : Nat} {ts : List TH} (h : ThOk (n + 1) (.tup ts)) : ts.length ≤ 6 ∧ ∀ q ∈ ts, ThOk n q := by
  rcases h with ⟨_, e⟩ | ⟨_, e⟩ | e | ⟨_, e, _⟩ | ⟨ts', e, hl, h⟩
  · cases e
  · cases e
  · cases e
  · cases e
  · cases e; exact ⟨hl, h⟩
theorem ThOk.tup {n : Nat} {ts : List TH} (hl : ts.length ≤ 6) (h : ∀ q ∈ ts, ThOk n q) : ThOk (n + 1) (.tup ts) := .inr (.inr (.inr (.inr ⟨ts, rfl, hl, h⟩)))
theorem ThOk.str {n : Nat} {s : Str} (h : PyData.strOk s = true) : ThOk (n + 1) (.str s) := .inr (.inr (.inr (.inl ⟨s, rfl, h⟩)))
theorem ThOk.lay : ∀ {n : Nat} {t : TH}, ThOk n t → (thData t).canLay0 = true ∧ (thData t).depth ≤ n
  | 0, _, h => h.elim
  | n + 1, t, h => by
    rcases h with ⟨z, rfl⟩ | ⟨b, rfl⟩ | rfl | ⟨s, rfl, hs⟩ | ⟨ts, rfl, hl, h⟩
    · unfold thData; exact ⟨by simp [PyData.canLay0], by simp [PyData.depth]⟩
    · unfold thData; exact ⟨by simp [PyData.canLay0], by simp [PyData.depth]⟩
    · unfold thData; exact ⟨by simp [PyData.canLay0], by simp [PyData.depth]⟩
    · unfold thData; exact ⟨by simp [PyData.canLay0, hs], by simp [PyData.depth]⟩
    · have go : ∀ us : List TH, (∀ q ∈ us, ThOk n q) → PyData.canLayAll0 (thDatas us) = true ∧ PyData.depthAll (thDatas us) ≤ n := by
        intro us
        induction us with
        | nil => intro _; unfold thDatas; exact ⟨by simp [PyData.canLayAll0], by simp [PyData.depthAll]⟩
        | cons u r ih =>
          intro hh
          obtain ⟨h1, h2⟩ := (hh u List.mem_cons_self).lay
          obtain ⟨h3, h4⟩ := ih fun x hx => hh x (List.mem_cons_of_mem _ hx)
          unfold thDatas
          refine ⟨by simp [PyData.canLayAll0, h1, h3], ?_⟩
          unfold PyData.depthAll
          omega
      obtain ⟨h1, h2⟩ := go ts h
      unfold thData
      refine ⟨by simp [PyData.canLay0, h1], ?_⟩
      unfold PyData.depth
      omega
theorem ThOk.shaped {n : Nat} {t : TH} (h : ThOk n t) (hn : n ≤ 64) : SeqAt.shaped (thData t) = true := by
  obtain ⟨h1, h2⟩ := h.lay
  unfold SeqAt.shaped
  rw [h1]
  have : (thData t).depth ≤ 64 := by omega
  simpa using this
theorem Nice.th : ∀ {n : Nat} {p : PV}, Nice n p → ThOk (n + 1) (toTh p)
  | 0, _, h => h.elim
  | n + 1, p, h => by
    rcases h with ⟨z, rfl⟩ | ⟨nm, ps, rfl, w, hl, h⟩
    · rw [toTh]; exact .inl ⟨z, rfl⟩
    · rw [toTh]
      refine .tup (by rw [List.length_cons, toThs_map, List.length_map]; omega) fun q hq => ?_
      rcases List.mem_cons.mp hq with e | e
      · rw [e]; exact .str (strOk_word w)
      · rw [toThs_map] at e
        obtain ⟨x, hx, rfl⟩ := List.mem_map.mp e
        exact (h x hx).th
end Bk
namespace L2
open PySem PySem.Spec PyProof.Rows Bk
section
variable {X : Cx}
end
end L2

set_option Elab.async false
set_option linter.all false
set_option maxRecDepth 100000
set_option maxHeartbeats 4000000
namespace Bk
open PySem L2 Nm
def PendAt (H : Hp) (u : V) (x : Str × TH) : Prop := ∃ a v, u = .ref a ∧ H a = some (.tup [.str x.1, v]) ∧ ThAt H v x.2
theorem PendAt.keep {H H' : Hp} (k : KeepT H H') {u : V} {x : Str × TH} (h : PendAt H u x) : PendAt H' u x := by
  obtain ⟨a, v, e, h1, h2⟩ := h
  exact ⟨a, v, e, k _ _ h1, h2.keep k⟩
end Bk

set_option Elab.async false
set_option linter.all false
set_option maxRecDepth 100000
set_option maxHeartbeats 4000000
namespace Nm
open PySem L2
structure NamesOk (l : List Str) (many : Nat) : Prop where
  len : l.length = many
  nd : l.Nodup
  word : ∀ z ∈ l, Word z
  nn : ("num" : Str) ∈ l → ("numb" : Str) ∉ l
end Nm

set_option Elab.async false
set_option linter.all false
set_option maxRecDepth 100000
set_option maxHeartbeats 4000000
namespace L2
open PySem PySem.Spec PyProof.Rows
section
variable {prog : Program} {w : World} {A : Around} {E : Value → Shared → Prop}
end

section
variable {X : Cx}
end
end L2

set_option Elab.async false
set_option linter.all false
set_option maxRecDepth 100000
set_option maxHeartbeats 4000000
namespace L2
open PySem PySem.Spec PyProof.Rows
end L2
namespace Nm
open PySem PySem.Spec PyProof.Rows L2
end Nm

set_option Elab.async false
set_option linter.all false
set_option maxRecDepth 100000
set_option maxHeartbeats 4000000
namespace Bk
open PySem L2 Nm
theorem Nice.size3 : ∀ {n : Nat} {p : PV}, Nice n p → 3 * pvSize p + 1 ≤ 4 ^ n
  | 0, _, h => h.elim
  | n + 1, p, h => by
    have hpos : 0 < 4 ^ n := Nat.pow_pos (by decide)
    obtain ⟨Y, hY⟩ : ∃ Y, 4 ^ n = Y + 1 := ⟨4 ^ n - 1, by omega⟩
    have e4 : 4 ^ (n + 1) = 4 * (Y + 1) := by rw [Nat.pow_succ, hY]; omega
    rw [e4]
    rcases h with ⟨z, rfl⟩ | ⟨nm, ps, rfl, _, hl, h⟩
    · rw [pvSize]; omega
    · have go : ∀ qs : List PV, (∀ q ∈ qs, Nice n q) → 3 * pvSizes qs ≤ qs.length * Y := by
        intro qs
        induction qs with
        | nil => intro _; rw [pvSizes]; exact Nat.zero_le _
        | cons q r ih =>
          intro hq
          have h1 := (hq q List.mem_cons_self).size3
          have h2 := ih fun x hx => hq x (List.mem_cons_of_mem _ hx)
          rw [hY] at h1
          have h5 : (r.length + 1) * Y = r.length * Y + Y := Nat.succ_mul _ _
          rw [pvSizes, List.length_cons, h5]
          omega
      have h1 := go ps h
      have h2 : ps.length * Y ≤ 4 * Y := Nat.mul_le_mul_right _ hl
      rw [pvSize]
      omega
theorem Nice.size {n : Nat} {p : PV} (h : Nice n p) (hn : n ≤ 10) : pvSize p ≤ 349525 := by
  have h1 := h.size3
  have h2 : 4 ^ n ≤ 4 ^ 10 := Nat.pow_le_pow_right (by decide) hn
  have h3 : (4 : Nat) ^ 10 = 1048576 := by decide
  omega
end Bk
namespace Bk
open PySem L2 Nm
theorem TabAt.keys {α : Type} {key : α → Str} {R : V → α → Prop} : ∀ {kvs : List (Key × V)} {xs : List α}, TabAt key R kvs xs → kvs.map (·.1) = xs.map fun x => (Sum.inr (key x) : Key)
  | _, _, .nil => rfl
  | _, _, .cons h t => by
    rw [List.map_cons, List.map_cons, TabAt.keys (key := key) (R := R) t, h.1]
end Bk

set_option Elab.async false
set_option linter.all false
set_option maxRecDepth 100000
set_option maxHeartbeats 4000000
namespace L2
open PySem PySem.Spec PyProof.Rows
end L2
namespace Bk
open PySem L2 Nm
inductive TestD where
  | is_ (sp : List StepD) (nm : Str)
  | most (p q : Option (List StepD)) (d : Int)
def OSpotAt (H : Hp) (v : V) : Option (List StepD) → Prop
  | none => v = .non
  | some sp => SpotAt H v sp
theorem SpotAt.keepK {H H' : Hp} (k : KeepT H H') {v : V} {sp : List StepD} (h : SpotAt H v sp) : SpotAt H' v sp := by
  obtain ⟨a, us, e, h1, h2⟩ := h
  exact ⟨a, us, e, k _ _ h1, h2.mono fun _ _ z => z.keep k⟩
theorem OSpotAt.keep {H H' : Hp} (k : KeepT H H') {v : V} {o : Option (List StepD)} (h : OSpotAt H v o) : OSpotAt H' v o := by
  cases o with
  | none => exact h
  | some sp => exact SpotAt.keepK k h
def TestAt (H : Hp) (v : V) : TestD → Prop
  | .is_ sp nm => ∃ a sv, v = .ref a ∧ H a = some (.tup [.str "is", sv, .str nm]) ∧ SpotAt H sv sp
  | .most p q d => ∃ a pv qv, v = .ref a ∧ H a = some (.tup [.str "most", pv, qv, .int d]) ∧ OSpotAt H pv p ∧ OSpotAt H qv q
theorem TestAt.keep {H H' : Hp} (k : KeepT H H') {v : V} {t : TestD} (h : TestAt H v t) : TestAt H' v t := by
  cases t with
  | is_ sp nm =>
    obtain ⟨a, sv, e, h1, h2⟩ := h
    exact ⟨a, sv, e, k _ _ h1, h2.keepK k⟩
  | most p q d =>
    obtain ⟨a, pv, qv, e, h1, h2, h3⟩ := h
    exact ⟨a, pv, qv, e, k _ _ h1, h2.keep k, h3.keep k⟩
def numV : Option Int → V
  | some z => .int z
  | none => .non
def headIs (nm : Str) : Option PV → Bool
  | some (.mk n _) => decide (n = nm)
  | _ => false
def thOf : Option PV → TH
  | none => .non
  | some p => toTh p
theorem FirstIs.th {H : Hp} {u : V} {o : Option PV} (h : FirstIs H u o) : ThAt H u (thOf o) := by
  cases o with
  | none => cases (show u = .non from h); exact .non
  | some p => exact ValAt.th h
end Bk

set_option Elab.async false
set_option linter.all false
set_option maxRecDepth 100000
set_option maxHeartbeats 4000000
namespace HT
open PySem PySem.Spec PyProof.Rows
section
variable {prog : Program} {w : World} {A : Around} {E : Value → Shared → Prop} {s : Shared}
end
end HT
namespace L2
open PySem PySem.Spec PyProof.Rows
end L2

set_option Elab.async false
set_option linter.all false
set_option maxRecDepth 100000
set_option maxHeartbeats 4000000
namespace L2
open PySem PySem.Spec PyProof.Rows
section
variable {prog : Program} {w : World} {A : Around} {E : Value → Shared → Prop} {s : Shared}
end
structure ZP (h : Heap) (z TI TO i1 i2 t1 t2 : Addr) (k : Nat) : Prop where
  zip : ∃ f0 b, (f0 = .none ∨ ∃ T : Nat, f0 = rawInt T) ∧ ZipAt h z TI TO f0 (.bool b)
  ins : IsPair h TI (.ref i1) (.ref i2)
  out : ∃ a b, IsPair h TO a b
  it1 : h.IsTupleIter i1 t1 k
  it2 : h.IsTupleIter i2 t2 k
end L2

set_option Elab.async false
set_option linter.all false
set_option maxRecDepth 100000
set_option maxHeartbeats 4000000
namespace Bk
open PySem L2 Nm
inductive Sh where
  | any
  | num (lo hi : Option Int)
  | mk (m : Str) (ss : List Sh)
  | held (n : Str) (s : Sh)
  | either (ss : List Sh)
mutual
inductive ShAt (H : Hp) : V → Sh → Prop
  | any {a : Addr} : H a = some (.tup [.str "any"]) → ShAt H (.ref a) .any
  | num {a : Addr} {lo hi : Option Int} : H a = some (.tup [.str "num", numV lo, numV hi]) → ShAt H (.ref a) (.num lo hi)
  | mk {a b : Addr} {m : Str} {vs : List V} {ss : List Sh} : H a = some (.tup [.str "make", .str m, .ref b]) → H b = some (.tup vs) → ShsAt H vs ss → ShAt H (.ref a) (.mk m ss)
  | held {a : Addr} {n : Str} {v : V} {s : Sh} : H a = some (.tup [.str "held", .str n, v]) → ShAt H v s → ShAt H (.ref a) (.held n s)
  | either {a b : Addr} {vs : List V} {ss : List Sh} : H a = some (.tup [.str "either", .ref b]) → H b = some (.tup vs) → ShsAt H vs ss → ShAt H (.ref a) (.either ss)
inductive ShsAt (H : Hp) : List V → List Sh → Prop
  | nil : ShsAt H [] []
  | cons {v : V} {s : Sh} {vs : List V} {ss : List Sh} : ShAt H v s → ShsAt H vs ss → ShsAt H (v :: vs) (s :: ss)
end
mutual
theorem ShAt.keep {H H' : Hp} (k : KeepT H H') : ∀ {v : V} {s : Sh}, ShAt H v s → ShAt H' v s
  | _, _, .any h => .any (k _ _ h)
  | _, _, .num h => .num (k _ _ h)
  | _, _, .mk h1 h2 t => .mk (k _ _ h1) (k _ _ h2) (ShsAt.keep k t)
  | _, _, .held h t => .held (k _ _ h) (ShAt.keep k t)
  | _, _, .either h1 h2 t => .either (k _ _ h1) (k _ _ h2) (ShsAt.keep k t)
theorem ShsAt.keep {H H' : Hp} (k : KeepT H H') : ∀ {vs : List V} {ss : List Sh}, ShsAt H vs ss → ShsAt H' vs ss
  | _, _, .nil => .nil
  | _, _, .cons h t => .cons (ShAt.keep k h) (ShsAt.keep k t)
end
theorem ShsAt.length {H : Hp} : ∀ {vs : List V} {ss : List Sh}, ShsAt H vs ss → vs.length = ss.length
  | _, _, .nil => rfl
  | _, _, .cons _ t => by rw [List.length_cons, List.length_cons, ShsAt.length t]
theorem ShsAt.append {H : Hp} : ∀ {vs us : List V} {ps qs : List Sh}, ShsAt H vs ps → ShsAt H us qs → ShsAt H (vs ++ us) (ps ++ qs)
  | _, _, _, _, .nil, h => h
  | _, _, _, _, .cons a t, h => .cons a (t.append h)
theorem ShsAt.get {H : Hp} : ∀ {vs : List V} {ps : List Sh} {i : Nat} {x : V}, ShsAt H vs ps → vs[i]? = some x → ∃ p, ps[i]? = some p ∧ ShAt H x p
  | _, _, 0, _, .cons h _, e => by
    simp at e
    subst e
    exact ⟨_, rfl, h⟩
  | _, _, i + 1, x, .cons _ t, e => by
    obtain ⟨p, h1, h2⟩ := ShsAt.get (i := i) (x := x) t (by simpa using e)
    exact ⟨p, by simpa using h1, h2⟩
theorem ShsAt.set {H : Hp} : ∀ {vs : List V} {ps : List Sh} {x : V} {p : Sh} (i : Nat), ShsAt H vs ps → ShAt H x p → ShsAt H (vs.set i x) (ps.set i p)
  | _, _, _, _, _, .nil, _ => .nil
  | _, _, _, _, 0, .cons h t, r => .cons r t
  | _, _, _, _, i + 1, .cons h t, r => .cons h (ShsAt.set i t r)
abbrev LineD := List TestD × List (Str × List StepD)
def HeldAt (H : Hp) (v : V) (x : Str × List StepD) : Prop := ∃ a sv, v = .ref a ∧ H a = some (.tup [.str x.1, sv]) ∧ SpotAt H sv x.2
theorem HeldAt.keep {H H' : Hp} (k : KeepT H H') {v : V} {x : Str × List StepD} (h : HeldAt H v x) : HeldAt H' v x := by
  obtain ⟨a, sv, e, h1, h2⟩ := h
  exact ⟨a, sv, e, k _ _ h1, h2.keepK k⟩
def comesB (B : BookD) (m : Str) : Bool := match pairOf B m with
  | some x => allGot (plainG B) x.2.2
  | none => false
mutual
def cntD (B : BookD) : Sh → Nat
  | .any => 1
  | .num _ _ => 1
  | .held _ s => cntD B s
  | .either ss => cntSum B ss
  | .mk m ss => if comesB B m = true then cntProd B ss else 0
def cntSum (B : BookD) : List Sh → Nat
  | [] => 0
  | s :: r => cntD B s + cntSum B r
def cntProd (B : BookD) : List Sh → Nat
  | [] => 1
  | s :: r => cntD B s * cntProd B r
end
/-- as the book lets, so deep -/
def WfS (B : BookD) : Nat → Str → Sh → Prop
  | 0 => fun _ _ => False
  | n + 1 => fun k s => s = .any ∨ (∃ lo hi, s = .num lo hi ∧ k = "num") ∨ (∃ q ∈ B, ∃ m ∈ q.2, ∃ ss, q.1 = k ∧ s = .mk m.1 ss ∧ Pd (WfS B n) m.2 ss) ∨ (∃ nm s', s = .held nm s' ∧ PyData.strOk nm = true ∧ WfS B n k s') ∨ ∃ ss, s = .either ss ∧ ss.length ≤ 4 ∧ 1 ≤ ss.length ∧ ∀ s' ∈ ss, WfS B n k s'
theorem WfS.up {B : BookD} : ∀ {n : Nat} {k : Str} {s : Sh}, WfS B n k s → WfS B (n + 1) k s
  | 0, _, _, h => h.elim
  | n + 1, k, s, h => by
    rcases h with h | h | ⟨q, hq, m, hm, ss, e1, e2, h⟩ | ⟨nm, s', e, ho, h⟩ | ⟨ss, e, h1, h2, h⟩
    · exact .inl h
    · exact .inr (.inl h)
    · exact .inr (.inr (.inl ⟨q, hq, m, hm, ss, e1, e2, h.mono fun _ _ z => WfS.up z⟩))
    · exact .inr (.inr (.inr (.inl ⟨nm, s', e, ho, h.up⟩)))
    · exact .inr (.inr (.inr (.inr ⟨ss, e, h1, h2, fun s' hs => (h s' hs).up⟩)))
theorem WfS.mono {B : BookD} {n : Nat} {k : Str} {s : Sh} (h : WfS B n k s) : ∀ {m : Nat}, n ≤ m → WfS B m k s
  | 0, hm => by
    have : n = 0 := by omega
    rw [this] at h; exact h
  | m + 1, hm => by
    by_cases e : n = m + 1
    · rw [← e]; exact h
    · exact (WfS.mono h (m := m) (by omega)).up
end Bk

set_option Elab.async false
set_option linter.all false
set_option maxRecDepth 100000
set_option maxHeartbeats 4000000
namespace L2
open PySem PySem.Spec PyProof.Rows
def SqK (K : PySem.W.Frag) (a : Addr) (xs : List V) : Prop := ∃ (o : Obj) (its : Array Value) (n : Nat), K.lookup a = some o ∧ o.cls = .type "tuple" ∧ o.data = .seq its n ∧ its.size ≤ sizeLine ∧ Vals xs its.toList ∧ o.dict = none
inductive Cv where
  | int (z : Int)
  | str (s : Str)
  | tup (l : List Cv)
mutual
inductive CvAt (K : PySem.W.Frag) : V → Cv → Prop
  | int (z : Int) : CvAt K (.int z) (.int z)
  | str (s : Str) : CvAt K (.str s) (.str s)
  | tup {a : Addr} {vs : List V} {l : List Cv} : SqK K a vs → CvsAt K vs l → CvAt K (.ref a) (.tup l)
inductive CvsAt (K : PySem.W.Frag) : List V → List Cv → Prop
  | nil : CvsAt K [] []
  | cons {v : V} {c : Cv} {vs : List V} {cs : List Cv} : CvAt K v c → CvsAt K vs cs → CvsAt K (v :: vs) (c :: cs)
end
section
variable {X : Cx}
end
/-- a tuple that stands in the heap, or in the text's own constants -/
def TupAt (K : PySem.W.Frag) (H : Hp) (a : Addr) (xs : List V) : Prop := H a = some (.tup xs) ∨ SqK K a xs
theorem TupAt.keep {K : PySem.W.Frag} {H H' : Hp} {a : Addr} {xs : List V} (h : TupAt K H a xs) (k : Bk.KeepT H H') : TupAt K H' a xs := by
  rcases h with h | h
  · exact .inl (k _ _ h)
  · exact .inr h
theorem SqT.keep {K : PySem.W.Frag} {H H' : Hp} {a : Addr} {xs : List V} (h : SqT K H a xs) (s : Same H H') : SqT K H' a xs := by
  rcases h with h | h
  · rcases h with h | ⟨o, h⟩
    · exact .inl (.inl (s _ _ h))
    · exact .inl (.inr ⟨o, s _ _ h⟩)
  · exact .inr h
end L2

set_option Elab.async false
set_option linter.all false
set_option maxRecDepth 100000
set_option maxHeartbeats 4000000
namespace Bk
open PySem L2 Nm
def LineIs (K : PySem.W.Frag) (H : Hp) (v : V) (l : LineD) : Prop := ∃ a ta ha us ws, v = .ref a ∧ TupAt K H a [.ref ta, .ref ha] ∧ TupAt K H ta us ∧ Pd (TestAt H) us l.1 ∧ TupAt K H ha ws ∧ Pd (HeldAt H) ws l.2
theorem LineIs.keep {K : PySem.W.Frag} {H H' : Hp} (k : KeepT H H') {v : V} {l : LineD} (h : LineIs K H v l) : LineIs K H' v l := by
  obtain ⟨a, ta, ha, us, ws, e, h1, h2, h3, h4, h5⟩ := h
  exact ⟨a, ta, ha, us, ws, e, h1.keep k, h2.keep k, h3.mono fun _ _ z => z.keep k, h4.keep k, h5.mono fun _ _ z => z.keep k⟩
mutual
def ubD : Sh → Nat
  | .any => 1
  | .num _ _ => 1
  | .held _ s => ubD s
  | .either ss => ubSum ss
  | .mk _ ss => ubProd ss
def ubSum : List Sh → Nat
  | [] => 0
  | s :: r => ubD s + ubSum r
def ubProd : List Sh → Nat
  | [] => 1
  | s :: r => ubD s * ubProd r
end
theorem pd_all {α β : Type} {R : α → β → Prop} {Q : β → Prop} (f : ∀ a b, R a b → Q b) : ∀ {as : List α} {bs : List β}, Pd R as bs → ∀ b ∈ bs, Q b
  | _, _, .nil, b, hb => by cases hb
  | _, _, .cons h t, b, hb => by
    rcases List.mem_cons.mp hb with e | e
    · rw [e]; exact f _ _ h
    · exact pd_all f t b e
theorem ubProd_pos : ∀ {ss : List Sh}, (∀ s ∈ ss, 1 ≤ ubD s) → 1 ≤ ubProd ss
  | [], _ => by rw [ubProd]; exact Nat.le_refl _
  | s :: r, h => by
    rw [ubProd]
    exact Nat.mul_pos (h s List.mem_cons_self) (ubProd_pos fun x hx => h x (List.mem_cons_of_mem _ hx))
theorem ubSum_mem : ∀ {ss : List Sh} {s : Sh}, s ∈ ss → ubD s ≤ ubSum ss
  | [], _, h => by cases h
  | x :: r, s, h => by
    rw [ubSum]
    rcases List.mem_cons.mp h with e | e
    · rw [e]; omega
    · have := ubSum_mem e; omega
theorem WfS.pos {B : BookD} : ∀ {n : Nat} {k : Str} {s : Sh}, WfS B n k s → 1 ≤ ubD s
  | 0, _, _, h => h.elim
  | n + 1, k, s, h => by
    rcases h with rfl | ⟨lo, hi, rfl, _⟩ | ⟨q, _, m, _, ss, _, rfl, h⟩ | ⟨nm, s', rfl, _, h⟩ | ⟨ss, rfl, _, h1, h⟩
    · rw [ubD]; exact Nat.le_refl _
    · rw [ubD]; exact Nat.le_refl _
    · rw [ubD]
      exact ubProd_pos (pd_all (fun _ _ z => WfS.pos z) h)
    · rw [ubD]; exact h.pos
    · rw [ubD]
      cases ss with
      | nil => simp at h1
      | cons s r => exact Nat.le_trans (h s List.mem_cons_self).pos (ubSum_mem List.mem_cons_self)
end Bk

set_option Elab.async false
set_option linter.all false
set_option maxRecDepth 100000
set_option maxHeartbeats 4000000
namespace Bk
open PySem L2 Nm
abbrev HeldD := List (Str × PV)
def lowOk : Option Int → Int → Bool
  | none, _ => true
  | some a, z => decide (a ≤ z)
def highOk : Option Int → Int → Bool
  | none, _ => true
  | some b, z => decide (z ≤ b)
def spanTry (lo hi : Option Int) : PV → HeldD → Option HeldD
  | .num z, h => if (lowOk lo z && highOk hi z) = true then some h else none
  | .mk _ _, _ => none
def partsOf : PV → List PV
  | .num _ => []
  | .mk _ ps => ps
def onTry (c : Nat) (f : HeldD → List (Option HeldD)) : Option HeldD → List (Option HeldD)
  | none => List.replicate c none
  | some h => f h
mutual
def triesD (B : BookD) : Sh → PV → HeldD → List (Option HeldD)
  | .any, _, h => [some h]
  | .num lo hi, p, h => [spanTry lo hi p h]
  | .held n s, p, h => triesD B s p (h ++ [(n, p)])
  | .either ss, p, h => sideTries B ss p h
  | .mk m ss, p, h => if headIs m (some p) = true then partTries B ss (partsOf p) [some h] else List.replicate (if comesB B m = true then cntProd B ss else 0) none
def sideTries (B : BookD) : List Sh → PV → HeldD → List (Option HeldD)
  | [], _, _ => []
  | s :: r, p, h => triesD B s p h ++ sideTries B r p h
def partTries (B : BookD) : List Sh → List PV → List (Option HeldD) → List (Option HeldD)
  | [], _, acc => acc
  | s :: r, ps, acc => partTries B r ps.tail (acc.map (onTry (cntD B s) fun h => triesD B s (ps.headD (.num 0)) h)).flatten
end
end Bk

set_option Elab.async false
set_option linter.all false
set_option maxRecDepth 100000
set_option maxHeartbeats 4000000
namespace L2
open PySem PySem.Spec PyProof.Rows
end L2

set_option Elab.async false
set_option linter.all false
set_option maxRecDepth 100000
set_option maxHeartbeats 4000000
namespace HT
open PySem PySem.Spec PyProof.Rows
end HT
namespace L2
open PySem PySem.Spec PyProof.Rows
section
variable {X : Cx}
end
end L2

set_option Elab.async false
set_option linter.all false
set_option maxRecDepth 100000
set_option maxHeartbeats 4000000
namespace Bk
open PySem L2 Nm
def Wsp (sp : List StepD) : Prop := ∀ s ∈ sp, Word s.1
def TestOk : TestD → Prop
  | .is_ sp nm => Wsp sp ∧ Word nm
  | .most p q _ => (∀ sp, p = some sp → Wsp sp) ∧ ∀ sp, q = some sp → Wsp sp
def LineOk (l : LineD) : Prop := (∀ t ∈ l.1, TestOk t) ∧ ∀ x ∈ l.2, PyData.strOk x.1 = true ∧ Wsp x.2
def Lay (n : Nat) (d : PyData) : Prop := d.canLay0 = true ∧ d.depth ≤ n
theorem Lay.mono {n m : Nat} (h : n ≤ m) {d : PyData} (x : Lay n d) : Lay m d := ⟨x.1, Nat.le_trans x.2 h⟩
theorem lay_all {n : Nat} : ∀ {ds : List PyData}, (∀ d ∈ ds, Lay n d) → PyData.canLayAll0 ds = true ∧ PyData.depthAll ds ≤ n
  | [], _ => ⟨by simp [PyData.canLayAll0], by simp [PyData.depthAll]⟩
  | d :: r, h => by
    obtain ⟨h1, h2⟩ := h d List.mem_cons_self
    obtain ⟨h3, h4⟩ := lay_all (n := n) fun x hx => h x (List.mem_cons_of_mem _ hx)
    refine ⟨by simp only [PyData.canLayAll0, h1, h3, Bool.and_self], ?_⟩
    simp only [PyData.depthAll]
    omega
theorem Lay.tup {n : Nat} {ds : List PyData} (h : ∀ d ∈ ds, Lay n d) : Lay (n + 1) (.tuple ds) := by
  obtain ⟨h1, h2⟩ := lay_all h
  exact ⟨by simpa [PyData.canLay0] using h1, by simp only [PyData.depth]; omega⟩
theorem Lay.lst {n : Nat} {ds : List PyData} (h : ∀ d ∈ ds, Lay n d) : Lay (n + 1) (.list ds) := by
  obtain ⟨h1, h2⟩ := lay_all h
  exact ⟨by simpa [PyData.canLay0] using h1, by simp only [PyData.depth]; omega⟩
theorem Lay.str {n : Nat} {z : Str} (h : PyData.strOk z = true) : Lay n (.str z) := ⟨by simpa [PyData.canLay0] using h, by simp [PyData.depth]⟩
theorem Lay.int {n : Nat} (z : Int) : Lay n (.int z) := ⟨by simp [PyData.canLay0], by simp [PyData.depth]⟩
theorem Lay.non {n : Nat} : Lay n .none := ⟨by simp [PyData.canLay0], by simp [PyData.depth]⟩
theorem Lay.shaped {n : Nat} {d : PyData} (h : Lay n d) (hn : n ≤ 64) : SeqAt.shaped d = true := by
  unfold SeqAt.shaped
  rw [h.1]
  have : d.depth ≤ 64 := Nat.le_trans h.2 hn
  simpa using this
theorem Wsp.snoc {sp : List StepD} (h : Wsp sp) {s : StepD} (hs : Word s.1) : Wsp (sp ++ [s]) := fun x hx => by
  rcases List.mem_append.mp hx with z | z
  · exact h x z
  · rw [List.mem_singleton.mp z]; exact hs
end Bk

set_option Elab.async false
set_option linter.all false
set_option maxRecDepth 100000
set_option maxHeartbeats 4000000
namespace Bk
open PySem L2 Nm
def movedT (sp : List StepD) : TestD → TestD
  | .is_ q nm => .is_ (sp ++ q) nm
  | .most p q d => .most (p.map (sp ++ ·)) (q.map (sp ++ ·)) d
def aheadL (sp : List StepD) (l : LineD) : LineD := (l.1.map (movedT sp), l.2.map fun x => (x.1, sp ++ x.2))
theorem TestOk.moved {sp : List StepD} (h : Wsp sp) {t : TestD} (ht : TestOk t) : TestOk (movedT sp t) := by
  have ap : ∀ q, Wsp q → Wsp (sp ++ q) := fun q hq s hs => by
    rcases List.mem_append.mp hs with z | z
    · exact h s z
    · exact hq s z
  cases t with
  | is_ q nm => exact ⟨ap _ ht.1, ht.2⟩
  | most p q d =>
    refine ⟨fun x e => ?_, fun x e => ?_⟩
    · cases p with
      | none => cases e
      | some y => cases e; exact ap _ (ht.1 y rfl)
    · cases q with
      | none => cases e
      | some y => cases e; exact ap _ (ht.2 y rfl)
theorem LineOk.ahead {sp : List StepD} (h : Wsp sp) {l : LineD} (hl : LineOk l) : LineOk (aheadL sp l) := by
  refine ⟨fun t ht => ?_, fun x hx => ?_⟩
  · obtain ⟨y, hy, rfl⟩ := List.mem_map.mp ht
    exact (hl.1 y hy).moved h
  · obtain ⟨y, hy, rfl⟩ := List.mem_map.mp hx
    refine ⟨(hl.2 y hy).1, fun s hs => ?_⟩
    rcases List.mem_append.mp hs with z | z
    · exact h s z
    · exact (hl.2 y hy).2 s z
def fieldsM (B : BookD) (m : Str) : List Str := match pairOf B m with
  | some x => x.2.2
  | none => []
mutual
def heldS (B : BookD) : Sh → Str → List (Str × Str)
  | .any, _ => []
  | .num _ _, _ => []
  | .held n s, k => (n, k) :: heldS B s k
  | .either ss, k => heldF B ss k
  | .mk m ss, _ => heldP B ss (fieldsM B m)
def heldF (B : BookD) : List Sh → Str → List (Str × Str)
  | [], _ => []
  | s :: _, k => heldS B s k
def heldP (B : BookD) : List Sh → List Str → List (Str × Str)
  | [], _ => []
  | s :: r, fs => heldS B s (fs.headD "num") ++ heldP B r fs.tail
end
def SPair (H : Hp) (u : V) (x : Str × Str) : Prop := ∃ a, u = .ref a ∧ H a = some (.tup [.str x.1, .str x.2])
theorem SPair.keep {H H' : Hp} (k : KeepT H H') {u : V} {x : Str × Str} (h : SPair H u x) : SPair H' u x := by
  obtain ⟨a, e, h1⟩ := h
  exact ⟨a, e, k _ _ h1⟩
end Bk

set_option Elab.async false
set_option linter.all false
set_option maxRecDepth 100000
set_option maxHeartbeats 4000000
namespace Bk
open PySem L2 Nm
mutual
def SameS (B : BookD) : Sh → Str → Prop
  | .any, _ => True
  | .num _ _, _ => True
  | .held _ s, k => SameS B s k
  | .either ss, k => SameA B ss k (heldF B ss k)
  | .mk m ss, _ => SameP B ss (fieldsM B m)
def SameA (B : BookD) : List Sh → Str → List (Str × Str) → Prop
  | [], _, _ => True
  | s :: r, k, h => SameS B s k ∧ heldS B s k = h ∧ SameA B r k h
def SameP (B : BookD) : List Sh → List Str → Prop
  | [], _ => True
  | s :: r, fs => SameS B s (fs.headD "num") ∧ SameP B r fs.tail
end
end Bk

set_option Elab.async false
set_option linter.all false
set_option maxRecDepth 100000
set_option maxHeartbeats 4000000
namespace L2
open PySem PySem.Spec PyProof.Rows
section
variable {X : Cx}
end
end L2

set_option Elab.async false
set_option linter.all false
set_option maxRecDepth 100000
set_option maxHeartbeats 4000000
namespace Bk
open PySem L2 Nm
def lookL {α : Type} (xs : List (Str × α)) (n : Str) : Option α := xs.foldl (fun acc x => if x.1 = n then some x.2 else acc) none
abbrev RhsD := Sum Int Str
def rhsV : RhsD → V
  | .inl z => .int z
  | .inr n => .str n
abbrev CmpD := Str × Str × RhsD
def CmpAt (H : Hp) (v : V) (c : CmpD) : Prop := ∃ a, v = .ref a ∧ H a = some (.tup [.str c.1, .str c.2.1, rhsV c.2.2])
theorem CmpAt.keep {H H' : Hp} (k : KeepT H H') {v : V} {c : CmpD} (h : CmpAt H v c) : CmpAt H' v c := by
  obtain ⟨a, e, h1⟩ := h
  exact ⟨a, e, k _ _ h1⟩
def GuardAt (H : Hp) (v : V) (g : List CmpD) : Prop := ∃ a us, v = .ref a ∧ H a = some (.tup us) ∧ Pd (CmpAt H) us g
theorem GuardAt.keep {H H' : Hp} (k : KeepT H H') {v : V} {g : List CmpD} (h : GuardAt H v g) : GuardAt H' v g := by
  obtain ⟨a, us, e, h1, h2⟩ := h
  exact ⟨a, us, e, k _ _ h1, h2.mono fun _ _ z => z.keep k⟩
inductive Ans where
  | num (z : Int)
  | held (n : Str)
  | mk (m : Str) (as : List Ans)
mutual
inductive AnsAt (H : Hp) : V → Ans → Prop
  | num {a : Addr} {z : Int} : H a = some (.tup [.str "num", .int z]) → AnsAt H (.ref a) (.num z)
  | held {a : Addr} {n : Str} : H a = some (.tup [.str "held", .str n]) → AnsAt H (.ref a) (.held n)
  | mk {a b : Addr} {m : Str} {vs : List V} {as : List Ans} : H a = some (.tup [.str "make", .str m, .ref b]) → H b = some (.tup vs) → AnssAt H vs as → AnsAt H (.ref a) (.mk m as)
inductive AnssAt (H : Hp) : List V → List Ans → Prop
  | nil : AnssAt H [] []
  | cons {v : V} {s : Ans} {vs : List V} {ss : List Ans} : AnsAt H v s → AnssAt H vs ss → AnssAt H (v :: vs) (s :: ss)
end
mutual
theorem AnsAt.keep {H H' : Hp} (k : KeepT H H') : ∀ {v : V} {s : Ans}, AnsAt H v s → AnsAt H' v s
  | _, _, .num h => .num (k _ _ h)
  | _, _, .held h => .held (k _ _ h)
  | _, _, .mk h1 h2 t => .mk (k _ _ h1) (k _ _ h2) (AnssAt.keep k t)
theorem AnssAt.keep {H H' : Hp} (k : KeepT H H') : ∀ {vs : List V} {ss : List Ans}, AnssAt H vs ss → AnssAt H' vs ss
  | _, _, .nil => .nil
  | _, _, .cons h t => .cons (AnsAt.keep k h) (AnssAt.keep k t)
end
theorem AnssAt.length {H : Hp} : ∀ {vs : List V} {ss : List Ans}, AnssAt H vs ss → vs.length = ss.length
  | _, _, .nil => rfl
  | _, _, .cons _ t => by rw [List.length_cons, List.length_cons, AnssAt.length t]
theorem AnssAt.snoc {H : Hp} {v : V} {s : Ans} (h : AnsAt H v s) : ∀ {vs : List V} {ss : List Ans}, AnssAt H vs ss → AnssAt H (vs ++ [v]) (ss ++ [s])
  | _, _, .nil => .cons h .nil
  | _, _, .cons a t => .cons a (AnssAt.snoc h t)
theorem AnssAt.get {H : Hp} : ∀ {vs : List V} {ps : List Ans} {i : Nat} {x : V}, AnssAt H vs ps → vs[i]? = some x → ∃ p, ps[i]? = some p ∧ AnsAt H x p
  | _, _, 0, _, .cons h _, e => by
    simp at e
    subst e
    exact ⟨_, rfl, h⟩
  | _, _, i + 1, x, .cons _ t, e => by
    obtain ⟨p, h1, h2⟩ := AnssAt.get (i := i) (x := x) t (by simpa using e)
    exact ⟨p, by simpa using h1, h2⟩
/-- an answer of a kind, so deep, by what is held -/
def WfA (B : BookD) (hs : List (Str × Str)) : Nat → Str → Ans → Prop
  | 0 => fun _ _ => False
  | n + 1 => fun k a => (∃ z, a = .num z ∧ k = "num") ∨ (∃ nm, a = .held nm ∧ lookL hs nm = some k) ∨ ∃ q ∈ B, ∃ m ∈ q.2, ∃ as, q.1 = k ∧ a = .mk m.1 as ∧ Pd (WfA B hs n) m.2 as
theorem WfA.up {B : BookD} {hs : List (Str × Str)} : ∀ {n : Nat} {k : Str} {a : Ans}, WfA B hs n k a → WfA B hs (n + 1) k a
  | 0, _, _, h => h.elim
  | n + 1, k, a, h => by
    rcases h with h | h | ⟨q, hq, m, hm, as, e1, e2, h⟩
    · exact .inl h
    · exact .inr (.inl h)
    · exact .inr (.inr ⟨q, hq, m, hm, as, e1, e2, h.mono fun _ _ z => WfA.up z⟩)
theorem WfA.mono {B : BookD} {hs : List (Str × Str)} {n : Nat} {k : Str} {a : Ans} (h : WfA B hs n k a) : ∀ {m : Nat}, n ≤ m → WfA B hs m k a
  | 0, hm => by
    have : n = 0 := by omega
    rw [this] at h; exact h
  | m + 1, hm => by
    by_cases e : n = m + 1
    · rw [← e]; exact h
    · exact (WfA.mono h (m := m) (by omega)).up
abbrev RowD := Sh × List CmpD × Ans
def RowAt (H : Hp) (v : V) (r : RowD) : Prop := ∃ a sv gv av, v = .ref a ∧ H a = some (.tup [sv, gv, av]) ∧ ShAt H sv r.1 ∧ GuardAt H gv r.2.1 ∧ AnsAt H av r.2.2
theorem RowAt.keep {H H' : Hp} (k : KeepT H H') {v : V} {r : RowD} (h : RowAt H v r) : RowAt H' v r := by
  obtain ⟨a, sv, gv, av, e, h1, h2, h3, h4⟩ := h
  exact ⟨a, sv, gv, av, e, k _ _ h1, h2.keep k, h3.keep k, h4.keep k⟩
abbrev CasesD := Str × Str × List RowD
def CasesAt (H : Hp) (v : V) (c : CasesD) : Prop := ∃ a b us, v = .ref a ∧ H a = some (.tup [.str c.1, .str c.2.1, .ref b]) ∧ H b = some (.tup us) ∧ Pd (RowAt H) us c.2.2
theorem CasesAt.keep {H H' : Hp} (k : KeepT H H') {v : V} {c : CasesD} (h : CasesAt H v c) : CasesAt H' v c := by
  obtain ⟨a, b, us, e, h1, h2, h3⟩ := h
  exact ⟨a, b, us, e, k _ _ h1, k _ _ h2, h3.mono fun _ _ z => z.keep k⟩
def signs5 : List Str := ["<", "<=", "=", ">=", ">"]
structure RowOk (B : BookD) (k1 k2 : Str) (r : RowD) : Prop where
  sh : WfS B 6 k1 r.1
  same : SameS B r.1 k1
  ub : ubD r.1 ≤ 24
  gl : r.2.1.length ≤ 4
  sg : ∀ c ∈ r.2.1, c.2.1 ∈ signs5
  g : ∀ c ∈ r.2.1, lookL (heldS B r.1 k1) c.1 = some "num" ∧ ∀ n, c.2.2 = .inr n → lookL (heldS B r.1 k1) n = some "num"
  a : WfA B (heldS B r.1 k1) 10 k2 r.2.2
end Bk

set_option Elab.async false
set_option linter.all false
set_option maxRecDepth 100000
set_option maxHeartbeats 4000000
namespace Bk
open PySem L2 Nm
def ToldIs (H : Hp) (u : V) : Option (Nat × PV) → Prop
  | none => u = .non
  | some x => ∃ a y, u = .ref a ∧ H a = some (.tup [.int (x.1 : Nat), y]) ∧ ValAt H y x.2
theorem ToldIs.keep {H H' : Hp} (k : KeepT H H') {u : V} {o : Option (Nat × PV)} (h : ToldIs H u o) : ToldIs H' u o := by
  cases o with
  | none => exact h
  | some x =>
    obtain ⟨a, y, e, h1, h2⟩ := h
    exact ⟨a, y, e, k _ _ h1, h2.keep k⟩
end Bk

set_option Elab.async false
set_option linter.all false
set_option maxRecDepth 100000
set_option maxHeartbeats 4000000
namespace Bk
open PySem L2 Nm
theorem keepBut_none {p S : Addr} {H H' : Hp} (k : KeepBut p H H') (hp : PoolAt H p) (h : H' S = none) (hn : PoolAt H' p) : H S = none := by
  cases e : H S with
  | none => rfl
  | some o =>
    have hSp : S ≠ p := fun z => by
      obtain ⟨_, _, _, h2⟩ := hn
      rw [z, h2] at h; cases h
    rw [k S o e hSp] at h; cases h
end Bk

set_option Elab.async false
set_option linter.all false
set_option maxRecDepth 100000
set_option maxHeartbeats 4000000
namespace Bk
open PySem L2 Nm
def BoolsAt (H : Hp) (v : V) (bs : List Bool) : Prop := ∃ a, v = .ref a ∧ H a = some (.lst (bs.map V.bl))
theorem bools_inj : ∀ l r : List Bool, l.map V.bl = r.map V.bl → l = r
  | [], [], _ => rfl
  | [], _ :: _, h => by cases h
  | _ :: _, [], h => by cases h
  | x :: l, y :: r, h => by
    rw [List.map_cons, List.map_cons] at h
    injection h with h1 h2
    injection h1 with h1
    rw [h1, bools_inj l r h2]
theorem BoolsAt.inj {H : Hp} {v : V} {a b : List Bool} (h : BoolsAt H v a) (h' : BoolsAt H v b) : a = b := by
  obtain ⟨p, rfl, h1⟩ := h
  obtain ⟨p', e, h3⟩ := h'
  injection e with e
  subst e
  rw [h1] at h3
  exact bools_inj _ _ (HO.lst.inj (Option.some.inj h3))
end Bk

set_option Elab.async false
set_option linter.all false
set_option maxRecDepth 100000
set_option maxHeartbeats 4000000
namespace Bk
open PySem L2 Nm
def Two (zs : List Str) : Prop := ∃ c, ∀ z ∈ zs, z.length = c ∨ z.length = c + 1
theorem Two.sub {zs ys : List Str} (h : Two zs) (k : ∀ y ∈ ys, y ∈ zs) : Two ys := by
  obtain ⟨c, h⟩ := h
  exact ⟨c, fun y hy => h y (k y hy)⟩
end Bk

set_option Elab.async false
set_option linter.all false
set_option maxRecDepth 100000
set_option maxHeartbeats 4000000
namespace Bk
open PySem L2 Nm
end Bk

set_option Elab.async false
set_option linter.all false
set_option maxRecDepth 100000
set_option maxHeartbeats 4000000
namespace Bk
open PySem L2 Nm
def NamesIn {α : Type} (S : List Str) (h : List (Str × α)) : Prop := ∀ x ∈ h, x.1 ∈ S
def GuardIn (S : List Str) (g : List CmpD) : Prop := ∀ c ∈ g, c.1 ∈ S ∧ ∀ n, c.2.2 = .inr n → n ∈ S
mutual
def AnsIn (S : List Str) : Ans → Prop
  | .num _ => True
  | .held n => n ∈ S
  | .mk _ as => AnssIn S as
def AnssIn (S : List Str) : List Ans → Prop
  | [] => True
  | a :: r => AnsIn S a ∧ AnssIn S r
end
structure RowIn (B : BookD) (p : PV) (S : List Str) (r : RowD) : Prop where
  g : GuardIn S r.2.1
  a : AnsIn S r.2.2
  t : ∀ h, some h ∈ triesD B r.1 p [] → NamesIn S h
end Bk

set_option Elab.async false
set_option linter.all false
set_option maxRecDepth 100000
set_option maxHeartbeats 4000000
namespace Bk
open PySem L2 Nm
end Bk

set_option Elab.async false
set_option linter.all false
set_option maxRecDepth 100000
set_option maxHeartbeats 4000000
namespace Bk
open PySem L2 Nm
end Bk

set_option Elab.async false
set_option linter.all false
set_option maxRecDepth 100000
set_option maxHeartbeats 4000000
namespace Bk
open PySem L2 Nm
end Bk

set_option Elab.async false
set_option linter.all false
set_option maxRecDepth 100000
set_option maxHeartbeats 4000000
namespace Bk
open PySem L2 Nm
end Bk

set_option Elab.async false
set_option linter.all false
set_option maxRecDepth 100000
set_option maxHeartbeats 4000000
namespace L2
open PySem PySem.Spec PyProof.Rows
theorem lc_str {z : Str} {g : TG} {tt : TT} {te : TE} {vs : List Nat} {σ : St} {H1 : Hp} {D : Addr} {Qd : Hp → Prop} (Pv : Nat → Hp → Prop) (h0 : Pv 0 (upd H1 D (.lst [])))
    (hs : ∀ i c H, z.cps[i]? = some c → Pv i H → g (.str ⟨#[c]⟩) (wipe σ vs) H fun σ2 H2 => wipe σ2 vs = wipe σ vs ∧ tt σ2 H2 fun b H3 =>
      if b = true then te σ2 H3 fun y H4 => ∃ acc, H4 D = some (.lst acc) ∧ acc.length < sizeLine ∧ Pv (i + 1) (upd H4 D (.lst (acc ++ [y]))) else Pv (i + 1) H3) (hd : ∀ H, Pv z.cps.size H → Qd H) :
    ∃ W : Nat → Nat → Hp → Prop, (∃ m, W 0 m (upd H1 D (.lst []))) ∧ ∀ i m H, W i m H →
      ((Its z).stop i H ∧ Qd H) ∨ ((Its z).go i H ∧ ∃ Nx : Hp → Prop, (∀ H', Nx H' → ∃ m', m' < m ∧ W (i + 1) m' H') ∧ ∀ x H', (Its z).yld i H x H' → g x (wipe σ vs) H' fun σ2 H2 => wipe σ2 vs = wipe σ vs ∧ tt σ2 H2 fun b H3 =>
        if b = true then te σ2 H3 fun y H4 => ∃ acc, H4 D = some (.lst acc) ∧ acc.length < sizeLine ∧ Nx (upd H4 D (.lst (acc ++ [y]))) else Nx H3) := by
  refine ⟨fun i m H => m = z.cps.size - i ∧ i ≤ z.cps.size ∧ Pv i H, ⟨z.cps.size, by simp, Nat.zero_le _, h0⟩, ?_⟩
  rintro i m H ⟨rfl, hi, p⟩
  by_cases hlt : i < z.cps.size
  · refine .inr ⟨hlt, Pv (i + 1), fun H' p' => ⟨z.cps.size - (i + 1), by omega, rfl, hlt, p'⟩, fun x H' y => ?_⟩
    obtain ⟨e, c, hc, rfl⟩ := y
    subst e
    exact hs i c _ hc p
  · have e : i = z.cps.size := by omega
    subst e
    exact .inl ⟨Nat.le_refl _, hd H p⟩
end L2

set_option Elab.async false
set_option linter.all false
set_option maxRecDepth 100000
set_option maxHeartbeats 4000000
namespace Bk
open PySem L2 Nm
end Bk

set_option Elab.async false
set_option linter.all false
set_option maxRecDepth 100000
set_option maxHeartbeats 1000000
namespace L2
open PySem PySem.Spec PyProof.Rows
/-- what may be a key of depth below the number -/
inductive KeyD : Nat → PyData → Prop
  | non {n : Nat} : KeyD n .none
  | int {n : Nat} (i : Int) : KeyD n (.int i)
  | str {n : Nat} (x : Str) : KeyD n (.str x)
  | tup {n : Nat} {ds : List PyData} : (∀ d ∈ ds, KeyD n d) → KeyD (n + 1) (.tuple ds)
section
variable {prog : Program} {w : World}
end
end L2

set_option Elab.async false
set_option linter.all false
set_option maxRecDepth 100000
set_option maxHeartbeats 1000000
namespace L2
open PySem PySem.Spec PyProof.Rows
theorem pget' {α β : Type} {F : α → β → Prop} : ∀ {l₁ : List α} {l₂ : List β}, Paired F l₁ l₂ → ∀ (i : Nat) (y : β), l₂[i]? = some y → ∃ x, l₁[i]? = some x ∧ F x y
  | _, _, .nil, i, x, h => by simp at h
  | _, _, .cons r t, 0, x, h => by simp at h; subst h; exact ⟨_, rfl, r⟩
  | _, _, .cons r t, i + 1, x, h => by
    obtain ⟨y, h1, h2⟩ := pget' t i x (by simpa using h)
    exact ⟨y, by simpa using h1, h2⟩
section
variable {prog : Program} {w : World}
end
end L2

set_option Elab.async false
set_option linter.all false
set_option maxRecDepth 100000
set_option maxHeartbeats 1000000
namespace L2
open PySem PySem.Spec PyProof.Rows
/-- a key and its data; what stands there -/
abbrev MKey := V × PyData
/-- a key that may stand in such a dict -/
structure MixKey (K : PySem.W.Frag) (H : Hp) (x : MKey) : Prop where
  dp : Dp K H x.1 x.2
  key : KeyD 8 x.2
  sh : SeqAt.shaped x.2 = true
  kd : x.2 = .none ∨ ∃ ds, x.2 = .tuple ds
  self : PyData.eqv x.2 x.2 = true
section
variable {X : Cx} {pins : List (Addr × Obj)} {σ : St} {H : Hp} {s : Shared} {a : Addr} {kvs : List (MKey × V)} {A : Around} {E : Value → Shared → Prop} {y : MKey} {u : Value}
end
end L2

set_option Elab.async false
set_option linter.all false
set_option maxRecDepth 100000
set_option maxHeartbeats 1000000
namespace L2
open PySem PySem.Spec PyProof.Rows
section
variable {X : Cx} {pins : List (Addr × Obj)} {σ : St} {H : Hp} {s : Shared} {a : Addr} {kvs : List (MKey × V)} {A : Around} {E : Value → Shared → Prop} {y : MKey} {u r : Value} {v : V}
end
section
variable {prog : Program} {w : World}
end
theorem hu65 {A : Around} {k : Nat} (hr : Room k A) : A.units + 65 < cLine := by have := hr.un; omega
end L2

set_option Elab.async false
set_option linter.all false
set_option maxRecDepth 100000
set_option maxHeartbeats 1000000
namespace L2
open PySem PySem.Spec PyProof.Rows
section
variable {X : Cx}
def rInD (K : PySem.W.Frag) : R2 := fun x y H Q => ∃ d ds, Dp K H x d ∧ Dp K H y (.list ds) ∧ SeqAt.shaped d = true ∧ (∀ e ∈ ds, SeqAt.shaped e = true) ∧ Q (.bl (ds.any fun e => PyData.eqv e d)) H
theorem canAll : ∀ {ds : List PyData}, (∀ e ∈ ds, SeqAt.shaped e = true) → PyData.canLayAll0 ds = true ∧ PyData.depthAll ds ≤ 64
  | [], _ => ⟨by simp [PyData.canLayAll0], by simp [PyData.depthAll]⟩
  | d :: r, h => by
    obtain ⟨h1, h2⟩ := canAll fun e he => h e (List.mem_cons_of_mem _ he)
    have h3 := h d List.mem_cons_self
    unfold SeqAt.shaped at h3
    rw [Bool.and_eq_true] at h3
    have h4 : d.depth ≤ 64 := by simpa using h3.2
    exact ⟨by simp only [PyData.canLayAll0, h3.1, h1, Bool.and_self], by simp only [PyData.depthAll]; omega⟩
theorem op_inD (hu : X.A.units + 65 < cLine) : OpR X (compareOp .In) (rInD X.K) := by
  intro pins s σ H x y v u Q I rx ry h
  obtain ⟨d, ds, hd, he, sd, se, q⟩ := h
  obtain ⟨as, r1⟩ := Dp.reads I d x v hd rx
  obtain ⟨bs, r2⟩ := Dp.reads I _ y u he ry
  obtain ⟨c1, c2⟩ := canAll se
  have h3 := sd
  unfold SeqAt.shaped at h3
  rw [Bool.and_eq_true] at h3
  have h4 : d.depth ≤ 64 := by simpa using h3.2
  exact SeqAt.in_list_reads r2 r1 c1 h3.1 (by omega) ⟨.bl _, H, I, rfl, q⟩
end
end L2

set_option Elab.async false
set_option linter.all false
set_option maxRecDepth 100000
set_option maxHeartbeats 1000000
namespace L2
open PySem PySem.Spec PyProof.Rows
def dd (acc : List Str) (x : Str) : List Str := if x ∈ acc then acc else acc ++ [x]
def ded (xs : List Str) : List Str := xs.foldl dd []
theorem ded_snoc (xs : List Str) (x : Str) : ded (xs ++ [x]) = dd (ded xs) x := by unfold ded; rw [List.foldl_append]; rfl
theorem mem_dd {acc : List Str} {x y : Str} : y ∈ dd acc x ↔ y ∈ acc ∨ y = x := by
  unfold dd
  by_cases h : x ∈ acc
  · rw [if_pos h]
    exact ⟨.inl, fun z => z.elim id fun e => e ▸ h⟩
  · rw [if_neg h, List.mem_append, List.mem_singleton]
theorem dd_len (acc : List Str) (x : Str) : (dd acc x).length = if x ∈ acc then acc.length else acc.length + 1 := by
  unfold dd
  by_cases h : x ∈ acc
  · rw [if_pos h, if_pos h]
  · rw [if_neg h, if_neg h, List.length_append]; rfl
theorem fold_len : ∀ (xs acc : List Str), (xs.foldl dd acc).length ≤ acc.length + xs.length
  | [], acc => Nat.le_refl _
  | x :: r, acc => by
    rw [List.foldl_cons]
    have h1 := fold_len r (dd acc x)
    have h2 := dd_len acc x
    rw [List.length_cons]
    split at h2 <;> omega
theorem ded_le (xs : List Str) : (ded xs).length ≤ xs.length := by
  have := fold_len xs []
  simpa [ded] using this
theorem fold_nd : ∀ (xs acc : List Str), (xs.foldl dd acc).length = acc.length + xs.length ↔ xs.Nodup ∧ ∀ x ∈ xs, x ∉ acc
  | [], acc => by simp
  | x :: r, acc => by
    rw [List.foldl_cons, List.length_cons, List.nodup_cons]
    have h1 := fold_len r (dd acc x)
    have h2 := dd_len acc x
    have ih := fold_nd r (dd acc x)
    by_cases hx : x ∈ acc
    · rw [if_pos hx] at h2
      constructor
      · intro h; omega
      · rintro ⟨_, h⟩; exact absurd hx (h x List.mem_cons_self)
    · rw [if_neg hx] at h2
      rw [show acc.length + (r.length + 1) = (dd acc x).length + r.length by omega, ih]
      constructor
      · rintro ⟨h3, h4⟩
        refine ⟨⟨fun hm => h4 x hm (mem_dd.mpr (.inr rfl)), h3⟩, fun y hy => ?_⟩
        rcases List.mem_cons.mp hy with e | e
        · rw [e]; exact hx
        · exact fun z => h4 y e (mem_dd.mpr (.inl z))
      · rintro ⟨⟨h3, h4⟩, h5⟩
        refine ⟨h4, fun y hy z => ?_⟩
        rcases mem_dd.mp z with e | e
        · exact h5 y (List.mem_cons_of_mem _ hy) e
        · exact h3 (e ▸ hy)
theorem ded_nd (xs : List Str) : (ded xs).length = xs.length ↔ xs.Nodup := by
  have := fold_nd xs []
  simpa [ded] using this
section
variable {prog : Program} {w : World}
theorem set_congr {K : Type} [DecidableEq K] {knd : PySem.KeyKind prog w K} {h : Heap} {a : Addr} {S S' : K → Bool} {n n' : Nat} (x : Heap.SetOf knd h a S n) (h1 : ∀ k, S k = S' k) (h2 : n = n') : Heap.SetOf knd h a S' n' := by
  obtain ⟨o, es, ep, t, a1, a2, a3, a4, a5, a6⟩ := x
  subst h2
  exact ⟨o, es, ep, t, a1, a2, a3, a4, fun k => by rw [← h1 k]; exact a5 k, a6⟩
def setS (xs : List Str) (k : Key) : Bool := match k with
  | .inl _ => false
  | .inr x => decide (x ∈ xs)
theorem set_loop {A : Around} {I ax S : Addr} {items : Array Value} {xs : List Str} (wk : Walks prog w A.in1 I [I, ax] [I] items.size (fun i v => items[i]? = some v) fun i h => h.IsListIter I ax i ∧ h.IsList ax items) (hSI : S ≠ I) (hSa : S ≠ ax)
    (hx : ∀ (i : Nat) v, items[i]? = some v → ∃ x t, v = .str x t ∧ xs[i]? = some x) (hl : xs.length = items.size) (hb : items.size + 1 < scanBound) : ∀ (k i : Nat) (s : Shared) (R : Result → Shared → Prop), items.size - i = k → i ≤ items.size → s.heap.IsListIter I ax i ∧ s.heap.IsList ax items →
    Heap.SetOf (mixKind prog w) s.heap S (setS (ded (xs.take i))) (ded (xs.take i)).length →
    (∀ s', s'.gens = s.gens → s'.drawn = s.drawn → s'.os = s.os → (∀ b o, b ≠ S → b ≠ I → s.heap.get? b = some o → s'.heap.get? b = some o) → Heap.SetOf (mixKind prog w) s'.heap S (setS (ded xs)) (ded xs).length → R (.ok (.ret .none)) s') →
    codeAny (model prog w) A (.builtin "set.update.loop" { pos := [.ref S, .ref I] }) R s := by
  intro k
  induction k with
  | zero =>
    intro i s R hk hi st hset q
    have e : i = items.size := by omega
    subst e
    refine codeAny_builtin F.entry_set_update_loop ?_
    rw [Around.under_plainId F.plain_set_update_loop]
    unfold Builtin.«set.update.loop»
    dsimp only
    refine wpAny_bind (wk.done s _ _ st fun h' tk keep => ?_)
    refine wpAny_pure (q _ rfl rfl rfl (fun b o h1 h2 h3 => keep b o (by simpa using h2) h3) ?_)
    rw [← hl, List.take_length] at hset
    obtain ⟨o, es, ep, t, ho, hr⟩ := hset
    exact ⟨o, es, ep, t, keep _ _ (by simpa using hSI) ho, hr⟩
  | succ k ih =>
    intro i s R hk hi st hset q
    have hlt : i < items.size := by omega
    refine codeAny_builtin F.entry_set_update_loop ?_
    rw [Around.under_plainId F.plain_set_update_loop]
    unfold Builtin.«set.update.loop»
    dsimp only
    refine wpAny_bind (wk.item i s _ _ hlt st fun v h' tk hp st' keep => ?_)
    obtain ⟨x, t, rfl, hxi⟩ := hx i v hp
    obtain ⟨hxl, ex⟩ := List.getElem?_eq_some_iff.mp hxi
    have hset' : Heap.SetOf (mixKind prog w) h' S (setS (ded (xs.take i))) (ded (xs.take i)).length := by
      obtain ⟨o, es, ep, t, ho, hr⟩ := hset
      exact ⟨o, es, ep, t, keep _ _ (by simpa using hSI) ho, hr⟩
    refine wpAny_bind (wpAny_holding ?_)
    unfold setAdd
    refine wpAny_holding (wpAny_bind ((mixKind prog w).pyHash (k := .inr x) (mixKind_str prog w x t) ?_))
    have hn := ded_le (xs.take i)
    rw [List.length_take] at hn
    refine wpAny_setAddHashed_of (knd := mixKind prog w) (k := .inr x) (mixKind_str prog w x t) rfl hset' (by omega) fun h'' sb hset'' => ?_
    have e1 : xs.take (i + 1) = xs.take i ++ [x] := by rw [List.take_succ_eq_append_getElem hxl, ex]
    refine wpAny_pure ⟨plainId_quiet F.plain_set_update_loop _, ih (i + 1) _ R (by omega) (by omega) ?_ ?_ fun s' g1 g2 g3 hk' hs' => q s' g1 g2 g3 (fun b o h1 h2 h3 => hk' b o h1 h2 ?_) hs'⟩
    · exact wk.frame (i + 1) h' h'' st' fun b hb' o ho => by
        have hne : b ≠ S := by
          simp only [List.mem_cons, List.not_mem_nil, or_false] at hb'
          rcases hb' with e | e
          · rw [e]; exact hSI.symm
          · rw [e]; exact hSa.symm
        show h''.get? b = some o
        rw [sb.2 b hne]; exact ho
    · refine set_congr hset'' (fun k' => ?_) ?_
      · rw [e1, ded_snoc]
        cases k' with
        | inl z => simp [setS]
        | inr y =>
          show (decide (y ∈ ded (xs.take i)) || decide ((Sum.inr y : Key) = Sum.inr x)) = decide (y ∈ dd (ded (xs.take i)) x)
          by_cases h1 : y ∈ ded (xs.take i)
          · rw [decide_eq_true h1, decide_eq_true (mem_dd.mpr (.inl h1))]; rfl
          · by_cases h2 : y = x
            · rw [decide_eq_false h1, decide_eq_true (by rw [h2]), decide_eq_true (mem_dd.mpr (.inr h2))]; rfl
            · rw [decide_eq_false h1, decide_eq_false (by intro z; injection z with z; exact h2 z), decide_eq_false (fun z => (mem_dd.mp z).elim h1 h2)]; rfl
      · rw [e1, ded_snoc, dd_len]
        show (if decide (x ∈ ded (xs.take i)) = true then _ else _) = _
        by_cases h1 : x ∈ ded (xs.take i)
        · rw [if_pos (by simpa using h1), if_pos h1]
        · rw [if_neg (by simpa using h1), if_neg h1]
    · show h''.get? b = some o
      rw [sb.2 b h1]
      exact keep b o (by simpa using h2) h3
theorem call_setS {A : Around} {E : Value → Shared → Prop} {s : Shared} {l : Addr} {items : Array Value} {xs : List Str} {Q : Value → Shared → Prop} (hh : A.handled = none) (hl : s.heap.IsList l items) (hx : ∀ (i : Nat) v, items[i]? = some v → ∃ x t, v = .str x t ∧ xs[i]? = some x) (hn : xs.length = items.size) (hb : items.size + 1 < scanBound)
    (q : ∀ h' tk, Heap.SetOf (mixKind prog w) h' s.heap.objs.size (setS (ded xs)) (ded xs).length → (∀ b o, b < s.heap.objs.size → s.heap.get? b = some o → h'.get? b = some o) → Q (.ref s.heap.objs.size) { s with heap := h', toks := tk }) :
    wpAny (model prog w) A (call (.type "set") [.ref l]) Q E s := by
  have C := PySem.F.called_set
  refine wpAny_call (codeAny_of_tree ?_)
  show wpAny (model prog w) _ (pure (Fin.again (Code.builtin "type.__call__" { pos := [.type "set", .ref l] }))) _ _ _
  refine wpAny_pure ⟨Code.quiet_builtin _ (by decide +kernel), codeAny_builtin PySem.F.entry_type_call ?_⟩
  rw [Around.under_plain (weight_type_call_type _ _ _) rfl]
  unfold Builtin.«type.__call__»
  dsimp only
  rw [if_neg (by rw [C.notType]; decide)]
  have e1 := C.canCreate
  rw [if_neg (by intro z; rw [C.canCreate] at z; cases z)]
  rw [PySem.F.typeCall_set_1]
  refine wpAny_bind (wpAny_pure ?_)
  obtain ⟨c, tl, hm⟩ := C.mro
  rw [hm]
  refine wpAny_bind (wpAny_pure ?_)
  rw [if_neg (by simp)]
  rw [C.made]
  refine wpAny_bind (wpAny_pure ?_)
  dsimp only
  refine wpAny_bind (wpAny_pure ?_)
  refine wpAny_bind (wpAny_holding (wpAny_call (codeAny_mono (code_set_new_1 (.ref l) (E := fun e s' => E e s') (Q₁ := fun v s' => v = .ref s.heap.objs.size ∧ ∃ led, s' = { s with heap := s.heap.push { cls := Value.type "set", data := Data.set #[] 0 (SetTable.fresh 0 0 led) } }) fun led => ⟨rfl, led, rfl⟩) ?_)))
  intro r s1 hw
  cases r with
  | error e => exact hw
  | ok f =>
    cases f with
    | next => exact hw
    | brk => exact hw
    | cont => exact hw
    | ret v =>
      obtain ⟨rfl, led, rfl⟩ := hw
      dsimp only
      have hh' : A.in1.in1.in1.handled = none := hh
      have hg : (s.heap.push { cls := Value.type "set", data := Data.set #[] 0 (SetTable.fresh 0 0 led) }).get? s.heap.objs.size = some { cls := Value.type "set", data := Data.set #[] 0 (SetTable.fresh 0 0 led) } := Heap.get?_push_size _ rfl
      have hT : Shared.TypeIs { s with heap := s.heap.push { cls := Value.type "set", data := Data.set #[] 0 (SetTable.fresh 0 0 led) } } (.ref s.heap.objs.size) "set" := ⟨_, hg, rfl⟩
      refine wpAny_bind (wpAny_isInstance hT C.sub ?_)
      rw [if_neg (by decide)]
      refine wpAny_bind (wpAny_holding (wpAny_callSpecial?_slot hT C.init (wpAny_call (codeAny_call_builtin C.init.plain PySem.F.entry_set_init (check_set_init_1 hT ?_)))))
      unfold Builtin.«set.__init__»
      have e2 : noKeywords "set" { pos := [Value.ref s.heap.objs.size, Value.ref l] } = pure () := rfl
      rw [e2]
      refine wpAny_bind (wpAny_pure ?_)
      dsimp only
      unfold typeNameOfCut shownTypeOf
      refine wpAny_bind (wpAny_bind (wpAny_bind (wpAny_typeOf hT ?_)))
      rw [if_neg (by decide)]
      refine wpAny_pure ?_
      have e3 : ∃ n, typeNameCut 200 (Value.type "set") = pure n := ⟨_, rfl⟩
      obtain ⟨n3, e3⟩ := e3
      rw [e3]
      refine wpAny_pure ?_
      have e4 : checkCount n3 0 1 [Value.ref l].length = pure () := rfl
      rw [e4]
      refine wpAny_bind (wpAny_pure ?_)
      have e5 : Builtin.Frozenset.addrOf (Value.ref s.heap.objs.size) = pure s.heap.objs.size := rfl
      rw [e5]
      refine wpAny_bind (wpAny_pure ?_)
      unfold setUsed setState
      refine wpAny_bind (wpAny_bind (wpAny_bind (wpAny_load' hg ?_)))
      dsimp only
      rw [if_neg (by cases led <;> decide)]
      refine wpAny_pure (wpAny_pure ?_)
      dsimp only
      rw [if_neg (by cases led <;> decide)]
      refine wpAny_bind ?_
      have hl2 : (s.heap.push { cls := Value.type "set", data := Data.set #[] 0 (SetTable.fresh 0 0 led) }).IsList l items := hl.push _
      have hTl : Shared.TypeIs { s with heap := s.heap.push { cls := Value.type "set", data := Data.set #[] 0 (SetTable.fresh 0 0 led) } } (.ref l) "list" := by
        obtain ⟨o, ho, hc, _⟩ := hl2
        exact ⟨o, ho, hc⟩
      unfold Builtin.Frozenset.updateFrom Builtin.Frozenset.isAnySet
      refine wpAny_bind ?_
      refine wpAny_bind (wpAny_isInstance hTl PySem.F.sub_list_set ?_)
      show wpAny (model prog w) A.in1.in1 (isInstance (Value.ref l) (Value.type "frozenset")) _ _ _
      refine wpAny_isInstance hTl PySem.F.sub_list_frozenset ?_
      rw [if_neg (by decide)]
      refine wpAny_bind (wpAny_typeOf hTl ?_)
      rw [if_neg (by decide)]
      refine wpAny_bind (wpAny_pyIter_list hl2 ?_)
      refine wpAny_bind (wpAny_runValue ?_)
      have hsz : s.heap.objs.size ≠ (s.heap.push { cls := Value.type "set", data := Data.set #[] 0 (SetTable.fresh 0 0 led) }).objs.size := by
        rw [Heap.size_push]; omega
      have hll : l < s.heap.objs.size := by
        obtain ⟨o, ho, _⟩ := hl
        exact Heap.lt_size ho
      have hlI : l ≠ (s.heap.push { cls := Value.type "set", data := Data.set #[] 0 (SetTable.fresh 0 0 led) }).objs.size := by
        rw [Heap.size_push]; exact Nat.ne_of_lt (Nat.lt_succ_of_lt hll)
      refine set_loop (Walks.list hh' _ l hlI items) hsz (Nat.ne_of_gt hll) hx hn hb items.size 0 _ _ rfl (Nat.zero_le _) ⟨⟨_, Heap.get?_push_size _ rfl, rfl, rfl⟩, hl2.push _⟩ ?_ fun s' g1 g2 g3 keep hset => ?_
      · refine ⟨_, #[], 0, SetTable.fresh 0 0 led, Heap.get?_push_of_some _ hg, ⟨rfl, rfl, rfl⟩, rfl, ?_, fun k => ?_, by decide, by cases led <;> decide, rfl⟩
        · intro e he; cases he
        · cases k with
          | inl z => simp [setS]
          | inr z => simp [setS, ded]
      · dsimp only
        refine wpAny_pure (wpAny_pure ?_)
        dsimp only
        rw [if_neg (by decide)]
        refine wpAny_pure ?_
        dsimp only
        obtain ⟨h', gens', drawn', toks', os'⟩ := s'
        have g1 : gens' = s.gens := g1
        have g2 : drawn' = s.drawn := g2
        have g3 : os' = s.os := g3
        subst g1 g2 g3
        refine q h' toks' hset fun b o hb1 ho => keep b o (Nat.ne_of_lt hb1) ?_ ?_
        · rw [Heap.size_push]; exact Nat.ne_of_lt (Nat.lt_succ_of_lt hb1)
        · exact Heap.get?_push_of_some _ (Heap.get?_push_of_some _ ho)
end
/-- a set of texts -/
def DSet (P : Program) (w : World) (a : Addr) (xs : List Str) : HO := .ext fun h => Heap.SetOf (mixKind P w) h a (setS (ded xs)) (ded xs).length
theorem dset_ok {P : Program} {w : World} {H : Hp} {h : Heap} {a : Addr} {xs : List Str} (x : Heap.SetOf (mixKind P w) h a (setS (ded xs)) (ded xs).length) : ObjOk P w H h a (DSet P w a xs) := by
  refine ⟨x, ?_, fun h1 h2 y k => ?_⟩
  · obtain ⟨o, es, ep, t, ho, _⟩ := x
    exact ⟨o, ho⟩
  · obtain ⟨o, es, ep, t, ho, hr⟩ := y
    exact ⟨o, es, ep, t, k _ ho, hr⟩
section
variable {X : Cx}
def rSetS (P : Program) (w : World) (K : PySem.W.Frag) : List V → Hp → VK → Prop := fun vs H Q => ∃ (a : Addr) (xs : List Str), vs = [.ref a] ∧ SqL K H a (xs.map V.str) ∧ xs.length ≤ 1000 ∧ ∀ p, H p = none → Q (.ref p) (upd H p (DSet P w p xs))
theorem cr_setS {P : Program} {w : World} {K : PySem.W.Frag} (hP : X.prog = P) (hw : X.w = w) (hK : X.K = K) (hc : X.calm = true) : CallR X (.type "set") (rSetS P w K) := by
  subst hP hw hK
  intro pins s σ H vs us Q I r h
  obtain ⟨a, xs, rfl, hs, hl, q⟩ := h
  obtain ⟨its, rv, hL, _⟩ := I.list hs
  rw [Vals.ref1 r]
  have hlen := rv.length
  rw [List.length_map] at hlen
  refine call_setS (xs := xs) (I.ok.hd hc) hL.isList (fun i v hv => ?_) (by rw [List.size_toArray, hlen]) (by rw [List.size_toArray, ← hlen]; show xs.length + 1 < 4096; omega) fun h' tk hset keep => ?_
  · rw [List.getElem?_toArray] at hv
    obtain ⟨x, hx, e⟩ := pget' rv i v hv
    rw [List.getElem?_map] at hx
    obtain ⟨z, hz, rfl⟩ := Option.map_eq_some_iff.mp hx
    obtain ⟨t, rfl⟩ := e
    exact ⟨z, t, rfl, hz⟩
  · exact ⟨.ref s.heap.objs.size, _, I.laid (a := s.heap.objs.size) (o := DSet X.prog X.w s.heap.objs.size xs) (h' := h') (t' := tk) (fun b ob hb => keep b ob (Heap.lt_size hb) hb) (Nat.le_refl _) (dset_ok hset), rfl, q _ (I.hok.fresh (Nat.le_refl _))⟩
theorem cr_lenS {P : Program} {w : World} (hP : X.prog = P) (hw : X.w = w) : CallR X (.builtin "len") (fun vs H Q => ∃ a xs, vs = [V.ref a] ∧ H a = some (DSet P w a xs) ∧ Q (.int (ded xs).length) H) := by
  subst hP hw
  intro pins s σ H vs us Q I r h
  obtain ⟨a, xs, rfl, ha, q⟩ := h
  obtain ⟨u, rfl, ru⟩ := vals1 r
  cases ru
  obtain ⟨⟨o, es, ep, t, ho, hx, hd, _, _, hb, hf, hn⟩, _, _⟩ := (show ObjOk X.prog X.w H s.heap a (DSet X.prog X.w a xs) from I.hok a _ ha)
  refine call_len_set ho hx hd hf (Int.lt_of_lt_of_le (Int.ofNat_lt.mpr hb) (by decide)) ?_
  rw [hn]
  exact ⟨.int (ded xs).length, H, I.tok _, ⟨_, rfl⟩, q⟩
end
end L2

set_option Elab.async false
set_option linter.all false
set_option maxRecDepth 100000
set_option maxHeartbeats 1000000
namespace L2
open PySem PySem.Spec PyProof.Rows
section
variable {X : Cx}
def rNotInD (K : PySem.W.Frag) : R2 := fun x y H Q => ∃ d ds, Dp K H x d ∧ Dp K H y (.list ds) ∧ SeqAt.shaped d = true ∧ (∀ e ∈ ds, SeqAt.shaped e = true) ∧ Q (.bl (!(ds.any fun e => PyData.eqv e d))) H
theorem op_notInD {K : PySem.W.Frag} (hK : X.K = K) (hu : X.A.units + 65 < cLine) : OpR X (compareOp .NotIn) (rNotInD K) := by
  subst hK
  intro pins s σ H x y v u Q I rx ry h
  obtain ⟨d, ds, hd, he, sd, se, q⟩ := h
  obtain ⟨as, r1⟩ := Dp.reads I d x v hd rx
  obtain ⟨bs, r2⟩ := Dp.reads I _ y u he ry
  obtain ⟨c1, c2⟩ := canAll se
  have h3 := sd
  unfold SeqAt.shaped at h3
  rw [Bool.and_eq_true] at h3
  have h4 : d.depth ≤ 64 := by simpa using h3.2
  exact SeqAt.notIn_list_reads r2 r1 c1 h3.1 (by omega) ⟨.bl _, H, I, rfl, q⟩
end
end L2

set_option Elab.async false
set_option linter.all false
set_option maxRecDepth 100000
set_option maxHeartbeats 1000000
namespace L2
open PySem PySem.Spec PyProof.Rows
section
variable {prog : Program} {w : World}
theorem draw_walk {A : Around} {I ax : Addr} {items : Array Value} (wk : Walks prog w A I [I, ax] [I] items.size (fun i v => items[i]? = some v) fun i h => h.IsListIter I ax i ∧ h.IsList ax items) : ∀ (k i : Nat) (s : Shared) (E : Value → Shared → Prop) (Q : List Value → Shared → Prop), i + k = items.size → s.heap.IsListIter I ax i ∧ s.heap.IsList ax items →
    (∀ h' tk, h'.IsListIter I ax items.size ∧ h'.IsList ax items → (∀ b o, b ≠ I → s.heap.get? b = some o → h'.get? b = some o) → Q (items.toList.drop i) { s with heap := h', toks := tk }) → wpAny (model prog w) A (draw (.ref I) k) Q E s := by
  intro k
  induction k with
  | zero =>
    intro i s E Q hi st q
    rw [draw.eq_1]
    have e : i = items.size := by omega
    subst e
    have := q s.heap s.toks st (fun _ _ _ h => h)
    rw [List.drop_of_length_le (by rw [Array.length_toList]; exact Nat.le_refl _)] at this
    exact wpAny_pure this
  | succ k ih =>
    intro i s E Q hi st q
    rw [draw.eq_2]
    refine wpAny_bind (wk.item i s _ _ (by omega) st fun v h' tk hp st' keep => ?_)
    refine wpAny_bind (wpAny_holding (ih (i + 1) _ E _ (by omega) st' fun h'' tk' st'' keep' => wpAny_pure ?_))
    have hv : items.toList[i]? = some v := by rw [Array.getElem?_toList]; exact hp
    obtain ⟨hi2, ev⟩ := List.getElem?_eq_some_iff.mp hv
    have := q h'' tk' st'' fun b o hb ho => keep' b o hb (keep b o (by simpa using hb) ho)
    rw [List.drop_eq_getElem_cons hi2, ev] at this
    exact this
theorem unpack_list {A : Around} {E : Value → Shared → Prop} {s : Shared} {l : Addr} {items : Array Value} {targets : List (Bool × (Value → Sem Unit))} {Q : Unit → Shared → Prop} (hh : A.handled = none) (hl : s.heap.IsList l items) (hn : targets.length = items.size) (hst : targets.findIdx? (·.1) = none)
    (q : ∀ h' tk, (∀ b o, b < s.heap.objs.size → s.heap.get? b = some o → h'.get? b = some o) → wpAny (model prog w) A (assignInOrder (targets.map (·.2)) items.toList) Q E { s with heap := h', toks := tk }) : wpAny (model prog w) A (unpack (.ref l) targets) Q E s := by
  unfold unpack
  rw [hst, hn]
  refine wpAny_bind (wpAny_holding ?_)
  have hT : s.TypeIs (.ref l) "list" := by
    obtain ⟨o, ho, hc, _⟩ := hl
    exact ⟨o, ho, hc⟩
  have hll : l < s.heap.objs.size := by
    obtain ⟨o, ho, _⟩ := hl
    exact Heap.lt_size ho
  unfold unpackItems notIterableAtAll
  refine wpAny_bind (wpAny_bind (wpAny_specialOf hT PySem.F.slot_list_iter.lookup ?_))
  rw [if_pos (by rfl)]
  refine wpAny_pure ?_
  rw [if_neg (by decide)]
  refine wpAny_bind (wpAny_holding (wpAny_pyIter_list hl ?_))
  dsimp only
  have wk := Walks.list (prog := prog) (w := w) hh s.heap.objs.size l (Nat.ne_of_lt hll) items
  refine wpAny_bind (wpAny_holding (draw_walk wk items.size 0 _ _ _ (by omega) ⟨⟨_, Heap.get?_push_size _ rfl, rfl, rfl⟩, hl.push _⟩ fun h' tk st' keep => ?_))
  rw [List.drop_zero]
  rw [if_neg (by rw [Array.length_toList]; omega)]
  refine wpAny_bind (wpAny_holding (wk.done _ _ _ st' fun h'' tk' keep' => ?_))
  rw [if_neg (by decide)]
  refine wpAny_pure (q h'' tk' fun b o hb ho => keep' b o ?_ (keep b o (Nat.ne_of_lt hb) (Heap.get?_push_of_some _ ho)))
  simpa using Nat.ne_of_lt hb
end
/-- (a, b), of a list -/
def gTupL (K : PySem.W.Frag) (n : Nat) (t : TGs) : TG := fun v σ H Q => ∃ a xs, v = .ref a ∧ SqL K H a xs ∧ xs.length = n ∧ t xs σ H Q
theorem pg_tupL {X : Cx} {pos : Pos} {K : PySem.W.Frag} (hK : X.K = K) {es : List Expr} {k : Nat} {t : TGs} {n : Nat} (hc : X.calm = true) (h : PGs X es t)
    (hn : (assignEach es X.env).length = n := by rfl) (hst : (assignEach es X.env).findIdx? (·.1) = none := by rfl) : PG X (.Tuple es k pos) (gTupL K n t) := by
  subst hK
  intro pins s σ H v u Q I r hw
  obtain ⟨a, xs, e1, hq, hl, hw⟩ := hw
  subst e1
  cases r
  obtain ⟨its, rv, ht, hz⟩ := I.list hq
  rw [assign_Tuple]
  refine wpAny_bind (wpAny_standAt ?_)
  refine unpack_list (I.ok.hd hc) ht.isList (by rw [hn, ← hl, List.size_toArray, rv.length]) hst fun h' tk keep => ?_
  have I1 : Inv X pins σ H { s with heap := h', toks := tk } := I.kept (t' := tk) fun b o e => keep b o (Heap.lt_size e) e
  exact h pins _ σ H xs _ Q I1 (by simpa using rv) hw
end L2

set_option Elab.async false
set_option linter.all false
set_option maxRecDepth 100000
set_option maxHeartbeats 1000000
namespace L2
open PySem PySem.Spec PyProof.Rows
section
variable {X : Cx}
theorem bounds_cutE (a n : Nat) : sliceBounds (some (a : Int)) none none n = (((min a n : Nat) : Int), ((n : Nat) : Int), 1) := by
  have h1 : ¬ ((a : Int) < 0) := by omega
  simp only [sliceBounds, h1, Option.getD_none, if_false, show (1 : Int) > 0 by decide, if_true]
  refine Prod.ext ?_ (Prod.ext ?_ rfl)
  · show max (0 : Int) (min (a : Int) (n : Int)) = ((min a n : Nat) : Int)
    omega
  · first
      | rfl
      | (show max (0 : Int) (min (n : Int) (n : Int)) = ((n : Nat) : Int)
         omega)
def gSlE (to : TE) (tl th : TO) : TG := fun v σ H Q => to σ H fun o H1 => tl σ H1 fun l H2 => th σ H2 fun u H3 => ∃ (p b : Addr) (xs ys : List V) (a : Nat), o = .ref p ∧ v = .ref b ∧ l = some (a : Int) ∧ u = none ∧ H3 p = some (.lst xs) ∧ H3 b = some (.lst ys) ∧ p ≠ b ∧ xs.length + ys.length ≤ sizeLine ∧ Q σ (upd H3 p (.lst (xs.take a ++ ys)))
theorem pg_slsetE {o : Expr} {lo hi : Option Expr} {p2 pos : Pos} {to : TE} {tl th : TO} (ho : PE X o to) (hl : PO X lo tl) (hu : PO X hi th)
    (ha : ∀ v, assign (.Subscript o (.Slice lo hi none p2) pos) X.env v = (do
      let ov ← holding [v] (eval o X.env)
      let iv ← holding [v, ov] (eval (.Slice lo hi none p2) X.env)
      standAt pos
      holding [v, ov, iv] (setItem ov iv v)
      release [iv, v, ov] []) := by intro _; rfl) : PG X (.Subscript o (.Slice lo hi none p2) pos) (gSlE to tl th) := by
  intro pins s σ H v u Q I r h
  rw [ha]
  refine wpAny_bind (wpAny_holding (thn (ho pins s σ H _ I h) fun ov s1 ⟨x, H1, I1, r1, q1⟩ => ?_))
  refine wpAny_bind (wpAny_holding (wpAny_Slice (thn (hl pins s1 σ H1 _ I1 q1) fun vl s2 ⟨l, H2, I2, pl, q2⟩ => thn (hu pins s2 σ H2 _ I2 q2) fun vu s3 ⟨w, H3, I3, pu, q3⟩ => ?_)))
  rw [evalPart_none]
  refine wpAny_pure ?_
  have I4 : Inv X pins σ H3 { s3 with heap := s3.heap.push { cls := .type "slice", data := .fields #[vl, vu, .none] } } := I3.kept (t' := s3.toks) fun b ob q => Heap.get?_push_of_some _ q
  obtain ⟨p, b, xs, ys, a, rfl, rfl, rfl, rfl, hp, hb, hne, hz, q⟩ := q3
  cases r1
  cases r
  obtain ⟨z, its, n, rv, hln, e⟩ := I4.lstM hp
  obtain ⟨z2, its2, n2, rv2, hln2, e2⟩ := I4.lstM hb
  refine wpAny_bind (wpAny_standAt (wpAny_bind (wpAny_holding (setItem_slC (a := min a its.toArray.size) (c := its.toArray.size) e e2 hne (Heap.IsSliceOf.new ..) pl pu (by omega) (by omega) (bounds_cutE a _) (by rw [List.size_toArray, List.size_toArray]; omega) ?_))))
  refine wpAny_release ⟨σ, _, I4.lset (its' := its.take a ++ its2) hp e ?_ (Vals.append (rv.take _) rv2) ?_, q⟩
  · have e3 := splice_eq its its2 (min a its.toArray.size) its.toArray.size
    have t1 : its.take (min a its.toArray.size) = its.take a := by
      rw [List.size_toArray, List.take_eq_take_min, Nat.min_assoc, Nat.min_self, ← List.take_eq_take_min]
    have t2 : its.drop its.toArray.size = [] := by rw [List.size_toArray, List.drop_length]
    rw [t1, t2, List.append_nil] at e3
    exact e3
  · rw [List.length_append, List.length_take]
    omega
end
end L2

set_option Elab.async false
set_option linter.all false
set_option maxRecDepth 100000
set_option maxHeartbeats 4000000
namespace My
open PySem PySem.Spec PyProof.Rows L2 Bk
def top (i : Nat) : Stmt := PySem.Challenge.pw_shapecourt_k03_books_known.main.body.getD i (.Pass ⟨0, 0, 0, 0⟩)
abbrev s_is_word : Stmt := top 3
theorem sc_is_word : FnScope ["thing", "sign"] ["thing"] (defScope s_is_word) := ⟨rfl, rfl, rfl, by decide +kernel, rfl, by decide +kernel, by decide +kernel⟩
abbrev s_is_tuple_of : Stmt := top 4
theorem sc_is_tuple_of : FnScope ["thing", "fewest", "most"] ["thing", "fewest", "most"] (defScope s_is_tuple_of) := ⟨rfl, rfl, rfl, by decide +kernel, rfl, by decide +kernel, by decide +kernel⟩
abbrev s_has_make_form : Stmt := top 10
theorem sc_has_make_form : FnScope ["thing", "field"] ["thing"] (defScope s_has_make_form) := ⟨rfl, rfl, rfl, by decide +kernel, rfl, by decide +kernel, by decide +kernel⟩
abbrev s_has_kind_form : Stmt := top 11
theorem sc_has_kind_form : FnScope ["thing", "make"] ["thing"] (defScope s_has_kind_form) := ⟨rfl, rfl, rfl, by decide +kernel, rfl, by decide +kernel, by decide +kernel⟩
abbrev s_are_unlike : Stmt := top 12
theorem sc_are_unlike : FnScope ["names"] ["names"] (defScope s_are_unlike) := ⟨rfl, rfl, rfl, by decide +kernel, rfl, by decide +kernel, by decide +kernel⟩
abbrev s_is_book : Stmt := top 13
theorem sc_is_book : FnScope ["thing", "kinds", "makes_met", "fields_met", "make", "field", "name", "makes", "fields", "kind"] ["thing"] (defScope s_is_book) := ⟨rfl, rfl, rfl, by decide +kernel, rfl, by decide +kernel, by decide +kernel⟩
abbrev s_law_pool : Stmt := top 15
theorem sc_law_pool : FnScope ["cell"] ["cell"] (defScope s_law_pool) := ⟨rfl, rfl, rfl, by decide +kernel, rfl, by decide +kernel, by decide +kernel⟩
abbrev s_law_next : Stmt := top 16
theorem sc_law_next : FnScope ["pool", "base", "near", "stir", "digit"] ["pool", "base"] (defScope s_law_next) := ⟨rfl, rfl, rfl, by decide +kernel, rfl, by decide +kernel, by decide +kernel⟩
abbrev s_law_spelt : Stmt := top 17
theorem sc_law_spelt : FnScope ["number", "size", "letters", "name", "k"] ["number", "size"] (defScope s_law_spelt) := ⟨rfl, rfl, rfl, by decide +kernel, rfl, by decide +kernel, by decide +kernel⟩
abbrev s_law_any_name : Stmt := top 18
theorem sc_law_any_name : FnScope ["pool", "taken", "size", "number", "turn"] ["pool", "taken"] (defScope s_law_any_name) := ⟨rfl, rfl, rfl, by decide +kernel, rfl, by decide +kernel, by decide +kernel⟩
abbrev s_law_names : Stmt := top 19
theorem sc_law_names : FnScope ["pool", "many", "taken", "found", "size", "base", "at", "first", "tails", "k", "name"] ["pool", "many", "taken"] (defScope s_law_names) := ⟨rfl, rfl, rfl, by decide +kernel, rfl, by decide +kernel, by decide +kernel⟩
abbrev s_law_book : Stmt := top 20
theorem sc_law_book : FnScope ["pool", "many", "chain", "kinds", "makes", "book", "at", "first", "some", "among", "count", "k", "size", "fields", "place"] ["pool"] (defScope s_law_book) := ⟨rfl, rfl, rfl, by decide +kernel, rfl, by decide +kernel, by decide +kernel⟩
abbrev s_law_word : Stmt := top 21
theorem sc_law_word : FnScope ["thing", "sign"] ["thing"] (defScope s_law_word) := ⟨rfl, rfl, rfl, by decide +kernel, rfl, by decide +kernel, by decide +kernel⟩
abbrev s_law_row : Stmt := top 22
theorem sc_law_row : FnScope ["thing", "least", "most"] ["thing", "least", "most"] (defScope s_law_row) := ⟨rfl, rfl, rfl, by decide +kernel, rfl, by decide +kernel, by decide +kernel⟩
abbrev s_law_due : Stmt := top 23
theorem sc_law_due : FnScope ["thing", "kinds", "makes", "fields", "row", "make", "field"] ["thing"] (defScope s_law_due) := ⟨rfl, rfl, rfl, by decide +kernel, rfl, by decide +kernel, by decide +kernel⟩
abbrev s_law_open : Stmt := top 24
theorem sc_law_open : FnScope ["book", "rows", "kind", "makes", "make", "fields"] ["book"] (defScope s_law_open) := ⟨rfl, rfl, rfl, by decide +kernel, rfl, by decide +kernel, by decide +kernel⟩
abbrev s_law_shut : Stmt := top 25
theorem sc_law_shut : FnScope ["thing", "one"] ["thing"] (defScope s_law_shut) := ⟨rfl, rfl, rfl, by decide +kernel, rfl, by decide +kernel, by decide +kernel⟩
abbrev s_law_odd : Stmt := top 26
theorem sc_law_odd : FnScope ["pool", "rows", "some", "kind", "makes"] ["pool", "rows"] (defScope s_law_odd) := ⟨rfl, rfl, rfl, by decide +kernel, rfl, by decide +kernel, by decide +kernel⟩
abbrev s_law_fresh : Stmt := top 27
theorem sc_law_fresh : FnScope ["pool", "rows", "taken", "number", "turn", "kind", "makes", "make"] ["pool", "rows"] (defScope s_law_fresh) := ⟨rfl, rfl, rfl, by decide +kernel, rfl, by decide +kernel, by decide +kernel⟩
abbrev s_law_named : Stmt := top 28
theorem sc_law_named : FnScope ["pool", "row", "one", "odd", "way"] ["pool", "row", "one", "odd", "way"] (defScope s_law_named) := ⟨rfl, rfl, rfl, by decide +kernel, rfl, by decide +kernel, by decide +kernel⟩
abbrev s_law_filled : Stmt := top 29
theorem sc_law_filled : FnScope ["pool", "rows", "row", "one", "way", "many", "k", "name"] ["pool", "rows", "row", "one", "way"] (defScope s_law_filled) := ⟨rfl, rfl, rfl, by decide +kernel, rfl, by decide +kernel, by decide +kernel⟩
abbrev s_law_broken : Stmt := top 30
theorem sc_law_broken : FnScope ["rows", "at", "one", "odd", "way"] ["rows", "at", "one", "odd", "way"] (defScope s_law_broken) := ⟨rfl, rfl, rfl, by decide +kernel, rfl, by decide +kernel, by decide +kernel⟩
abbrev s_law_turn : Stmt := top 31
theorem sc_law_turn : FnScope ["pool", "rows", "way", "odd", "at", "one"] ["pool", "rows", "way"] (defScope s_law_turn) := ⟨rfl, rfl, rfl, by decide +kernel, rfl, by decide +kernel, by decide +kernel⟩
abbrev s_law : Stmt := top 32
theorem sc_law : FnScope ["script", "first", "book", "cell", "pool", "rows", "thing", "found"] ["script"] (defScope s_law) := ⟨rfl, rfl, rfl, by decide +kernel, rfl, by decide +kernel, by decide +kernel⟩
theorem db_thing : (("thing" : Str) == ("__debug__" : Str)) = false := by decide +kernel
theorem cd_thing : (("thing" : Str) == ("__classdict__" : Str)) = false := by decide +kernel
theorem db_isinstance : (("isinstance" : Str) == ("__debug__" : Str)) = false := by decide +kernel
theorem nn_isinstance : ("isinstance" : Str) ≠ "__name__" := by decide +kernel
theorem db_str : (("str" : Str) == ("__debug__" : Str)) = false := by decide +kernel
theorem nn_str : ("str" : Str) ≠ "__name__" := by decide +kernel
theorem db_LONGEST_WORD : (("LONGEST_WORD" : Str) == ("__debug__" : Str)) = false := by decide +kernel
theorem db_len : (("len" : Str) == ("__debug__" : Str)) = false := by decide +kernel
theorem nn_len : ("len" : Str) ≠ "__name__" := by decide +kernel
theorem db_LETTERS : (("LETTERS" : Str) == ("__debug__" : Str)) = false := by decide +kernel
theorem v_is_word_thing : Vis (defScope s_is_word) "thing" := by first | exact Or.inl (by decide +kernel) | exact Or.inr (Or.inl (by decide +kernel))
theorem g_is_word_isinstance : (defScope s_is_word).names.lookup ("isinstance" : Str) = some NameKind.globalImplicit := by decide +kernel
theorem bt_isinstance : bootBuiltins "isinstance" = some (.builtin "isinstance") := by decide +kernel
theorem g_is_word_str : (defScope s_is_word).names.lookup ("str" : Str) = some NameKind.globalImplicit := by decide +kernel
theorem bt_str : bootBuiltins "str" = some (.type "str") := by decide +kernel
theorem g_is_word_LONGEST_WORD : (defScope s_is_word).names.lookup ("LONGEST_WORD" : Str) = some NameKind.globalImplicit := by decide +kernel
theorem g_is_word_all : (defScope s_is_word).names.lookup ("all" : Str) = some NameKind.globalImplicit := by decide +kernel
theorem g_is_word_len : (defScope s_is_word).names.lookup ("len" : Str) = some NameKind.globalImplicit := by decide +kernel
theorem bt_len : bootBuiltins "len" = some (.builtin "len") := by decide +kernel
theorem db_fewest : (("fewest" : Str) == ("__debug__" : Str)) = false := by decide +kernel
theorem cd_fewest : (("fewest" : Str) == ("__classdict__" : Str)) = false := by decide +kernel
theorem db_most : (("most" : Str) == ("__debug__" : Str)) = false := by decide +kernel
theorem cd_most : (("most" : Str) == ("__classdict__" : Str)) = false := by decide +kernel
theorem db_tuple : (("tuple" : Str) == ("__debug__" : Str)) = false := by decide +kernel
theorem nn_tuple : ("tuple" : Str) ≠ "__name__" := by decide +kernel
theorem v_is_tuple_of_thing : Vis (defScope s_is_tuple_of) "thing" := by first | exact Or.inl (by decide +kernel) | exact Or.inr (Or.inl (by decide +kernel))
theorem v_is_tuple_of_fewest : Vis (defScope s_is_tuple_of) "fewest" := by first | exact Or.inl (by decide +kernel) | exact Or.inr (Or.inl (by decide +kernel))
theorem v_is_tuple_of_most : Vis (defScope s_is_tuple_of) "most" := by first | exact Or.inl (by decide +kernel) | exact Or.inr (Or.inl (by decide +kernel))
theorem g_is_tuple_of_isinstance : (defScope s_is_tuple_of).names.lookup ("isinstance" : Str) = some NameKind.globalImplicit := by decide +kernel
theorem g_is_tuple_of_tuple : (defScope s_is_tuple_of).names.lookup ("tuple" : Str) = some NameKind.globalImplicit := by decide +kernel
theorem bt_tuple : bootBuiltins "tuple" = some (.type "tuple") := by decide +kernel
theorem g_is_tuple_of_len : (defScope s_is_tuple_of).names.lookup ("len" : Str) = some NameKind.globalImplicit := by decide +kernel
theorem db_is_tuple_of : (("is_tuple_of" : Str) == ("__debug__" : Str)) = false := by decide +kernel
theorem cd_is_tuple_of : (("is_tuple_of" : Str) == ("__classdict__" : Str)) = false := by decide +kernel
theorem db_MOST_FIELDS : (("MOST_FIELDS" : Str) == ("__debug__" : Str)) = false := by decide +kernel
theorem db_is_word : (("is_word" : Str) == ("__debug__" : Str)) = false := by decide +kernel
theorem cd_is_word : (("is_word" : Str) == ("__classdict__" : Str)) = false := by decide +kernel
theorem v_has_make_form_thing : Vis (defScope s_has_make_form) "thing" := by first | exact Or.inl (by decide +kernel) | exact Or.inr (Or.inl (by decide +kernel))
theorem g_has_make_form_is_tuple_of : (defScope s_has_make_form).names.lookup ("is_tuple_of" : Str) = some NameKind.globalImplicit := by decide +kernel
theorem g_has_make_form_MOST_FIELDS : (defScope s_has_make_form).names.lookup ("MOST_FIELDS" : Str) = some NameKind.globalImplicit := by decide +kernel
theorem g_has_make_form_all : (defScope s_has_make_form).names.lookup ("all" : Str) = some NameKind.globalImplicit := by decide +kernel
theorem g_has_make_form_is_word : (defScope s_has_make_form).names.lookup ("is_word" : Str) = some NameKind.globalImplicit := by decide +kernel
theorem db_make : (("make" : Str) == ("__debug__" : Str)) = false := by decide +kernel
theorem cd_make : (("make" : Str) == ("__classdict__" : Str)) = false := by decide +kernel
theorem db_MOST_MAKES : (("MOST_MAKES" : Str) == ("__debug__" : Str)) = false := by decide +kernel
theorem db_has_make_form : (("has_make_form" : Str) == ("__debug__" : Str)) = false := by decide +kernel
theorem cd_has_make_form : (("has_make_form" : Str) == ("__classdict__" : Str)) = false := by decide +kernel
theorem v_has_kind_form_thing : Vis (defScope s_has_kind_form) "thing" := by first | exact Or.inl (by decide +kernel) | exact Or.inr (Or.inl (by decide +kernel))
theorem g_has_kind_form_is_tuple_of : (defScope s_has_kind_form).names.lookup ("is_tuple_of" : Str) = some NameKind.globalImplicit := by decide +kernel
theorem g_has_kind_form_MOST_MAKES : (defScope s_has_kind_form).names.lookup ("MOST_MAKES" : Str) = some NameKind.globalImplicit := by decide +kernel
theorem g_has_kind_form_all : (defScope s_has_kind_form).names.lookup ("all" : Str) = some NameKind.globalImplicit := by decide +kernel
theorem g_has_kind_form_is_word : (defScope s_has_kind_form).names.lookup ("is_word" : Str) = some NameKind.globalImplicit := by decide +kernel
theorem db_names : (("names" : Str) == ("__debug__" : Str)) = false := by decide +kernel
theorem cd_names : (("names" : Str) == ("__classdict__" : Str)) = false := by decide +kernel
theorem db_set : (("set" : Str) == ("__debug__" : Str)) = false := by decide +kernel
theorem nn_set : ("set" : Str) ≠ "__name__" := by decide +kernel
theorem v_are_unlike_names : Vis (defScope s_are_unlike) "names" := by first | exact Or.inl (by decide +kernel) | exact Or.inr (Or.inl (by decide +kernel))
theorem g_are_unlike_len : (defScope s_are_unlike).names.lookup ("len" : Str) = some NameKind.globalImplicit := by decide +kernel
theorem g_are_unlike_set : (defScope s_are_unlike).names.lookup ("set" : Str) = some NameKind.globalImplicit := by decide +kernel
theorem bt_set : bootBuiltins "set" = some (.type "set") := by decide +kernel
theorem db_kinds : (("kinds" : Str) == ("__debug__" : Str)) = false := by decide +kernel
theorem cd_kinds : (("kinds" : Str) == ("__classdict__" : Str)) = false := by decide +kernel
theorem db_makes_met : (("makes_met" : Str) == ("__debug__" : Str)) = false := by decide +kernel
theorem cd_makes_met : (("makes_met" : Str) == ("__classdict__" : Str)) = false := by decide +kernel
theorem db_fields_met : (("fields_met" : Str) == ("__debug__" : Str)) = false := by decide +kernel
theorem cd_fields_met : (("fields_met" : Str) == ("__classdict__" : Str)) = false := by decide +kernel
theorem db_name : (("name" : Str) == ("__debug__" : Str)) = false := by decide +kernel
theorem cd_name : (("name" : Str) == ("__classdict__" : Str)) = false := by decide +kernel
theorem db_makes : (("makes" : Str) == ("__debug__" : Str)) = false := by decide +kernel
theorem cd_makes : (("makes" : Str) == ("__classdict__" : Str)) = false := by decide +kernel
theorem db_fields : (("fields" : Str) == ("__debug__" : Str)) = false := by decide +kernel
theorem cd_fields : (("fields" : Str) == ("__classdict__" : Str)) = false := by decide +kernel
theorem db_kind : (("kind" : Str) == ("__debug__" : Str)) = false := by decide +kernel
theorem cd_kind : (("kind" : Str) == ("__classdict__" : Str)) = false := by decide +kernel
theorem db_NUM : (("NUM" : Str) == ("__debug__" : Str)) = false := by decide +kernel
theorem db_MOST_KINDS : (("MOST_KINDS" : Str) == ("__debug__" : Str)) = false := by decide +kernel
theorem db_are_unlike : (("are_unlike" : Str) == ("__debug__" : Str)) = false := by decide +kernel
theorem cd_are_unlike : (("are_unlike" : Str) == ("__classdict__" : Str)) = false := by decide +kernel
theorem db_has_kind_form : (("has_kind_form" : Str) == ("__debug__" : Str)) = false := by decide +kernel
theorem cd_has_kind_form : (("has_kind_form" : Str) == ("__classdict__" : Str)) = false := by decide +kernel
theorem v_is_book_thing : Vis (defScope s_is_book) "thing" := by first | exact Or.inl (by decide +kernel) | exact Or.inr (Or.inl (by decide +kernel))
theorem v_is_book_kinds : Vis (defScope s_is_book) "kinds" := by first | exact Or.inl (by decide +kernel) | exact Or.inr (Or.inl (by decide +kernel))
theorem l_is_book_kinds : Loc (defScope s_is_book) "kinds" := by first | exact Or.inl (by decide +kernel) | exact Or.inr (by decide +kernel)
theorem v_is_book_makes_met : Vis (defScope s_is_book) "makes_met" := by first | exact Or.inl (by decide +kernel) | exact Or.inr (Or.inl (by decide +kernel))
theorem v_is_book_fields_met : Vis (defScope s_is_book) "fields_met" := by first | exact Or.inl (by decide +kernel) | exact Or.inr (Or.inl (by decide +kernel))
theorem lx_is_book_makes_met : (defScope s_is_book).names.lookup ("makes_met" : Str) = some NameKind.local := by decide +kernel
theorem lx_is_book_fields_met : (defScope s_is_book).names.lookup ("fields_met" : Str) = some NameKind.local := by decide +kernel
theorem g_is_book_all : (defScope s_is_book).names.lookup ("all" : Str) = some NameKind.globalImplicit := by decide +kernel
theorem g_is_book_NUM : (defScope s_is_book).names.lookup ("NUM" : Str) = some NameKind.globalImplicit := by decide +kernel
theorem g_is_book_is_tuple_of : (defScope s_is_book).names.lookup ("is_tuple_of" : Str) = some NameKind.globalImplicit := by decide +kernel
theorem g_is_book_MOST_KINDS : (defScope s_is_book).names.lookup ("MOST_KINDS" : Str) = some NameKind.globalImplicit := by decide +kernel
theorem g_is_book_are_unlike : (defScope s_is_book).names.lookup ("are_unlike" : Str) = some NameKind.globalImplicit := by decide +kernel
theorem db_cell : (("cell" : Str) == ("__debug__" : Str)) = false := by decide +kernel
theorem cd_cell : (("cell" : Str) == ("__classdict__" : Str)) = false := by decide +kernel
theorem db_max : (("max" : Str) == ("__debug__" : Str)) = false := by decide +kernel
theorem nn_max : ("max" : Str) ≠ "__name__" := by decide +kernel
theorem v_law_pool_cell : Vis (defScope s_law_pool) "cell" := by first | exact Or.inl (by decide +kernel) | exact Or.inr (Or.inl (by decide +kernel))
theorem g_law_pool_max : (defScope s_law_pool).names.lookup ("max" : Str) = some NameKind.globalImplicit := by decide +kernel
theorem bt_max : bootBuiltins "max" = some (.builtin "max") := by decide +kernel
theorem db_pool : (("pool" : Str) == ("__debug__" : Str)) = false := by decide +kernel
theorem cd_pool : (("pool" : Str) == ("__classdict__" : Str)) = false := by decide +kernel
theorem db_base : (("base" : Str) == ("__debug__" : Str)) = false := by decide +kernel
theorem cd_base : (("base" : Str) == ("__classdict__" : Str)) = false := by decide +kernel
theorem db_near : (("near" : Str) == ("__debug__" : Str)) = false := by decide +kernel
theorem cd_near : (("near" : Str) == ("__classdict__" : Str)) = false := by decide +kernel
theorem db_stir : (("stir" : Str) == ("__debug__" : Str)) = false := by decide +kernel
theorem cd_stir : (("stir" : Str) == ("__classdict__" : Str)) = false := by decide +kernel
theorem db_digit : (("digit" : Str) == ("__debug__" : Str)) = false := by decide +kernel
theorem cd_digit : (("digit" : Str) == ("__classdict__" : Str)) = false := by decide +kernel
theorem v_law_next_pool : Vis (defScope s_law_next) "pool" := by first | exact Or.inl (by decide +kernel) | exact Or.inr (Or.inl (by decide +kernel))
theorem v_law_next_base : Vis (defScope s_law_next) "base" := by first | exact Or.inl (by decide +kernel) | exact Or.inr (Or.inl (by decide +kernel))
theorem v_law_next_near : Vis (defScope s_law_next) "near" := by first | exact Or.inl (by decide +kernel) | exact Or.inr (Or.inl (by decide +kernel))
theorem l_law_next_near : Loc (defScope s_law_next) "near" := by first | exact Or.inl (by decide +kernel) | exact Or.inr (by decide +kernel)
theorem v_law_next_stir : Vis (defScope s_law_next) "stir" := by first | exact Or.inl (by decide +kernel) | exact Or.inr (Or.inl (by decide +kernel))
theorem l_law_next_stir : Loc (defScope s_law_next) "stir" := by first | exact Or.inl (by decide +kernel) | exact Or.inr (by decide +kernel)
theorem v_law_next_digit : Vis (defScope s_law_next) "digit" := by first | exact Or.inl (by decide +kernel) | exact Or.inr (Or.inl (by decide +kernel))
theorem l_law_next_digit : Loc (defScope s_law_next) "digit" := by first | exact Or.inl (by decide +kernel) | exact Or.inr (by decide +kernel)
theorem db_number : (("number" : Str) == ("__debug__" : Str)) = false := by decide +kernel
theorem cd_number : (("number" : Str) == ("__classdict__" : Str)) = false := by decide +kernel
theorem db_size : (("size" : Str) == ("__debug__" : Str)) = false := by decide +kernel
theorem cd_size : (("size" : Str) == ("__classdict__" : Str)) = false := by decide +kernel
theorem db_letters : (("letters" : Str) == ("__debug__" : Str)) = false := by decide +kernel
theorem cd_letters : (("letters" : Str) == ("__classdict__" : Str)) = false := by decide +kernel
theorem db_k : (("k" : Str) == ("__debug__" : Str)) = false := by decide +kernel
theorem cd_k : (("k" : Str) == ("__classdict__" : Str)) = false := by decide +kernel
theorem v_law_spelt_number : Vis (defScope s_law_spelt) "number" := by first | exact Or.inl (by decide +kernel) | exact Or.inr (Or.inl (by decide +kernel))
theorem l_law_spelt_number : Loc (defScope s_law_spelt) "number" := by first | exact Or.inl (by decide +kernel) | exact Or.inr (by decide +kernel)
theorem v_law_spelt_size : Vis (defScope s_law_spelt) "size" := by first | exact Or.inl (by decide +kernel) | exact Or.inr (Or.inl (by decide +kernel))
theorem v_law_spelt_letters : Vis (defScope s_law_spelt) "letters" := by first | exact Or.inl (by decide +kernel) | exact Or.inr (Or.inl (by decide +kernel))
theorem l_law_spelt_letters : Loc (defScope s_law_spelt) "letters" := by first | exact Or.inl (by decide +kernel) | exact Or.inr (by decide +kernel)
theorem v_law_spelt_name : Vis (defScope s_law_spelt) "name" := by first | exact Or.inl (by decide +kernel) | exact Or.inr (Or.inl (by decide +kernel))
theorem l_law_spelt_name : Loc (defScope s_law_spelt) "name" := by first | exact Or.inl (by decide +kernel) | exact Or.inr (by decide +kernel)
theorem l_law_spelt_k : Loc (defScope s_law_spelt) "k" := by first | exact Or.inl (by decide +kernel) | exact Or.inr (by decide +kernel)
theorem g_law_spelt_range : (defScope s_law_spelt).names.lookup ("range" : Str) = some NameKind.globalImplicit := by decide +kernel
theorem db_taken : (("taken" : Str) == ("__debug__" : Str)) = false := by decide +kernel
theorem cd_taken : (("taken" : Str) == ("__classdict__" : Str)) = false := by decide +kernel
theorem db_law_next : (("_law_next" : Str) == ("__debug__" : Str)) = false := by decide +kernel
theorem cd_law_next : (("_law_next" : Str) == ("__classdict__" : Str)) = false := by decide +kernel
theorem db_law_spelt : (("_law_spelt" : Str) == ("__debug__" : Str)) = false := by decide +kernel
theorem cd_law_spelt : (("_law_spelt" : Str) == ("__classdict__" : Str)) = false := by decide +kernel
theorem v_law_any_name_pool : Vis (defScope s_law_any_name) "pool" := by first | exact Or.inl (by decide +kernel) | exact Or.inr (Or.inl (by decide +kernel))
theorem v_law_any_name_taken : Vis (defScope s_law_any_name) "taken" := by first | exact Or.inl (by decide +kernel) | exact Or.inr (Or.inl (by decide +kernel))
theorem v_law_any_name_size : Vis (defScope s_law_any_name) "size" := by first | exact Or.inl (by decide +kernel) | exact Or.inr (Or.inl (by decide +kernel))
theorem l_law_any_name_size : Loc (defScope s_law_any_name) "size" := by first | exact Or.inl (by decide +kernel) | exact Or.inr (by decide +kernel)
theorem v_law_any_name_number : Vis (defScope s_law_any_name) "number" := by first | exact Or.inl (by decide +kernel) | exact Or.inr (Or.inl (by decide +kernel))
theorem l_law_any_name_number : Loc (defScope s_law_any_name) "number" := by first | exact Or.inl (by decide +kernel) | exact Or.inr (by decide +kernel)
theorem l_law_any_name_turn : Loc (defScope s_law_any_name) "turn" := by first | exact Or.inl (by decide +kernel) | exact Or.inr (by decide +kernel)
theorem g_law_any_name_law_next : (defScope s_law_any_name).names.lookup ("_law_next" : Str) = some NameKind.globalImplicit := by decide +kernel
theorem g_law_any_name_range : (defScope s_law_any_name).names.lookup ("range" : Str) = some NameKind.globalImplicit := by decide +kernel
theorem g_law_any_name_law_spelt : (defScope s_law_any_name).names.lookup ("_law_spelt" : Str) = some NameKind.globalImplicit := by decide +kernel
theorem g_law_any_name_len : (defScope s_law_any_name).names.lookup ("len" : Str) = some NameKind.globalImplicit := by decide +kernel
theorem db_many : (("many" : Str) == ("__debug__" : Str)) = false := by decide +kernel
theorem cd_many : (("many" : Str) == ("__classdict__" : Str)) = false := by decide +kernel
theorem db_found : (("found" : Str) == ("__debug__" : Str)) = false := by decide +kernel
theorem cd_found : (("found" : Str) == ("__classdict__" : Str)) = false := by decide +kernel
theorem db_at : (("at" : Str) == ("__debug__" : Str)) = false := by decide +kernel
theorem cd_at : (("at" : Str) == ("__classdict__" : Str)) = false := by decide +kernel
theorem db_first : (("first" : Str) == ("__debug__" : Str)) = false := by decide +kernel
theorem cd_first : (("first" : Str) == ("__classdict__" : Str)) = false := by decide +kernel
theorem db_tails : (("tails" : Str) == ("__debug__" : Str)) = false := by decide +kernel
theorem cd_tails : (("tails" : Str) == ("__classdict__" : Str)) = false := by decide +kernel
theorem db_law_any_name : (("_law_any_name" : Str) == ("__debug__" : Str)) = false := by decide +kernel
theorem cd_law_any_name : (("_law_any_name" : Str) == ("__classdict__" : Str)) = false := by decide +kernel
theorem v_law_names_pool : Vis (defScope s_law_names) "pool" := by first | exact Or.inl (by decide +kernel) | exact Or.inr (Or.inl (by decide +kernel))
theorem v_law_names_many : Vis (defScope s_law_names) "many" := by first | exact Or.inl (by decide +kernel) | exact Or.inr (Or.inl (by decide +kernel))
theorem v_law_names_taken : Vis (defScope s_law_names) "taken" := by first | exact Or.inl (by decide +kernel) | exact Or.inr (Or.inl (by decide +kernel))
theorem v_law_names_found : Vis (defScope s_law_names) "found" := by first | exact Or.inl (by decide +kernel) | exact Or.inr (Or.inl (by decide +kernel))
theorem l_law_names_found : Loc (defScope s_law_names) "found" := by first | exact Or.inl (by decide +kernel) | exact Or.inr (by decide +kernel)
theorem v_law_names_size : Vis (defScope s_law_names) "size" := by first | exact Or.inl (by decide +kernel) | exact Or.inr (Or.inl (by decide +kernel))
theorem l_law_names_size : Loc (defScope s_law_names) "size" := by first | exact Or.inl (by decide +kernel) | exact Or.inr (by decide +kernel)
theorem v_law_names_base : Vis (defScope s_law_names) "base" := by first | exact Or.inl (by decide +kernel) | exact Or.inr (Or.inl (by decide +kernel))
theorem l_law_names_base : Loc (defScope s_law_names) "base" := by first | exact Or.inl (by decide +kernel) | exact Or.inr (by decide +kernel)
theorem v_law_names_at : Vis (defScope s_law_names) "at" := by first | exact Or.inl (by decide +kernel) | exact Or.inr (Or.inl (by decide +kernel))
theorem l_law_names_at : Loc (defScope s_law_names) "at" := by first | exact Or.inl (by decide +kernel) | exact Or.inr (by decide +kernel)
theorem v_law_names_first : Vis (defScope s_law_names) "first" := by first | exact Or.inl (by decide +kernel) | exact Or.inr (Or.inl (by decide +kernel))
theorem l_law_names_first : Loc (defScope s_law_names) "first" := by first | exact Or.inl (by decide +kernel) | exact Or.inr (by decide +kernel)
theorem v_law_names_tails : Vis (defScope s_law_names) "tails" := by first | exact Or.inl (by decide +kernel) | exact Or.inr (Or.inl (by decide +kernel))
theorem l_law_names_tails : Loc (defScope s_law_names) "tails" := by first | exact Or.inl (by decide +kernel) | exact Or.inr (by decide +kernel)
theorem v_law_names_k : Vis (defScope s_law_names) "k" := by first | exact Or.inl (by decide +kernel) | exact Or.inr (Or.inl (by decide +kernel))
theorem l_law_names_k : Loc (defScope s_law_names) "k" := by first | exact Or.inl (by decide +kernel) | exact Or.inr (by decide +kernel)
theorem v_law_names_name : Vis (defScope s_law_names) "name" := by first | exact Or.inl (by decide +kernel) | exact Or.inr (Or.inl (by decide +kernel))
theorem l_law_names_name : Loc (defScope s_law_names) "name" := by first | exact Or.inl (by decide +kernel) | exact Or.inr (by decide +kernel)
theorem g_law_names_law_next : (defScope s_law_names).names.lookup ("_law_next" : Str) = some NameKind.globalImplicit := by decide +kernel
theorem g_law_names_law_spelt : (defScope s_law_names).names.lookup ("_law_spelt" : Str) = some NameKind.globalImplicit := by decide +kernel
theorem g_law_names_range : (defScope s_law_names).names.lookup ("range" : Str) = some NameKind.globalImplicit := by decide +kernel
theorem g_law_names_law_any_name : (defScope s_law_names).names.lookup ("_law_any_name" : Str) = some NameKind.globalImplicit := by decide +kernel
theorem db_chain : (("chain" : Str) == ("__debug__" : Str)) = false := by decide +kernel
theorem cd_chain : (("chain" : Str) == ("__classdict__" : Str)) = false := by decide +kernel
theorem db_book : (("book" : Str) == ("__debug__" : Str)) = false := by decide +kernel
theorem cd_book : (("book" : Str) == ("__classdict__" : Str)) = false := by decide +kernel
theorem db_some : (("some" : Str) == ("__debug__" : Str)) = false := by decide +kernel
theorem cd_some : (("some" : Str) == ("__classdict__" : Str)) = false := by decide +kernel
theorem db_among : (("among" : Str) == ("__debug__" : Str)) = false := by decide +kernel
theorem cd_among : (("among" : Str) == ("__classdict__" : Str)) = false := by decide +kernel
theorem db_count : (("count" : Str) == ("__debug__" : Str)) = false := by decide +kernel
theorem cd_count : (("count" : Str) == ("__classdict__" : Str)) = false := by decide +kernel
theorem db_law_names : (("_law_names" : Str) == ("__debug__" : Str)) = false := by decide +kernel
theorem cd_law_names : (("_law_names" : Str) == ("__classdict__" : Str)) = false := by decide +kernel
theorem db_min : (("min" : Str) == ("__debug__" : Str)) = false := by decide +kernel
theorem nn_min : ("min" : Str) ≠ "__name__" := by decide +kernel
theorem db_int : (("int" : Str) == ("__debug__" : Str)) = false := by decide +kernel
theorem nn_int : ("int" : Str) ≠ "__name__" := by decide +kernel
theorem v_law_book_pool : Vis (defScope s_law_book) "pool" := by first | exact Or.inl (by decide +kernel) | exact Or.inr (Or.inl (by decide +kernel))
theorem v_law_book_many : Vis (defScope s_law_book) "many" := by first | exact Or.inl (by decide +kernel) | exact Or.inr (Or.inl (by decide +kernel))
theorem l_law_book_many : Loc (defScope s_law_book) "many" := by first | exact Or.inl (by decide +kernel) | exact Or.inr (by decide +kernel)
theorem v_law_book_chain : Vis (defScope s_law_book) "chain" := by first | exact Or.inl (by decide +kernel) | exact Or.inr (Or.inl (by decide +kernel))
theorem l_law_book_chain : Loc (defScope s_law_book) "chain" := by first | exact Or.inl (by decide +kernel) | exact Or.inr (by decide +kernel)
theorem v_law_book_kinds : Vis (defScope s_law_book) "kinds" := by first | exact Or.inl (by decide +kernel) | exact Or.inr (Or.inl (by decide +kernel))
theorem l_law_book_kinds : Loc (defScope s_law_book) "kinds" := by first | exact Or.inl (by decide +kernel) | exact Or.inr (by decide +kernel)
theorem v_law_book_makes : Vis (defScope s_law_book) "makes" := by first | exact Or.inl (by decide +kernel) | exact Or.inr (Or.inl (by decide +kernel))
theorem l_law_book_makes : Loc (defScope s_law_book) "makes" := by first | exact Or.inl (by decide +kernel) | exact Or.inr (by decide +kernel)
theorem v_law_book_book : Vis (defScope s_law_book) "book" := by first | exact Or.inl (by decide +kernel) | exact Or.inr (Or.inl (by decide +kernel))
theorem l_law_book_book : Loc (defScope s_law_book) "book" := by first | exact Or.inl (by decide +kernel) | exact Or.inr (by decide +kernel)
theorem v_law_book_at : Vis (defScope s_law_book) "at" := by first | exact Or.inl (by decide +kernel) | exact Or.inr (Or.inl (by decide +kernel))
theorem l_law_book_at : Loc (defScope s_law_book) "at" := by first | exact Or.inl (by decide +kernel) | exact Or.inr (by decide +kernel)
theorem v_law_book_first : Vis (defScope s_law_book) "first" := by first | exact Or.inl (by decide +kernel) | exact Or.inr (Or.inl (by decide +kernel))
theorem l_law_book_first : Loc (defScope s_law_book) "first" := by first | exact Or.inl (by decide +kernel) | exact Or.inr (by decide +kernel)
theorem v_law_book_some : Vis (defScope s_law_book) "some" := by first | exact Or.inl (by decide +kernel) | exact Or.inr (Or.inl (by decide +kernel))
theorem l_law_book_some : Loc (defScope s_law_book) "some" := by first | exact Or.inl (by decide +kernel) | exact Or.inr (by decide +kernel)
theorem v_law_book_among : Vis (defScope s_law_book) "among" := by first | exact Or.inl (by decide +kernel) | exact Or.inr (Or.inl (by decide +kernel))
theorem l_law_book_among : Loc (defScope s_law_book) "among" := by first | exact Or.inl (by decide +kernel) | exact Or.inr (by decide +kernel)
theorem v_law_book_count : Vis (defScope s_law_book) "count" := by first | exact Or.inl (by decide +kernel) | exact Or.inr (Or.inl (by decide +kernel))
theorem l_law_book_count : Loc (defScope s_law_book) "count" := by first | exact Or.inl (by decide +kernel) | exact Or.inr (by decide +kernel)
theorem l_law_book_k : Loc (defScope s_law_book) "k" := by first | exact Or.inl (by decide +kernel) | exact Or.inr (by decide +kernel)
theorem v_law_book_size : Vis (defScope s_law_book) "size" := by first | exact Or.inl (by decide +kernel) | exact Or.inr (Or.inl (by decide +kernel))
theorem l_law_book_size : Loc (defScope s_law_book) "size" := by first | exact Or.inl (by decide +kernel) | exact Or.inr (by decide +kernel)
theorem v_law_book_fields : Vis (defScope s_law_book) "fields" := by first | exact Or.inl (by decide +kernel) | exact Or.inr (Or.inl (by decide +kernel))
theorem l_law_book_fields : Loc (defScope s_law_book) "fields" := by first | exact Or.inl (by decide +kernel) | exact Or.inr (by decide +kernel)
theorem g_law_book_law_names : (defScope s_law_book).names.lookup ("_law_names" : Str) = some NameKind.globalImplicit := by decide +kernel
theorem g_law_book_range : (defScope s_law_book).names.lookup ("range" : Str) = some NameKind.globalImplicit := by decide +kernel
theorem g_law_book_law_next : (defScope s_law_book).names.lookup ("_law_next" : Str) = some NameKind.globalImplicit := by decide +kernel
theorem g_law_book_tuple : (defScope s_law_book).names.lookup ("tuple" : Str) = some NameKind.globalImplicit := by decide +kernel
theorem g_law_book_min : (defScope s_law_book).names.lookup ("min" : Str) = some NameKind.globalImplicit := by decide +kernel
theorem bt_min : bootBuiltins "min" = some (.builtin "min") := by decide +kernel
theorem g_law_book_int : (defScope s_law_book).names.lookup ("int" : Str) = some NameKind.globalImplicit := by decide +kernel
theorem bt_int : bootBuiltins "int" = some (.type "int") := by decide +kernel
theorem g_law_book_len : (defScope s_law_book).names.lookup ("len" : Str) = some NameKind.globalImplicit := by decide +kernel
theorem v_law_word_thing : Vis (defScope s_law_word) "thing" := by first | exact Or.inl (by decide +kernel) | exact Or.inr (Or.inl (by decide +kernel))
theorem g_law_word_len : (defScope s_law_word).names.lookup ("len" : Str) = some NameKind.globalImplicit := by decide +kernel
theorem g_law_word_isinstance : (defScope s_law_word).names.lookup ("isinstance" : Str) = some NameKind.globalImplicit := by decide +kernel
theorem g_law_word_str : (defScope s_law_word).names.lookup ("str" : Str) = some NameKind.globalImplicit := by decide +kernel
theorem db_least : (("least" : Str) == ("__debug__" : Str)) = false := by decide +kernel
theorem cd_least : (("least" : Str) == ("__classdict__" : Str)) = false := by decide +kernel
theorem db_law_word : (("_law_word" : Str) == ("__debug__" : Str)) = false := by decide +kernel
theorem cd_law_word : (("_law_word" : Str) == ("__classdict__" : Str)) = false := by decide +kernel
theorem v_law_row_thing : Vis (defScope s_law_row) "thing" := by first | exact Or.inl (by decide +kernel) | exact Or.inr (Or.inl (by decide +kernel))
theorem v_law_row_least : Vis (defScope s_law_row) "least" := by first | exact Or.inl (by decide +kernel) | exact Or.inr (Or.inl (by decide +kernel))
theorem v_law_row_most : Vis (defScope s_law_row) "most" := by first | exact Or.inl (by decide +kernel) | exact Or.inr (Or.inl (by decide +kernel))
theorem g_law_row_isinstance : (defScope s_law_row).names.lookup ("isinstance" : Str) = some NameKind.globalImplicit := by decide +kernel
theorem g_law_row_tuple : (defScope s_law_row).names.lookup ("tuple" : Str) = some NameKind.globalImplicit := by decide +kernel
theorem g_law_row_len : (defScope s_law_row).names.lookup ("len" : Str) = some NameKind.globalImplicit := by decide +kernel
theorem g_law_row_law_word : (defScope s_law_row).names.lookup ("_law_word" : Str) = some NameKind.globalImplicit := by decide +kernel
theorem db_row : (("row" : Str) == ("__debug__" : Str)) = false := by decide +kernel
theorem cd_row : (("row" : Str) == ("__classdict__" : Str)) = false := by decide +kernel
theorem db_law_row : (("_law_row" : Str) == ("__debug__" : Str)) = false := by decide +kernel
theorem cd_law_row : (("_law_row" : Str) == ("__classdict__" : Str)) = false := by decide +kernel
theorem v_law_due_thing : Vis (defScope s_law_due) "thing" := by first | exact Or.inl (by decide +kernel) | exact Or.inr (Or.inl (by decide +kernel))
theorem v_law_due_kinds : Vis (defScope s_law_due) "kinds" := by first | exact Or.inl (by decide +kernel) | exact Or.inr (Or.inl (by decide +kernel))
theorem l_law_due_kinds : Loc (defScope s_law_due) "kinds" := by first | exact Or.inl (by decide +kernel) | exact Or.inr (by decide +kernel)
theorem v_law_due_makes : Vis (defScope s_law_due) "makes" := by first | exact Or.inl (by decide +kernel) | exact Or.inr (Or.inl (by decide +kernel))
theorem l_law_due_makes : Loc (defScope s_law_due) "makes" := by first | exact Or.inl (by decide +kernel) | exact Or.inr (by decide +kernel)
theorem v_law_due_fields : Vis (defScope s_law_due) "fields" := by first | exact Or.inl (by decide +kernel) | exact Or.inr (Or.inl (by decide +kernel))
theorem l_law_due_fields : Loc (defScope s_law_due) "fields" := by first | exact Or.inl (by decide +kernel) | exact Or.inr (by decide +kernel)
theorem v_law_due_row : Vis (defScope s_law_due) "row" := by first | exact Or.inl (by decide +kernel) | exact Or.inr (Or.inl (by decide +kernel))
theorem l_law_due_row : Loc (defScope s_law_due) "row" := by first | exact Or.inl (by decide +kernel) | exact Or.inr (by decide +kernel)
theorem v_law_due_make : Vis (defScope s_law_due) "make" := by first | exact Or.inl (by decide +kernel) | exact Or.inr (Or.inl (by decide +kernel))
theorem l_law_due_make : Loc (defScope s_law_due) "make" := by first | exact Or.inl (by decide +kernel) | exact Or.inr (by decide +kernel)
theorem g_law_due_len : (defScope s_law_due).names.lookup ("len" : Str) = some NameKind.globalImplicit := by decide +kernel
theorem g_law_due_isinstance : (defScope s_law_due).names.lookup ("isinstance" : Str) = some NameKind.globalImplicit := by decide +kernel
theorem g_law_due_tuple : (defScope s_law_due).names.lookup ("tuple" : Str) = some NameKind.globalImplicit := by decide +kernel
theorem g_law_due_law_row : (defScope s_law_due).names.lookup ("_law_row" : Str) = some NameKind.globalImplicit := by decide +kernel
theorem db_rows : (("rows" : Str) == ("__debug__" : Str)) = false := by decide +kernel
theorem cd_rows : (("rows" : Str) == ("__classdict__" : Str)) = false := by decide +kernel
theorem db_list : (("list" : Str) == ("__debug__" : Str)) = false := by decide +kernel
theorem nn_list : ("list" : Str) ≠ "__name__" := by decide +kernel
theorem v_law_open_book : Vis (defScope s_law_open) "book" := by first | exact Or.inl (by decide +kernel) | exact Or.inr (Or.inl (by decide +kernel))
theorem v_law_open_rows : Vis (defScope s_law_open) "rows" := by first | exact Or.inl (by decide +kernel) | exact Or.inr (Or.inl (by decide +kernel))
theorem l_law_open_rows : Loc (defScope s_law_open) "rows" := by first | exact Or.inl (by decide +kernel) | exact Or.inr (by decide +kernel)
theorem v_law_open_kind : Vis (defScope s_law_open) "kind" := by first | exact Or.inl (by decide +kernel) | exact Or.inr (Or.inl (by decide +kernel))
theorem l_law_open_kind : Loc (defScope s_law_open) "kind" := by first | exact Or.inl (by decide +kernel) | exact Or.inr (by decide +kernel)
theorem v_law_open_makes : Vis (defScope s_law_open) "makes" := by first | exact Or.inl (by decide +kernel) | exact Or.inr (Or.inl (by decide +kernel))
theorem l_law_open_makes : Loc (defScope s_law_open) "makes" := by first | exact Or.inl (by decide +kernel) | exact Or.inr (by decide +kernel)
theorem bt_list : bootBuiltins "list" = some (.type "list") := by decide +kernel
theorem db_one : (("one" : Str) == ("__debug__" : Str)) = false := by decide +kernel
theorem cd_one : (("one" : Str) == ("__classdict__" : Str)) = false := by decide +kernel
theorem db_law_shut : (("_law_shut" : Str) == ("__debug__" : Str)) = false := by decide +kernel
theorem cd_law_shut : (("_law_shut" : Str) == ("__classdict__" : Str)) = false := by decide +kernel
theorem v_law_shut_thing : Vis (defScope s_law_shut) "thing" := by first | exact Or.inl (by decide +kernel) | exact Or.inr (Or.inl (by decide +kernel))
theorem g_law_shut_isinstance : (defScope s_law_shut).names.lookup ("isinstance" : Str) = some NameKind.globalImplicit := by decide +kernel
theorem g_law_shut_list : (defScope s_law_shut).names.lookup ("list" : Str) = some NameKind.globalImplicit := by decide +kernel
theorem g_law_shut_tuple : (defScope s_law_shut).names.lookup ("tuple" : Str) = some NameKind.globalImplicit := by decide +kernel
theorem v_law_odd_pool : Vis (defScope s_law_odd) "pool" := by first | exact Or.inl (by decide +kernel) | exact Or.inr (Or.inl (by decide +kernel))
theorem v_law_odd_rows : Vis (defScope s_law_odd) "rows" := by first | exact Or.inl (by decide +kernel) | exact Or.inr (Or.inl (by decide +kernel))
theorem v_law_odd_some : Vis (defScope s_law_odd) "some" := by first | exact Or.inl (by decide +kernel) | exact Or.inr (Or.inl (by decide +kernel))
theorem l_law_odd_some : Loc (defScope s_law_odd) "some" := by first | exact Or.inl (by decide +kernel) | exact Or.inr (by decide +kernel)
theorem v_law_odd_kind : Vis (defScope s_law_odd) "kind" := by first | exact Or.inl (by decide +kernel) | exact Or.inr (Or.inl (by decide +kernel))
theorem l_law_odd_kind : Loc (defScope s_law_odd) "kind" := by first | exact Or.inl (by decide +kernel) | exact Or.inr (by decide +kernel)
theorem v_law_odd_makes : Vis (defScope s_law_odd) "makes" := by first | exact Or.inl (by decide +kernel) | exact Or.inr (Or.inl (by decide +kernel))
theorem l_law_odd_makes : Loc (defScope s_law_odd) "makes" := by first | exact Or.inl (by decide +kernel) | exact Or.inr (by decide +kernel)
theorem g_law_odd_law_next : (defScope s_law_odd).names.lookup ("_law_next" : Str) = some NameKind.globalImplicit := by decide +kernel
theorem g_law_odd_len : (defScope s_law_odd).names.lookup ("len" : Str) = some NameKind.globalImplicit := by decide +kernel
theorem g_law_odd_law_any_name : (defScope s_law_odd).names.lookup ("_law_any_name" : Str) = some NameKind.globalImplicit := by decide +kernel
theorem v_law_fresh_pool : Vis (defScope s_law_fresh) "pool" := by first | exact Or.inl (by decide +kernel) | exact Or.inr (Or.inl (by decide +kernel))
theorem v_law_fresh_rows : Vis (defScope s_law_fresh) "rows" := by first | exact Or.inl (by decide +kernel) | exact Or.inr (Or.inl (by decide +kernel))
theorem v_law_fresh_taken : Vis (defScope s_law_fresh) "taken" := by first | exact Or.inl (by decide +kernel) | exact Or.inr (Or.inl (by decide +kernel))
theorem l_law_fresh_taken : Loc (defScope s_law_fresh) "taken" := by first | exact Or.inl (by decide +kernel) | exact Or.inr (by decide +kernel)
theorem v_law_fresh_number : Vis (defScope s_law_fresh) "number" := by first | exact Or.inl (by decide +kernel) | exact Or.inr (Or.inl (by decide +kernel))
theorem l_law_fresh_number : Loc (defScope s_law_fresh) "number" := by first | exact Or.inl (by decide +kernel) | exact Or.inr (by decide +kernel)
theorem l_law_fresh_turn : Loc (defScope s_law_fresh) "turn" := by first | exact Or.inl (by decide +kernel) | exact Or.inr (by decide +kernel)
theorem v_law_fresh_kind : Vis (defScope s_law_fresh) "kind" := by first | exact Or.inl (by decide +kernel) | exact Or.inr (Or.inl (by decide +kernel))
theorem l_law_fresh_kind : Loc (defScope s_law_fresh) "kind" := by first | exact Or.inl (by decide +kernel) | exact Or.inr (by decide +kernel)
theorem v_law_fresh_makes : Vis (defScope s_law_fresh) "makes" := by first | exact Or.inl (by decide +kernel) | exact Or.inr (Or.inl (by decide +kernel))
theorem l_law_fresh_makes : Loc (defScope s_law_fresh) "makes" := by first | exact Or.inl (by decide +kernel) | exact Or.inr (by decide +kernel)
theorem g_law_fresh_law_next : (defScope s_law_fresh).names.lookup ("_law_next" : Str) = some NameKind.globalImplicit := by decide +kernel
theorem g_law_fresh_range : (defScope s_law_fresh).names.lookup ("range" : Str) = some NameKind.globalImplicit := by decide +kernel
theorem g_law_fresh_law_spelt : (defScope s_law_fresh).names.lookup ("_law_spelt" : Str) = some NameKind.globalImplicit := by decide +kernel
theorem g_law_fresh_len : (defScope s_law_fresh).names.lookup ("len" : Str) = some NameKind.globalImplicit := by decide +kernel
theorem db_odd : (("odd" : Str) == ("__debug__" : Str)) = false := by decide +kernel
theorem cd_odd : (("odd" : Str) == ("__classdict__" : Str)) = false := by decide +kernel
theorem db_way : (("way" : Str) == ("__debug__" : Str)) = false := by decide +kernel
theorem cd_way : (("way" : Str) == ("__classdict__" : Str)) = false := by decide +kernel
theorem v_law_named_pool : Vis (defScope s_law_named) "pool" := by first | exact Or.inl (by decide +kernel) | exact Or.inr (Or.inl (by decide +kernel))
theorem v_law_named_row : Vis (defScope s_law_named) "row" := by first | exact Or.inl (by decide +kernel) | exact Or.inr (Or.inl (by decide +kernel))
theorem v_law_named_one : Vis (defScope s_law_named) "one" := by first | exact Or.inl (by decide +kernel) | exact Or.inr (Or.inl (by decide +kernel))
theorem v_law_named_odd : Vis (defScope s_law_named) "odd" := by first | exact Or.inl (by decide +kernel) | exact Or.inr (Or.inl (by decide +kernel))
theorem v_law_named_way : Vis (defScope s_law_named) "way" := by first | exact Or.inl (by decide +kernel) | exact Or.inr (Or.inl (by decide +kernel))
theorem g_law_named_law_next : (defScope s_law_named).names.lookup ("_law_next" : Str) = some NameKind.globalImplicit := by decide +kernel
theorem g_law_named_len : (defScope s_law_named).names.lookup ("len" : Str) = some NameKind.globalImplicit := by decide +kernel
theorem db_law_fresh : (("_law_fresh" : Str) == ("__debug__" : Str)) = false := by decide +kernel
theorem cd_law_fresh : (("_law_fresh" : Str) == ("__classdict__" : Str)) = false := by decide +kernel
theorem v_law_filled_pool : Vis (defScope s_law_filled) "pool" := by first | exact Or.inl (by decide +kernel) | exact Or.inr (Or.inl (by decide +kernel))
theorem v_law_filled_rows : Vis (defScope s_law_filled) "rows" := by first | exact Or.inl (by decide +kernel) | exact Or.inr (Or.inl (by decide +kernel))
theorem v_law_filled_row : Vis (defScope s_law_filled) "row" := by first | exact Or.inl (by decide +kernel) | exact Or.inr (Or.inl (by decide +kernel))
theorem v_law_filled_one : Vis (defScope s_law_filled) "one" := by first | exact Or.inl (by decide +kernel) | exact Or.inr (Or.inl (by decide +kernel))
theorem v_law_filled_way : Vis (defScope s_law_filled) "way" := by first | exact Or.inl (by decide +kernel) | exact Or.inr (Or.inl (by decide +kernel))
theorem v_law_filled_many : Vis (defScope s_law_filled) "many" := by first | exact Or.inl (by decide +kernel) | exact Or.inr (Or.inl (by decide +kernel))
theorem l_law_filled_many : Loc (defScope s_law_filled) "many" := by first | exact Or.inl (by decide +kernel) | exact Or.inr (by decide +kernel)
theorem l_law_filled_k : Loc (defScope s_law_filled) "k" := by first | exact Or.inl (by decide +kernel) | exact Or.inr (by decide +kernel)
theorem v_law_filled_name : Vis (defScope s_law_filled) "name" := by first | exact Or.inl (by decide +kernel) | exact Or.inr (Or.inl (by decide +kernel))
theorem l_law_filled_name : Loc (defScope s_law_filled) "name" := by first | exact Or.inl (by decide +kernel) | exact Or.inr (by decide +kernel)
theorem g_law_filled_law_next : (defScope s_law_filled).names.lookup ("_law_next" : Str) = some NameKind.globalImplicit := by decide +kernel
theorem g_law_filled_range : (defScope s_law_filled).names.lookup ("range" : Str) = some NameKind.globalImplicit := by decide +kernel
theorem g_law_filled_len : (defScope s_law_filled).names.lookup ("len" : Str) = some NameKind.globalImplicit := by decide +kernel
theorem g_law_filled_law_fresh : (defScope s_law_filled).names.lookup ("_law_fresh" : Str) = some NameKind.globalImplicit := by decide +kernel
theorem v_law_broken_rows : Vis (defScope s_law_broken) "rows" := by first | exact Or.inl (by decide +kernel) | exact Or.inr (Or.inl (by decide +kernel))
theorem v_law_broken_at : Vis (defScope s_law_broken) "at" := by first | exact Or.inl (by decide +kernel) | exact Or.inr (Or.inl (by decide +kernel))
theorem v_law_broken_one : Vis (defScope s_law_broken) "one" := by first | exact Or.inl (by decide +kernel) | exact Or.inr (Or.inl (by decide +kernel))
theorem v_law_broken_odd : Vis (defScope s_law_broken) "odd" := by first | exact Or.inl (by decide +kernel) | exact Or.inr (Or.inl (by decide +kernel))
theorem v_law_broken_way : Vis (defScope s_law_broken) "way" := by first | exact Or.inl (by decide +kernel) | exact Or.inr (Or.inl (by decide +kernel))
theorem db_law_odd : (("_law_odd" : Str) == ("__debug__" : Str)) = false := by decide +kernel
theorem cd_law_odd : (("_law_odd" : Str) == ("__classdict__" : Str)) = false := by decide +kernel
theorem db_law_named : (("_law_named" : Str) == ("__debug__" : Str)) = false := by decide +kernel
theorem cd_law_named : (("_law_named" : Str) == ("__classdict__" : Str)) = false := by decide +kernel
theorem db_law_filled : (("_law_filled" : Str) == ("__debug__" : Str)) = false := by decide +kernel
theorem cd_law_filled : (("_law_filled" : Str) == ("__classdict__" : Str)) = false := by decide +kernel
theorem db_law_broken : (("_law_broken" : Str) == ("__debug__" : Str)) = false := by decide +kernel
theorem cd_law_broken : (("_law_broken" : Str) == ("__classdict__" : Str)) = false := by decide +kernel
theorem v_law_turn_pool : Vis (defScope s_law_turn) "pool" := by first | exact Or.inl (by decide +kernel) | exact Or.inr (Or.inl (by decide +kernel))
theorem v_law_turn_rows : Vis (defScope s_law_turn) "rows" := by first | exact Or.inl (by decide +kernel) | exact Or.inr (Or.inl (by decide +kernel))
theorem v_law_turn_way : Vis (defScope s_law_turn) "way" := by first | exact Or.inl (by decide +kernel) | exact Or.inr (Or.inl (by decide +kernel))
theorem v_law_turn_odd : Vis (defScope s_law_turn) "odd" := by first | exact Or.inl (by decide +kernel) | exact Or.inr (Or.inl (by decide +kernel))
theorem l_law_turn_odd : Loc (defScope s_law_turn) "odd" := by first | exact Or.inl (by decide +kernel) | exact Or.inr (by decide +kernel)
theorem v_law_turn_at : Vis (defScope s_law_turn) "at" := by first | exact Or.inl (by decide +kernel) | exact Or.inr (Or.inl (by decide +kernel))
theorem l_law_turn_at : Loc (defScope s_law_turn) "at" := by first | exact Or.inl (by decide +kernel) | exact Or.inr (by decide +kernel)
theorem v_law_turn_one : Vis (defScope s_law_turn) "one" := by first | exact Or.inl (by decide +kernel) | exact Or.inr (Or.inl (by decide +kernel))
theorem l_law_turn_one : Loc (defScope s_law_turn) "one" := by first | exact Or.inl (by decide +kernel) | exact Or.inr (by decide +kernel)
theorem g_law_turn_law_odd : (defScope s_law_turn).names.lookup ("_law_odd" : Str) = some NameKind.globalImplicit := by decide +kernel
theorem g_law_turn_law_next : (defScope s_law_turn).names.lookup ("_law_next" : Str) = some NameKind.globalImplicit := by decide +kernel
theorem g_law_turn_len : (defScope s_law_turn).names.lookup ("len" : Str) = some NameKind.globalImplicit := by decide +kernel
theorem g_law_turn_law_named : (defScope s_law_turn).names.lookup ("_law_named" : Str) = some NameKind.globalImplicit := by decide +kernel
theorem g_law_turn_law_filled : (defScope s_law_turn).names.lookup ("_law_filled" : Str) = some NameKind.globalImplicit := by decide +kernel
theorem g_law_turn_law_broken : (defScope s_law_turn).names.lookup ("_law_broken" : Str) = some NameKind.globalImplicit := by decide +kernel
theorem db_script : (("script" : Str) == ("__debug__" : Str)) = false := by decide +kernel
theorem cd_script : (("script" : Str) == ("__classdict__" : Str)) = false := by decide +kernel
theorem db_law_book : (("_law_book" : Str) == ("__debug__" : Str)) = false := by decide +kernel
theorem cd_law_book : (("_law_book" : Str) == ("__classdict__" : Str)) = false := by decide +kernel
theorem db_law_pool : (("_law_pool" : Str) == ("__debug__" : Str)) = false := by decide +kernel
theorem cd_law_pool : (("_law_pool" : Str) == ("__classdict__" : Str)) = false := by decide +kernel
theorem db_law_open : (("_law_open" : Str) == ("__debug__" : Str)) = false := by decide +kernel
theorem cd_law_open : (("_law_open" : Str) == ("__classdict__" : Str)) = false := by decide +kernel
theorem db_law_turn : (("_law_turn" : Str) == ("__debug__" : Str)) = false := by decide +kernel
theorem cd_law_turn : (("_law_turn" : Str) == ("__classdict__" : Str)) = false := by decide +kernel
theorem db_is_book : (("is_book" : Str) == ("__debug__" : Str)) = false := by decide +kernel
theorem cd_is_book : (("is_book" : Str) == ("__classdict__" : Str)) = false := by decide +kernel
theorem db_bool : (("bool" : Str) == ("__debug__" : Str)) = false := by decide +kernel
theorem nn_bool : ("bool" : Str) ≠ "__name__" := by decide +kernel
theorem db_law_due : (("_law_due" : Str) == ("__debug__" : Str)) = false := by decide +kernel
theorem cd_law_due : (("_law_due" : Str) == ("__classdict__" : Str)) = false := by decide +kernel
theorem v_law_script : Vis (defScope s_law) "script" := by first | exact Or.inl (by decide +kernel) | exact Or.inr (Or.inl (by decide +kernel))
theorem v_law_first : Vis (defScope s_law) "first" := by first | exact Or.inl (by decide +kernel) | exact Or.inr (Or.inl (by decide +kernel))
theorem l_law_first : Loc (defScope s_law) "first" := by first | exact Or.inl (by decide +kernel) | exact Or.inr (by decide +kernel)
theorem v_law_book : Vis (defScope s_law) "book" := by first | exact Or.inl (by decide +kernel) | exact Or.inr (Or.inl (by decide +kernel))
theorem l_law_book : Loc (defScope s_law) "book" := by first | exact Or.inl (by decide +kernel) | exact Or.inr (by decide +kernel)
theorem v_law_cell : Vis (defScope s_law) "cell" := by first | exact Or.inl (by decide +kernel) | exact Or.inr (Or.inl (by decide +kernel))
theorem l_law_cell : Loc (defScope s_law) "cell" := by first | exact Or.inl (by decide +kernel) | exact Or.inr (by decide +kernel)
theorem v_law_pool : Vis (defScope s_law) "pool" := by first | exact Or.inl (by decide +kernel) | exact Or.inr (Or.inl (by decide +kernel))
theorem l_law_pool : Loc (defScope s_law) "pool" := by first | exact Or.inl (by decide +kernel) | exact Or.inr (by decide +kernel)
theorem v_law_rows : Vis (defScope s_law) "rows" := by first | exact Or.inl (by decide +kernel) | exact Or.inr (Or.inl (by decide +kernel))
theorem l_law_rows : Loc (defScope s_law) "rows" := by first | exact Or.inl (by decide +kernel) | exact Or.inr (by decide +kernel)
theorem v_law_thing : Vis (defScope s_law) "thing" := by first | exact Or.inl (by decide +kernel) | exact Or.inr (Or.inl (by decide +kernel))
theorem l_law_thing : Loc (defScope s_law) "thing" := by first | exact Or.inl (by decide +kernel) | exact Or.inr (by decide +kernel)
theorem v_law_found : Vis (defScope s_law) "found" := by first | exact Or.inl (by decide +kernel) | exact Or.inr (Or.inl (by decide +kernel))
theorem l_law_found : Loc (defScope s_law) "found" := by first | exact Or.inl (by decide +kernel) | exact Or.inr (by decide +kernel)
theorem g_law_law_book : (defScope s_law).names.lookup ("_law_book" : Str) = some NameKind.globalImplicit := by decide +kernel
theorem g_law_len : (defScope s_law).names.lookup ("len" : Str) = some NameKind.globalImplicit := by decide +kernel
theorem g_law_law_pool : (defScope s_law).names.lookup ("_law_pool" : Str) = some NameKind.globalImplicit := by decide +kernel
theorem g_law_law_open : (defScope s_law).names.lookup ("_law_open" : Str) = some NameKind.globalImplicit := by decide +kernel
theorem g_law_law_turn : (defScope s_law).names.lookup ("_law_turn" : Str) = some NameKind.globalImplicit := by decide +kernel
theorem g_law_law_shut : (defScope s_law).names.lookup ("_law_shut" : Str) = some NameKind.globalImplicit := by decide +kernel
theorem g_law_is_book : (defScope s_law).names.lookup ("is_book" : Str) = some NameKind.globalImplicit := by decide +kernel
theorem g_law_law_next : (defScope s_law).names.lookup ("_law_next" : Str) = some NameKind.globalImplicit := by decide +kernel
theorem g_law_isinstance : (defScope s_law).names.lookup ("isinstance" : Str) = some NameKind.globalImplicit := by decide +kernel
theorem g_law_bool : (defScope s_law).names.lookup ("bool" : Str) = some NameKind.globalImplicit := by decide +kernel
theorem bt_bool : bootBuiltins "bool" = some (.type "bool") := by decide +kernel
theorem g_law_law_due : (defScope s_law).names.lookup ("_law_due" : Str) = some NameKind.globalImplicit := by decide +kernel
structure Adr where
  f_is_word : Addr
  d_is_word : FuncData
  f_is_tuple_of : Addr
  d_is_tuple_of : FuncData
  f_has_make_form : Addr
  d_has_make_form : FuncData
  f_has_kind_form : Addr
  d_has_kind_form : FuncData
  f_are_unlike : Addr
  d_are_unlike : FuncData
  f_is_book : Addr
  d_is_book : FuncData
  f_law_pool : Addr
  d_law_pool : FuncData
  f_law_next : Addr
  d_law_next : FuncData
  f_law_spelt : Addr
  d_law_spelt : FuncData
  f_law_any_name : Addr
  d_law_any_name : FuncData
  f_law_names : Addr
  d_law_names : FuncData
  f_law_book : Addr
  d_law_book : FuncData
  f_law_word : Addr
  d_law_word : FuncData
  f_law_row : Addr
  d_law_row : FuncData
  f_law_due : Addr
  d_law_due : FuncData
  f_law_open : Addr
  d_law_open : FuncData
  f_law_shut : Addr
  d_law_shut : FuncData
  f_law_odd : Addr
  d_law_odd : FuncData
  f_law_fresh : Addr
  d_law_fresh : FuncData
  f_law_named : Addr
  d_law_named : FuncData
  f_law_filled : Addr
  d_law_filled : FuncData
  f_law_broken : Addr
  d_law_broken : FuncData
  f_law_turn : Addr
  d_law_turn : FuncData
  f_law : Addr
  d_law : FuncData
structure Txt (K : PySem.W.Frag) (mg : Str → Option Value) (t : Adr) : Prop where
  F_is_word : Fun K "is_word" "is_word" s_is_word t.f_is_word t.d_is_word
  m_is_word : mg "is_word" = some (.ref t.f_is_word)
  b_is_word : Binds K t.d_is_word ["thing"] []
  F_is_tuple_of : Fun K "is_tuple_of" "is_tuple_of" s_is_tuple_of t.f_is_tuple_of t.d_is_tuple_of
  m_is_tuple_of : mg "is_tuple_of" = some (.ref t.f_is_tuple_of)
  b_is_tuple_of : Binds K t.d_is_tuple_of ["thing", "fewest", "most"] []
  F_has_make_form : Fun K "has_make_form" "has_make_form" s_has_make_form t.f_has_make_form t.d_has_make_form
  m_has_make_form : mg "has_make_form" = some (.ref t.f_has_make_form)
  b_has_make_form : Binds K t.d_has_make_form ["thing"] []
  F_has_kind_form : Fun K "has_kind_form" "has_kind_form" s_has_kind_form t.f_has_kind_form t.d_has_kind_form
  m_has_kind_form : mg "has_kind_form" = some (.ref t.f_has_kind_form)
  b_has_kind_form : Binds K t.d_has_kind_form ["thing"] []
  F_are_unlike : Fun K "are_unlike" "are_unlike" s_are_unlike t.f_are_unlike t.d_are_unlike
  m_are_unlike : mg "are_unlike" = some (.ref t.f_are_unlike)
  b_are_unlike : Binds K t.d_are_unlike ["names"] []
  F_is_book : Fun K "is_book" "is_book" s_is_book t.f_is_book t.d_is_book
  m_is_book : mg "is_book" = some (.ref t.f_is_book)
  b_is_book : Binds K t.d_is_book ["thing"] []
  F_law_pool : Fun K "_law_pool" "_law_pool" s_law_pool t.f_law_pool t.d_law_pool
  m_law_pool : mg "_law_pool" = some (.ref t.f_law_pool)
  b_law_pool : Binds K t.d_law_pool ["cell"] []
  F_law_next : Fun K "_law_next" "_law_next" s_law_next t.f_law_next t.d_law_next
  m_law_next : mg "_law_next" = some (.ref t.f_law_next)
  b_law_next : Binds K t.d_law_next ["pool", "base"] []
  F_law_spelt : Fun K "_law_spelt" "_law_spelt" s_law_spelt t.f_law_spelt t.d_law_spelt
  m_law_spelt : mg "_law_spelt" = some (.ref t.f_law_spelt)
  b_law_spelt : Binds K t.d_law_spelt ["number", "size"] []
  F_law_any_name : Fun K "_law_any_name" "_law_any_name" s_law_any_name t.f_law_any_name t.d_law_any_name
  m_law_any_name : mg "_law_any_name" = some (.ref t.f_law_any_name)
  b_law_any_name : Binds K t.d_law_any_name ["pool", "taken"] []
  F_law_names : Fun K "_law_names" "_law_names" s_law_names t.f_law_names t.d_law_names
  m_law_names : mg "_law_names" = some (.ref t.f_law_names)
  b_law_names : Binds K t.d_law_names ["pool", "many", "taken"] []
  F_law_book : Fun K "_law_book" "_law_book" s_law_book t.f_law_book t.d_law_book
  m_law_book : mg "_law_book" = some (.ref t.f_law_book)
  b_law_book : Binds K t.d_law_book ["pool"] []
  F_law_word : Fun K "_law_word" "_law_word" s_law_word t.f_law_word t.d_law_word
  m_law_word : mg "_law_word" = some (.ref t.f_law_word)
  b_law_word : Binds K t.d_law_word ["thing"] []
  F_law_row : Fun K "_law_row" "_law_row" s_law_row t.f_law_row t.d_law_row
  m_law_row : mg "_law_row" = some (.ref t.f_law_row)
  b_law_row : Binds K t.d_law_row ["thing", "least", "most"] []
  F_law_due : Fun K "_law_due" "_law_due" s_law_due t.f_law_due t.d_law_due
  m_law_due : mg "_law_due" = some (.ref t.f_law_due)
  b_law_due : Binds K t.d_law_due ["thing"] []
  F_law_open : Fun K "_law_open" "_law_open" s_law_open t.f_law_open t.d_law_open
  m_law_open : mg "_law_open" = some (.ref t.f_law_open)
  b_law_open : Binds K t.d_law_open ["book"] []
  F_law_shut : Fun K "_law_shut" "_law_shut" s_law_shut t.f_law_shut t.d_law_shut
  m_law_shut : mg "_law_shut" = some (.ref t.f_law_shut)
  b_law_shut : Binds K t.d_law_shut ["thing"] []
  F_law_odd : Fun K "_law_odd" "_law_odd" s_law_odd t.f_law_odd t.d_law_odd
  m_law_odd : mg "_law_odd" = some (.ref t.f_law_odd)
  b_law_odd : Binds K t.d_law_odd ["pool", "rows"] []
  F_law_fresh : Fun K "_law_fresh" "_law_fresh" s_law_fresh t.f_law_fresh t.d_law_fresh
  m_law_fresh : mg "_law_fresh" = some (.ref t.f_law_fresh)
  b_law_fresh : Binds K t.d_law_fresh ["pool", "rows"] []
  F_law_named : Fun K "_law_named" "_law_named" s_law_named t.f_law_named t.d_law_named
  m_law_named : mg "_law_named" = some (.ref t.f_law_named)
  b_law_named : Binds K t.d_law_named ["pool", "row", "one", "odd", "way"] []
  F_law_filled : Fun K "_law_filled" "_law_filled" s_law_filled t.f_law_filled t.d_law_filled
  m_law_filled : mg "_law_filled" = some (.ref t.f_law_filled)
  b_law_filled : Binds K t.d_law_filled ["pool", "rows", "row", "one", "way"] []
  F_law_broken : Fun K "_law_broken" "_law_broken" s_law_broken t.f_law_broken t.d_law_broken
  m_law_broken : mg "_law_broken" = some (.ref t.f_law_broken)
  b_law_broken : Binds K t.d_law_broken ["rows", "at", "one", "odd", "way"] []
  F_law_turn : Fun K "_law_turn" "_law_turn" s_law_turn t.f_law_turn t.d_law_turn
  m_law_turn : mg "_law_turn" = some (.ref t.f_law_turn)
  b_law_turn : Binds K t.d_law_turn ["pool", "rows", "way"] []
  F_law : Fun K "law" "law" s_law t.f_law t.d_law
  m_law : mg "law" = some (.ref t.f_law)
  b_law : Binds K t.d_law ["script"] []
  z_isinstance : mg "isinstance" = none
  z_str : mg "str" = none
  z_all : mg "all" = none
  z_len : mg "len" = none
  z_tuple : mg "tuple" = none
  z_set : mg "set" = none
  z_max : mg "max" = none
  z_range : mg "range" = none
  z_min : mg "min" = none
  z_int : mg "int" = none
  z_list : mg "list" = none
  z_bool : mg "bool" = none
  c_LETTERS : ∃ u, mg "LETTERS" = some u ∧ RelV (V.str "abcdefghijklmnopqrstuvwxyz") u
  c_LONGEST_WORD : ∃ u, mg "LONGEST_WORD" = some u ∧ RelV (V.int 8) u
  c_NUM : ∃ u, mg "NUM" = some u ∧ RelV (V.str "num") u
  c_MOST_KINDS : ∃ u, mg "MOST_KINDS" = some u ∧ RelV (V.int 6) u
  c_MOST_MAKES : ∃ u, mg "MOST_MAKES" = some u ∧ RelV (V.int 6) u
  c_MOST_FIELDS : ∃ u, mg "MOST_FIELDS" = some u ∧ RelV (V.int 4) u
  bind_law : ∀ (s : Shared) (u : Value), BindsTo s t.d_law ⟨[u], []⟩ [("script", u)]
theorem txt_mk {K : PySem.W.Frag} {h : Heap} {mg : Str → Option Value} (X : K.In h) (G : h.Ns mainGlobals mg)
    {f_is_word : Addr} {od_is_word an_is_word : Option Addr} {sl_is_word : Array (Option Value)} {oc_is_word kV_is_word dc_is_word pm_is_word cd_is_word ct_is_word : Value}
    (a_is_word : PySem.W.nsIn K mainGlobals "is_word" = some (some (.ref f_is_word)))
    (l_is_word : K.lookup f_is_word = some ⟨oc_is_word, od_is_word, .func (PySem.W.fnOf "is_word" "is_word" (defArgs s_is_word) (defBody s_is_word) (defScope s_is_word) .none kV_is_word dc_is_word pm_is_word an_is_word cd_is_word ct_is_word), sl_is_word⟩) (k_is_word : PySem.W.codeIn K cd_is_word "is_word" = true) (e_is_word : PySem.W.keepIn K (.ref f_is_word) = true)
    {f_is_tuple_of : Addr} {od_is_tuple_of an_is_tuple_of : Option Addr} {sl_is_tuple_of : Array (Option Value)} {oc_is_tuple_of kV_is_tuple_of dc_is_tuple_of pm_is_tuple_of cd_is_tuple_of ct_is_tuple_of : Value}
    (a_is_tuple_of : PySem.W.nsIn K mainGlobals "is_tuple_of" = some (some (.ref f_is_tuple_of)))
    (l_is_tuple_of : K.lookup f_is_tuple_of = some ⟨oc_is_tuple_of, od_is_tuple_of, .func (PySem.W.fnOf "is_tuple_of" "is_tuple_of" (defArgs s_is_tuple_of) (defBody s_is_tuple_of) (defScope s_is_tuple_of) .none kV_is_tuple_of dc_is_tuple_of pm_is_tuple_of an_is_tuple_of cd_is_tuple_of ct_is_tuple_of), sl_is_tuple_of⟩) (k_is_tuple_of : PySem.W.codeIn K cd_is_tuple_of "is_tuple_of" = true) (e_is_tuple_of : PySem.W.keepIn K (.ref f_is_tuple_of) = true)
    {f_has_make_form : Addr} {od_has_make_form an_has_make_form : Option Addr} {sl_has_make_form : Array (Option Value)} {oc_has_make_form kV_has_make_form dc_has_make_form pm_has_make_form cd_has_make_form ct_has_make_form : Value}
    (a_has_make_form : PySem.W.nsIn K mainGlobals "has_make_form" = some (some (.ref f_has_make_form)))
    (l_has_make_form : K.lookup f_has_make_form = some ⟨oc_has_make_form, od_has_make_form, .func (PySem.W.fnOf "has_make_form" "has_make_form" (defArgs s_has_make_form) (defBody s_has_make_form) (defScope s_has_make_form) .none kV_has_make_form dc_has_make_form pm_has_make_form an_has_make_form cd_has_make_form ct_has_make_form), sl_has_make_form⟩) (k_has_make_form : PySem.W.codeIn K cd_has_make_form "has_make_form" = true) (e_has_make_form : PySem.W.keepIn K (.ref f_has_make_form) = true)
    {f_has_kind_form : Addr} {od_has_kind_form an_has_kind_form : Option Addr} {sl_has_kind_form : Array (Option Value)} {oc_has_kind_form kV_has_kind_form dc_has_kind_form pm_has_kind_form cd_has_kind_form ct_has_kind_form : Value}
    (a_has_kind_form : PySem.W.nsIn K mainGlobals "has_kind_form" = some (some (.ref f_has_kind_form)))
    (l_has_kind_form : K.lookup f_has_kind_form = some ⟨oc_has_kind_form, od_has_kind_form, .func (PySem.W.fnOf "has_kind_form" "has_kind_form" (defArgs s_has_kind_form) (defBody s_has_kind_form) (defScope s_has_kind_form) .none kV_has_kind_form dc_has_kind_form pm_has_kind_form an_has_kind_form cd_has_kind_form ct_has_kind_form), sl_has_kind_form⟩) (k_has_kind_form : PySem.W.codeIn K cd_has_kind_form "has_kind_form" = true) (e_has_kind_form : PySem.W.keepIn K (.ref f_has_kind_form) = true)
    {f_are_unlike : Addr} {od_are_unlike an_are_unlike : Option Addr} {sl_are_unlike : Array (Option Value)} {oc_are_unlike kV_are_unlike dc_are_unlike pm_are_unlike cd_are_unlike ct_are_unlike : Value}
    (a_are_unlike : PySem.W.nsIn K mainGlobals "are_unlike" = some (some (.ref f_are_unlike)))
    (l_are_unlike : K.lookup f_are_unlike = some ⟨oc_are_unlike, od_are_unlike, .func (PySem.W.fnOf "are_unlike" "are_unlike" (defArgs s_are_unlike) (defBody s_are_unlike) (defScope s_are_unlike) .none kV_are_unlike dc_are_unlike pm_are_unlike an_are_unlike cd_are_unlike ct_are_unlike), sl_are_unlike⟩) (k_are_unlike : PySem.W.codeIn K cd_are_unlike "are_unlike" = true) (e_are_unlike : PySem.W.keepIn K (.ref f_are_unlike) = true)
    {f_is_book : Addr} {od_is_book an_is_book : Option Addr} {sl_is_book : Array (Option Value)} {oc_is_book kV_is_book dc_is_book pm_is_book cd_is_book ct_is_book : Value}
    (a_is_book : PySem.W.nsIn K mainGlobals "is_book" = some (some (.ref f_is_book)))
    (l_is_book : K.lookup f_is_book = some ⟨oc_is_book, od_is_book, .func (PySem.W.fnOf "is_book" "is_book" (defArgs s_is_book) (defBody s_is_book) (defScope s_is_book) .none kV_is_book dc_is_book pm_is_book an_is_book cd_is_book ct_is_book), sl_is_book⟩) (k_is_book : PySem.W.codeIn K cd_is_book "is_book" = true) (e_is_book : PySem.W.keepIn K (.ref f_is_book) = true)
    {f_law_pool : Addr} {od_law_pool an_law_pool : Option Addr} {sl_law_pool : Array (Option Value)} {oc_law_pool kV_law_pool dc_law_pool pm_law_pool cd_law_pool ct_law_pool : Value}
    (a_law_pool : PySem.W.nsIn K mainGlobals "_law_pool" = some (some (.ref f_law_pool)))
    (l_law_pool : K.lookup f_law_pool = some ⟨oc_law_pool, od_law_pool, .func (PySem.W.fnOf "_law_pool" "_law_pool" (defArgs s_law_pool) (defBody s_law_pool) (defScope s_law_pool) .none kV_law_pool dc_law_pool pm_law_pool an_law_pool cd_law_pool ct_law_pool), sl_law_pool⟩) (k_law_pool : PySem.W.codeIn K cd_law_pool "_law_pool" = true) (e_law_pool : PySem.W.keepIn K (.ref f_law_pool) = true)
    {f_law_next : Addr} {od_law_next an_law_next : Option Addr} {sl_law_next : Array (Option Value)} {oc_law_next kV_law_next dc_law_next pm_law_next cd_law_next ct_law_next : Value}
    (a_law_next : PySem.W.nsIn K mainGlobals "_law_next" = some (some (.ref f_law_next)))
    (l_law_next : K.lookup f_law_next = some ⟨oc_law_next, od_law_next, .func (PySem.W.fnOf "_law_next" "_law_next" (defArgs s_law_next) (defBody s_law_next) (defScope s_law_next) .none kV_law_next dc_law_next pm_law_next an_law_next cd_law_next ct_law_next), sl_law_next⟩) (k_law_next : PySem.W.codeIn K cd_law_next "_law_next" = true) (e_law_next : PySem.W.keepIn K (.ref f_law_next) = true)
    {f_law_spelt : Addr} {od_law_spelt an_law_spelt : Option Addr} {sl_law_spelt : Array (Option Value)} {oc_law_spelt kV_law_spelt dc_law_spelt pm_law_spelt cd_law_spelt ct_law_spelt : Value}
    (a_law_spelt : PySem.W.nsIn K mainGlobals "_law_spelt" = some (some (.ref f_law_spelt)))
    (l_law_spelt : K.lookup f_law_spelt = some ⟨oc_law_spelt, od_law_spelt, .func (PySem.W.fnOf "_law_spelt" "_law_spelt" (defArgs s_law_spelt) (defBody s_law_spelt) (defScope s_law_spelt) .none kV_law_spelt dc_law_spelt pm_law_spelt an_law_spelt cd_law_spelt ct_law_spelt), sl_law_spelt⟩) (k_law_spelt : PySem.W.codeIn K cd_law_spelt "_law_spelt" = true) (e_law_spelt : PySem.W.keepIn K (.ref f_law_spelt) = true)
    {f_law_any_name : Addr} {od_law_any_name an_law_any_name : Option Addr} {sl_law_any_name : Array (Option Value)} {oc_law_any_name kV_law_any_name dc_law_any_name pm_law_any_name cd_law_any_name ct_law_any_name : Value}
    (a_law_any_name : PySem.W.nsIn K mainGlobals "_law_any_name" = some (some (.ref f_law_any_name)))
    (l_law_any_name : K.lookup f_law_any_name = some ⟨oc_law_any_name, od_law_any_name, .func (PySem.W.fnOf "_law_any_name" "_law_any_name" (defArgs s_law_any_name) (defBody s_law_any_name) (defScope s_law_any_name) .none kV_law_any_name dc_law_any_name pm_law_any_name an_law_any_name cd_law_any_name ct_law_any_name), sl_law_any_name⟩) (k_law_any_name : PySem.W.codeIn K cd_law_any_name "_law_any_name" = true) (e_law_any_name : PySem.W.keepIn K (.ref f_law_any_name) = true)
    {f_law_names : Addr} {od_law_names an_law_names : Option Addr} {sl_law_names : Array (Option Value)} {oc_law_names kV_law_names dc_law_names pm_law_names cd_law_names ct_law_names : Value}
    (a_law_names : PySem.W.nsIn K mainGlobals "_law_names" = some (some (.ref f_law_names)))
    (l_law_names : K.lookup f_law_names = some ⟨oc_law_names, od_law_names, .func (PySem.W.fnOf "_law_names" "_law_names" (defArgs s_law_names) (defBody s_law_names) (defScope s_law_names) .none kV_law_names dc_law_names pm_law_names an_law_names cd_law_names ct_law_names), sl_law_names⟩) (k_law_names : PySem.W.codeIn K cd_law_names "_law_names" = true) (e_law_names : PySem.W.keepIn K (.ref f_law_names) = true)
    {f_law_book : Addr} {od_law_book an_law_book : Option Addr} {sl_law_book : Array (Option Value)} {oc_law_book kV_law_book dc_law_book pm_law_book cd_law_book ct_law_book : Value}
    (a_law_book : PySem.W.nsIn K mainGlobals "_law_book" = some (some (.ref f_law_book)))
    (l_law_book : K.lookup f_law_book = some ⟨oc_law_book, od_law_book, .func (PySem.W.fnOf "_law_book" "_law_book" (defArgs s_law_book) (defBody s_law_book) (defScope s_law_book) .none kV_law_book dc_law_book pm_law_book an_law_book cd_law_book ct_law_book), sl_law_book⟩) (k_law_book : PySem.W.codeIn K cd_law_book "_law_book" = true) (e_law_book : PySem.W.keepIn K (.ref f_law_book) = true)
    {f_law_word : Addr} {od_law_word an_law_word : Option Addr} {sl_law_word : Array (Option Value)} {oc_law_word kV_law_word dc_law_word pm_law_word cd_law_word ct_law_word : Value}
    (a_law_word : PySem.W.nsIn K mainGlobals "_law_word" = some (some (.ref f_law_word)))
    (l_law_word : K.lookup f_law_word = some ⟨oc_law_word, od_law_word, .func (PySem.W.fnOf "_law_word" "_law_word" (defArgs s_law_word) (defBody s_law_word) (defScope s_law_word) .none kV_law_word dc_law_word pm_law_word an_law_word cd_law_word ct_law_word), sl_law_word⟩) (k_law_word : PySem.W.codeIn K cd_law_word "_law_word" = true) (e_law_word : PySem.W.keepIn K (.ref f_law_word) = true)
    {f_law_row : Addr} {od_law_row an_law_row : Option Addr} {sl_law_row : Array (Option Value)} {oc_law_row kV_law_row dc_law_row pm_law_row cd_law_row ct_law_row : Value}
    (a_law_row : PySem.W.nsIn K mainGlobals "_law_row" = some (some (.ref f_law_row)))
    (l_law_row : K.lookup f_law_row = some ⟨oc_law_row, od_law_row, .func (PySem.W.fnOf "_law_row" "_law_row" (defArgs s_law_row) (defBody s_law_row) (defScope s_law_row) .none kV_law_row dc_law_row pm_law_row an_law_row cd_law_row ct_law_row), sl_law_row⟩) (k_law_row : PySem.W.codeIn K cd_law_row "_law_row" = true) (e_law_row : PySem.W.keepIn K (.ref f_law_row) = true)
    {f_law_due : Addr} {od_law_due an_law_due : Option Addr} {sl_law_due : Array (Option Value)} {oc_law_due kV_law_due dc_law_due pm_law_due cd_law_due ct_law_due : Value}
    (a_law_due : PySem.W.nsIn K mainGlobals "_law_due" = some (some (.ref f_law_due)))
    (l_law_due : K.lookup f_law_due = some ⟨oc_law_due, od_law_due, .func (PySem.W.fnOf "_law_due" "_law_due" (defArgs s_law_due) (defBody s_law_due) (defScope s_law_due) .none kV_law_due dc_law_due pm_law_due an_law_due cd_law_due ct_law_due), sl_law_due⟩) (k_law_due : PySem.W.codeIn K cd_law_due "_law_due" = true) (e_law_due : PySem.W.keepIn K (.ref f_law_due) = true)
    {f_law_open : Addr} {od_law_open an_law_open : Option Addr} {sl_law_open : Array (Option Value)} {oc_law_open kV_law_open dc_law_open pm_law_open cd_law_open ct_law_open : Value}
    (a_law_open : PySem.W.nsIn K mainGlobals "_law_open" = some (some (.ref f_law_open)))
    (l_law_open : K.lookup f_law_open = some ⟨oc_law_open, od_law_open, .func (PySem.W.fnOf "_law_open" "_law_open" (defArgs s_law_open) (defBody s_law_open) (defScope s_law_open) .none kV_law_open dc_law_open pm_law_open an_law_open cd_law_open ct_law_open), sl_law_open⟩) (k_law_open : PySem.W.codeIn K cd_law_open "_law_open" = true) (e_law_open : PySem.W.keepIn K (.ref f_law_open) = true)
    {f_law_shut : Addr} {od_law_shut an_law_shut : Option Addr} {sl_law_shut : Array (Option Value)} {oc_law_shut kV_law_shut dc_law_shut pm_law_shut cd_law_shut ct_law_shut : Value}
    (a_law_shut : PySem.W.nsIn K mainGlobals "_law_shut" = some (some (.ref f_law_shut)))
    (l_law_shut : K.lookup f_law_shut = some ⟨oc_law_shut, od_law_shut, .func (PySem.W.fnOf "_law_shut" "_law_shut" (defArgs s_law_shut) (defBody s_law_shut) (defScope s_law_shut) .none kV_law_shut dc_law_shut pm_law_shut an_law_shut cd_law_shut ct_law_shut), sl_law_shut⟩) (k_law_shut : PySem.W.codeIn K cd_law_shut "_law_shut" = true) (e_law_shut : PySem.W.keepIn K (.ref f_law_shut) = true)
    {f_law_odd : Addr} {od_law_odd an_law_odd : Option Addr} {sl_law_odd : Array (Option Value)} {oc_law_odd kV_law_odd dc_law_odd pm_law_odd cd_law_odd ct_law_odd : Value}
    (a_law_odd : PySem.W.nsIn K mainGlobals "_law_odd" = some (some (.ref f_law_odd)))
    (l_law_odd : K.lookup f_law_odd = some ⟨oc_law_odd, od_law_odd, .func (PySem.W.fnOf "_law_odd" "_law_odd" (defArgs s_law_odd) (defBody s_law_odd) (defScope s_law_odd) .none kV_law_odd dc_law_odd pm_law_odd an_law_odd cd_law_odd ct_law_odd), sl_law_odd⟩) (k_law_odd : PySem.W.codeIn K cd_law_odd "_law_odd" = true) (e_law_odd : PySem.W.keepIn K (.ref f_law_odd) = true)
    {f_law_fresh : Addr} {od_law_fresh an_law_fresh : Option Addr} {sl_law_fresh : Array (Option Value)} {oc_law_fresh kV_law_fresh dc_law_fresh pm_law_fresh cd_law_fresh ct_law_fresh : Value}
    (a_law_fresh : PySem.W.nsIn K mainGlobals "_law_fresh" = some (some (.ref f_law_fresh)))
    (l_law_fresh : K.lookup f_law_fresh = some ⟨oc_law_fresh, od_law_fresh, .func (PySem.W.fnOf "_law_fresh" "_law_fresh" (defArgs s_law_fresh) (defBody s_law_fresh) (defScope s_law_fresh) .none kV_law_fresh dc_law_fresh pm_law_fresh an_law_fresh cd_law_fresh ct_law_fresh), sl_law_fresh⟩) (k_law_fresh : PySem.W.codeIn K cd_law_fresh "_law_fresh" = true) (e_law_fresh : PySem.W.keepIn K (.ref f_law_fresh) = true)
    {f_law_named : Addr} {od_law_named an_law_named : Option Addr} {sl_law_named : Array (Option Value)} {oc_law_named kV_law_named dc_law_named pm_law_named cd_law_named ct_law_named : Value}
    (a_law_named : PySem.W.nsIn K mainGlobals "_law_named" = some (some (.ref f_law_named)))
    (l_law_named : K.lookup f_law_named = some ⟨oc_law_named, od_law_named, .func (PySem.W.fnOf "_law_named" "_law_named" (defArgs s_law_named) (defBody s_law_named) (defScope s_law_named) .none kV_law_named dc_law_named pm_law_named an_law_named cd_law_named ct_law_named), sl_law_named⟩) (k_law_named : PySem.W.codeIn K cd_law_named "_law_named" = true) (e_law_named : PySem.W.keepIn K (.ref f_law_named) = true)
    {f_law_filled : Addr} {od_law_filled an_law_filled : Option Addr} {sl_law_filled : Array (Option Value)} {oc_law_filled kV_law_filled dc_law_filled pm_law_filled cd_law_filled ct_law_filled : Value}
    (a_law_filled : PySem.W.nsIn K mainGlobals "_law_filled" = some (some (.ref f_law_filled)))
    (l_law_filled : K.lookup f_law_filled = some ⟨oc_law_filled, od_law_filled, .func (PySem.W.fnOf "_law_filled" "_law_filled" (defArgs s_law_filled) (defBody s_law_filled) (defScope s_law_filled) .none kV_law_filled dc_law_filled pm_law_filled an_law_filled cd_law_filled ct_law_filled), sl_law_filled⟩) (k_law_filled : PySem.W.codeIn K cd_law_filled "_law_filled" = true) (e_law_filled : PySem.W.keepIn K (.ref f_law_filled) = true)
    {f_law_broken : Addr} {od_law_broken an_law_broken : Option Addr} {sl_law_broken : Array (Option Value)} {oc_law_broken kV_law_broken dc_law_broken pm_law_broken cd_law_broken ct_law_broken : Value}
    (a_law_broken : PySem.W.nsIn K mainGlobals "_law_broken" = some (some (.ref f_law_broken)))
    (l_law_broken : K.lookup f_law_broken = some ⟨oc_law_broken, od_law_broken, .func (PySem.W.fnOf "_law_broken" "_law_broken" (defArgs s_law_broken) (defBody s_law_broken) (defScope s_law_broken) .none kV_law_broken dc_law_broken pm_law_broken an_law_broken cd_law_broken ct_law_broken), sl_law_broken⟩) (k_law_broken : PySem.W.codeIn K cd_law_broken "_law_broken" = true) (e_law_broken : PySem.W.keepIn K (.ref f_law_broken) = true)
    {f_law_turn : Addr} {od_law_turn an_law_turn : Option Addr} {sl_law_turn : Array (Option Value)} {oc_law_turn kV_law_turn dc_law_turn pm_law_turn cd_law_turn ct_law_turn : Value}
    (a_law_turn : PySem.W.nsIn K mainGlobals "_law_turn" = some (some (.ref f_law_turn)))
    (l_law_turn : K.lookup f_law_turn = some ⟨oc_law_turn, od_law_turn, .func (PySem.W.fnOf "_law_turn" "_law_turn" (defArgs s_law_turn) (defBody s_law_turn) (defScope s_law_turn) .none kV_law_turn dc_law_turn pm_law_turn an_law_turn cd_law_turn ct_law_turn), sl_law_turn⟩) (k_law_turn : PySem.W.codeIn K cd_law_turn "_law_turn" = true) (e_law_turn : PySem.W.keepIn K (.ref f_law_turn) = true)
    {f_law : Addr} {od_law an_law : Option Addr} {sl_law : Array (Option Value)} {oc_law kV_law dc_law pm_law cd_law ct_law : Value}
    (a_law : PySem.W.nsIn K mainGlobals "law" = some (some (.ref f_law)))
    (l_law : K.lookup f_law = some ⟨oc_law, od_law, .func (PySem.W.fnOf "law" "law" (defArgs s_law) (defBody s_law) (defScope s_law) .none kV_law dc_law pm_law an_law cd_law ct_law), sl_law⟩) (k_law : PySem.W.codeIn K cd_law "law" = true) (e_law : PySem.W.keepIn K (.ref f_law) = true)
    (z_isinstance : PySem.W.nsIn K mainGlobals "isinstance" = some none)
    (z_str : PySem.W.nsIn K mainGlobals "str" = some none)
    (z_all : PySem.W.nsIn K mainGlobals "all" = some none)
    (z_len : PySem.W.nsIn K mainGlobals "len" = some none)
    (z_tuple : PySem.W.nsIn K mainGlobals "tuple" = some none)
    (z_set : PySem.W.nsIn K mainGlobals "set" = some none)
    (z_max : PySem.W.nsIn K mainGlobals "max" = some none)
    (z_range : PySem.W.nsIn K mainGlobals "range" = some none)
    (z_min : PySem.W.nsIn K mainGlobals "min" = some none)
    (z_int : PySem.W.nsIn K mainGlobals "int" = some none)
    (z_list : PySem.W.nsIn K mainGlobals "list" = some none)
    (z_bool : PySem.W.nsIn K mainGlobals "bool" = some none)
    {u_LETTERS : Tok} (c_LETTERS : PySem.W.nsIn K mainGlobals "LETTERS" = some (some (.str "abcdefghijklmnopqrstuvwxyz" u_LETTERS)))
    {u_LONGEST_WORD : Tok} (c_LONGEST_WORD : PySem.W.nsIn K mainGlobals "LONGEST_WORD" = some (some (.int 8 u_LONGEST_WORD)))
    {u_NUM : Tok} (c_NUM : PySem.W.nsIn K mainGlobals "NUM" = some (some (.str "num" u_NUM)))
    {u_MOST_KINDS : Tok} (c_MOST_KINDS : PySem.W.nsIn K mainGlobals "MOST_KINDS" = some (some (.int 6 u_MOST_KINDS)))
    {u_MOST_MAKES : Tok} (c_MOST_MAKES : PySem.W.nsIn K mainGlobals "MOST_MAKES" = some (some (.int 6 u_MOST_MAKES)))
    {u_MOST_FIELDS : Tok} (c_MOST_FIELDS : PySem.W.nsIn K mainGlobals "MOST_FIELDS" = some (some (.int 4 u_MOST_FIELDS))) :
    ∃ t, Txt K mg t := by
  refine ⟨⟨f_is_word, PySem.W.fnOf "is_word" "is_word" (defArgs s_is_word) (defBody s_is_word) (defScope s_is_word) .none kV_is_word dc_is_word pm_is_word an_is_word cd_is_word ct_is_word, f_is_tuple_of, PySem.W.fnOf "is_tuple_of" "is_tuple_of" (defArgs s_is_tuple_of) (defBody s_is_tuple_of) (defScope s_is_tuple_of) .none kV_is_tuple_of dc_is_tuple_of pm_is_tuple_of an_is_tuple_of cd_is_tuple_of ct_is_tuple_of, f_has_make_form, PySem.W.fnOf "has_make_form" "has_make_form" (defArgs s_has_make_form) (defBody s_has_make_form) (defScope s_has_make_form) .none kV_has_make_form dc_has_make_form pm_has_make_form an_has_make_form cd_has_make_form ct_has_make_form, f_has_kind_form, PySem.W.fnOf "has_kind_form" "has_kind_form" (defArgs s_has_kind_form) (defBody s_has_kind_form) (defScope s_has_kind_form) .none kV_has_kind_form dc_has_kind_form pm_has_kind_form an_has_kind_form cd_has_kind_form ct_has_kind_form, f_are_unlike, PySem.W.fnOf "are_unlike" "are_unlike" (defArgs s_are_unlike) (defBody s_are_unlike) (defScope s_are_unlike) .none kV_are_unlike dc_are_unlike pm_are_unlike an_are_unlike cd_are_unlike ct_are_unlike, f_is_book, PySem.W.fnOf "is_book" "is_book" (defArgs s_is_book) (defBody s_is_book) (defScope s_is_book) .none kV_is_book dc_is_book pm_is_book an_is_book cd_is_book ct_is_book, f_law_pool, PySem.W.fnOf "_law_pool" "_law_pool" (defArgs s_law_pool) (defBody s_law_pool) (defScope s_law_pool) .none kV_law_pool dc_law_pool pm_law_pool an_law_pool cd_law_pool ct_law_pool, f_law_next, PySem.W.fnOf "_law_next" "_law_next" (defArgs s_law_next) (defBody s_law_next) (defScope s_law_next) .none kV_law_next dc_law_next pm_law_next an_law_next cd_law_next ct_law_next, f_law_spelt, PySem.W.fnOf "_law_spelt" "_law_spelt" (defArgs s_law_spelt) (defBody s_law_spelt) (defScope s_law_spelt) .none kV_law_spelt dc_law_spelt pm_law_spelt an_law_spelt cd_law_spelt ct_law_spelt, f_law_any_name, PySem.W.fnOf "_law_any_name" "_law_any_name" (defArgs s_law_any_name) (defBody s_law_any_name) (defScope s_law_any_name) .none kV_law_any_name dc_law_any_name pm_law_any_name an_law_any_name cd_law_any_name ct_law_any_name, f_law_names, PySem.W.fnOf "_law_names" "_law_names" (defArgs s_law_names) (defBody s_law_names) (defScope s_law_names) .none kV_law_names dc_law_names pm_law_names an_law_names cd_law_names ct_law_names, f_law_book, PySem.W.fnOf "_law_book" "_law_book" (defArgs s_law_book) (defBody s_law_book) (defScope s_law_book) .none kV_law_book dc_law_book pm_law_book an_law_book cd_law_book ct_law_book, f_law_word, PySem.W.fnOf "_law_word" "_law_word" (defArgs s_law_word) (defBody s_law_word) (defScope s_law_word) .none kV_law_word dc_law_word pm_law_word an_law_word cd_law_word ct_law_word, f_law_row, PySem.W.fnOf "_law_row" "_law_row" (defArgs s_law_row) (defBody s_law_row) (defScope s_law_row) .none kV_law_row dc_law_row pm_law_row an_law_row cd_law_row ct_law_row, f_law_due, PySem.W.fnOf "_law_due" "_law_due" (defArgs s_law_due) (defBody s_law_due) (defScope s_law_due) .none kV_law_due dc_law_due pm_law_due an_law_due cd_law_due ct_law_due, f_law_open, PySem.W.fnOf "_law_open" "_law_open" (defArgs s_law_open) (defBody s_law_open) (defScope s_law_open) .none kV_law_open dc_law_open pm_law_open an_law_open cd_law_open ct_law_open, f_law_shut, PySem.W.fnOf "_law_shut" "_law_shut" (defArgs s_law_shut) (defBody s_law_shut) (defScope s_law_shut) .none kV_law_shut dc_law_shut pm_law_shut an_law_shut cd_law_shut ct_law_shut, f_law_odd, PySem.W.fnOf "_law_odd" "_law_odd" (defArgs s_law_odd) (defBody s_law_odd) (defScope s_law_odd) .none kV_law_odd dc_law_odd pm_law_odd an_law_odd cd_law_odd ct_law_odd, f_law_fresh, PySem.W.fnOf "_law_fresh" "_law_fresh" (defArgs s_law_fresh) (defBody s_law_fresh) (defScope s_law_fresh) .none kV_law_fresh dc_law_fresh pm_law_fresh an_law_fresh cd_law_fresh ct_law_fresh, f_law_named, PySem.W.fnOf "_law_named" "_law_named" (defArgs s_law_named) (defBody s_law_named) (defScope s_law_named) .none kV_law_named dc_law_named pm_law_named an_law_named cd_law_named ct_law_named, f_law_filled, PySem.W.fnOf "_law_filled" "_law_filled" (defArgs s_law_filled) (defBody s_law_filled) (defScope s_law_filled) .none kV_law_filled dc_law_filled pm_law_filled an_law_filled cd_law_filled ct_law_filled, f_law_broken, PySem.W.fnOf "_law_broken" "_law_broken" (defArgs s_law_broken) (defBody s_law_broken) (defScope s_law_broken) .none kV_law_broken dc_law_broken pm_law_broken an_law_broken cd_law_broken ct_law_broken, f_law_turn, PySem.W.fnOf "_law_turn" "_law_turn" (defArgs s_law_turn) (defBody s_law_turn) (defScope s_law_turn) .none kV_law_turn dc_law_turn pm_law_turn an_law_turn cd_law_turn ct_law_turn, f_law, PySem.W.fnOf "law" "law" (defArgs s_law) (defBody s_law) (defScope s_law) .none kV_law dc_law pm_law an_law cd_law ct_law⟩, ?_⟩
  have F_is_word := fun_mk (x := "is_word") (qual := "is_word") (st := s_is_word) l_is_word k_is_word e_is_word
  have b_is_word := F_is_word.binds (ps := ["thing"]) fun _ _ _ _ _ _ us hl => match us, hl with | [_], _ => rfl
  have F_is_tuple_of := fun_mk (x := "is_tuple_of") (qual := "is_tuple_of") (st := s_is_tuple_of) l_is_tuple_of k_is_tuple_of e_is_tuple_of
  have b_is_tuple_of := F_is_tuple_of.binds (ps := ["thing", "fewest", "most"]) fun _ _ _ _ _ _ us hl => match us, hl with | [_, _, _], _ => rfl
  have F_has_make_form := fun_mk (x := "has_make_form") (qual := "has_make_form") (st := s_has_make_form) l_has_make_form k_has_make_form e_has_make_form
  have b_has_make_form := F_has_make_form.binds (ps := ["thing"]) fun _ _ _ _ _ _ us hl => match us, hl with | [_], _ => rfl
  have F_has_kind_form := fun_mk (x := "has_kind_form") (qual := "has_kind_form") (st := s_has_kind_form) l_has_kind_form k_has_kind_form e_has_kind_form
  have b_has_kind_form := F_has_kind_form.binds (ps := ["thing"]) fun _ _ _ _ _ _ us hl => match us, hl with | [_], _ => rfl
  have F_are_unlike := fun_mk (x := "are_unlike") (qual := "are_unlike") (st := s_are_unlike) l_are_unlike k_are_unlike e_are_unlike
  have b_are_unlike := F_are_unlike.binds (ps := ["names"]) fun _ _ _ _ _ _ us hl => match us, hl with | [_], _ => rfl
  have F_is_book := fun_mk (x := "is_book") (qual := "is_book") (st := s_is_book) l_is_book k_is_book e_is_book
  have b_is_book := F_is_book.binds (ps := ["thing"]) fun _ _ _ _ _ _ us hl => match us, hl with | [_], _ => rfl
  have F_law_pool := fun_mk (x := "_law_pool") (qual := "_law_pool") (st := s_law_pool) l_law_pool k_law_pool e_law_pool
  have b_law_pool := F_law_pool.binds (ps := ["cell"]) fun _ _ _ _ _ _ us hl => match us, hl with | [_], _ => rfl
  have F_law_next := fun_mk (x := "_law_next") (qual := "_law_next") (st := s_law_next) l_law_next k_law_next e_law_next
  have b_law_next := F_law_next.binds (ps := ["pool", "base"]) fun _ _ _ _ _ _ us hl => match us, hl with | [_, _], _ => rfl
  have F_law_spelt := fun_mk (x := "_law_spelt") (qual := "_law_spelt") (st := s_law_spelt) l_law_spelt k_law_spelt e_law_spelt
  have b_law_spelt := F_law_spelt.binds (ps := ["number", "size"]) fun _ _ _ _ _ _ us hl => match us, hl with | [_, _], _ => rfl
  have F_law_any_name := fun_mk (x := "_law_any_name") (qual := "_law_any_name") (st := s_law_any_name) l_law_any_name k_law_any_name e_law_any_name
  have b_law_any_name := F_law_any_name.binds (ps := ["pool", "taken"]) fun _ _ _ _ _ _ us hl => match us, hl with | [_, _], _ => rfl
  have F_law_names := fun_mk (x := "_law_names") (qual := "_law_names") (st := s_law_names) l_law_names k_law_names e_law_names
  have b_law_names := F_law_names.binds (ps := ["pool", "many", "taken"]) fun _ _ _ _ _ _ us hl => match us, hl with | [_, _, _], _ => rfl
  have F_law_book := fun_mk (x := "_law_book") (qual := "_law_book") (st := s_law_book) l_law_book k_law_book e_law_book
  have b_law_book := F_law_book.binds (ps := ["pool"]) fun _ _ _ _ _ _ us hl => match us, hl with | [_], _ => rfl
  have F_law_word := fun_mk (x := "_law_word") (qual := "_law_word") (st := s_law_word) l_law_word k_law_word e_law_word
  have b_law_word := F_law_word.binds (ps := ["thing"]) fun _ _ _ _ _ _ us hl => match us, hl with | [_], _ => rfl
  have F_law_row := fun_mk (x := "_law_row") (qual := "_law_row") (st := s_law_row) l_law_row k_law_row e_law_row
  have b_law_row := F_law_row.binds (ps := ["thing", "least", "most"]) fun _ _ _ _ _ _ us hl => match us, hl with | [_, _, _], _ => rfl
  have F_law_due := fun_mk (x := "_law_due") (qual := "_law_due") (st := s_law_due) l_law_due k_law_due e_law_due
  have b_law_due := F_law_due.binds (ps := ["thing"]) fun _ _ _ _ _ _ us hl => match us, hl with | [_], _ => rfl
  have F_law_open := fun_mk (x := "_law_open") (qual := "_law_open") (st := s_law_open) l_law_open k_law_open e_law_open
  have b_law_open := F_law_open.binds (ps := ["book"]) fun _ _ _ _ _ _ us hl => match us, hl with | [_], _ => rfl
  have F_law_shut := fun_mk (x := "_law_shut") (qual := "_law_shut") (st := s_law_shut) l_law_shut k_law_shut e_law_shut
  have b_law_shut := F_law_shut.binds (ps := ["thing"]) fun _ _ _ _ _ _ us hl => match us, hl with | [_], _ => rfl
  have F_law_odd := fun_mk (x := "_law_odd") (qual := "_law_odd") (st := s_law_odd) l_law_odd k_law_odd e_law_odd
  have b_law_odd := F_law_odd.binds (ps := ["pool", "rows"]) fun _ _ _ _ _ _ us hl => match us, hl with | [_, _], _ => rfl
  have F_law_fresh := fun_mk (x := "_law_fresh") (qual := "_law_fresh") (st := s_law_fresh) l_law_fresh k_law_fresh e_law_fresh
  have b_law_fresh := F_law_fresh.binds (ps := ["pool", "rows"]) fun _ _ _ _ _ _ us hl => match us, hl with | [_, _], _ => rfl
  have F_law_named := fun_mk (x := "_law_named") (qual := "_law_named") (st := s_law_named) l_law_named k_law_named e_law_named
  have b_law_named := F_law_named.binds (ps := ["pool", "row", "one", "odd", "way"]) fun _ _ _ _ _ _ us hl => match us, hl with | [_, _, _, _, _], _ => rfl
  have F_law_filled := fun_mk (x := "_law_filled") (qual := "_law_filled") (st := s_law_filled) l_law_filled k_law_filled e_law_filled
  have b_law_filled := F_law_filled.binds (ps := ["pool", "rows", "row", "one", "way"]) fun _ _ _ _ _ _ us hl => match us, hl with | [_, _, _, _, _], _ => rfl
  have F_law_broken := fun_mk (x := "_law_broken") (qual := "_law_broken") (st := s_law_broken) l_law_broken k_law_broken e_law_broken
  have b_law_broken := F_law_broken.binds (ps := ["rows", "at", "one", "odd", "way"]) fun _ _ _ _ _ _ us hl => match us, hl with | [_, _, _, _, _], _ => rfl
  have F_law_turn := fun_mk (x := "_law_turn") (qual := "_law_turn") (st := s_law_turn) l_law_turn k_law_turn e_law_turn
  have b_law_turn := F_law_turn.binds (ps := ["pool", "rows", "way"]) fun _ _ _ _ _ _ us hl => match us, hl with | [_, _, _], _ => rfl
  have F_law := fun_mk (x := "law") (qual := "law") (st := s_law) l_law k_law e_law
  have b_law := F_law.binds (ps := ["script"]) fun _ _ _ _ _ _ us hl => match us, hl with | [_], _ => rfl
  exact ⟨F_is_word, PySem.W.mg_of X G a_is_word, b_is_word, F_is_tuple_of, PySem.W.mg_of X G a_is_tuple_of, b_is_tuple_of, F_has_make_form, PySem.W.mg_of X G a_has_make_form, b_has_make_form, F_has_kind_form, PySem.W.mg_of X G a_has_kind_form, b_has_kind_form, F_are_unlike, PySem.W.mg_of X G a_are_unlike, b_are_unlike, F_is_book, PySem.W.mg_of X G a_is_book, b_is_book, F_law_pool, PySem.W.mg_of X G a_law_pool, b_law_pool, F_law_next, PySem.W.mg_of X G a_law_next, b_law_next, F_law_spelt, PySem.W.mg_of X G a_law_spelt, b_law_spelt, F_law_any_name, PySem.W.mg_of X G a_law_any_name, b_law_any_name, F_law_names, PySem.W.mg_of X G a_law_names, b_law_names, F_law_book, PySem.W.mg_of X G a_law_book, b_law_book, F_law_word, PySem.W.mg_of X G a_law_word, b_law_word, F_law_row, PySem.W.mg_of X G a_law_row, b_law_row, F_law_due, PySem.W.mg_of X G a_law_due, b_law_due, F_law_open, PySem.W.mg_of X G a_law_open, b_law_open, F_law_shut, PySem.W.mg_of X G a_law_shut, b_law_shut, F_law_odd, PySem.W.mg_of X G a_law_odd, b_law_odd, F_law_fresh, PySem.W.mg_of X G a_law_fresh, b_law_fresh, F_law_named, PySem.W.mg_of X G a_law_named, b_law_named, F_law_filled, PySem.W.mg_of X G a_law_filled, b_law_filled, F_law_broken, PySem.W.mg_of X G a_law_broken, b_law_broken, F_law_turn, PySem.W.mg_of X G a_law_turn, b_law_turn, F_law, PySem.W.mg_of X G a_law, b_law, PySem.W.mg_none_of X G z_isinstance, PySem.W.mg_none_of X G z_str, PySem.W.mg_none_of X G z_all, PySem.W.mg_none_of X G z_len, PySem.W.mg_none_of X G z_tuple, PySem.W.mg_none_of X G z_set, PySem.W.mg_none_of X G z_max, PySem.W.mg_none_of X G z_range, PySem.W.mg_none_of X G z_min, PySem.W.mg_none_of X G z_int, PySem.W.mg_none_of X G z_list, PySem.W.mg_none_of X G z_bool, ⟨_, PySem.W.mg_of X G c_LETTERS, ⟨_, rfl⟩⟩, ⟨_, PySem.W.mg_of X G c_LONGEST_WORD, ⟨_, rfl⟩⟩, ⟨_, PySem.W.mg_of X G c_NUM, ⟨_, rfl⟩⟩, ⟨_, PySem.W.mg_of X G c_MOST_KINDS, ⟨_, rfl⟩⟩, ⟨_, PySem.W.mg_of X G c_MOST_MAKES, ⟨_, rfl⟩⟩, ⟨_, PySem.W.mg_of X G c_MOST_FIELDS, ⟨_, rfl⟩⟩, fun s u => .of_eq rfl⟩
end My

set_option Elab.async false
set_option linter.all false
set_option maxRecDepth 100000
set_option maxHeartbeats 4000000
namespace My
open PySem PySem.Spec PyProof.Rows L2 Bk
section
variable {P : Program} {w : World} {K : PySem.W.Frag} {mg : Str → Option Value} {base : Heap} {t : Adr}
abbrev names : List Str := ["is_word", "has_make_form", "has_kind_form", "is_book"]

def letters : Str := "abcdefghijklmnopqrstuvwxyz"
def low (c : Nat) : Bool := decide (c ∈ letters.cps.toList)
def wordS (z : Str) : Bool := decide (1 ≤ z.length) && decide (z.length ≤ 8) && z.cps.toList.all low
def wordT : TH → Bool
  | .str z => wordS z
  | _ => false
mutual
/-- its texts are of bounded length -/
def Sm : TH → Prop
  | .str z => z.length ≤ 1000
  | .tup ts => ts.length ≤ 1000 ∧ Sms ts
  | _ => True
def Sms : List TH → Prop
  | [] => True
  | t :: r => Sm t ∧ Sms r
end
theorem sms_mem : ∀ {ts : List TH}, Sms ts → ∀ t ∈ ts, Sm t
  | [], _, t, h => by cases h
  | x :: r, w, t, h => by
    rw [Sms] at w
    rcases List.mem_cons.mp h with e | e
    · rw [e]; exact w.1
    · exact sms_mem w.2 t e
theorem k_int_str : kitT "int" "str" = some false := by decide +kernel
theorem k_bool_str : kitT "bool" "str" = some false := by decide +kernel
theorem k_non_str : kitT "NoneType" "str" = some false := by decide +kernel
theorem k_tuple_str : kitT "tuple" "str" = some false := by decide +kernel
theorem k_str_str : kitT "str" "str" = some true := by decide +kernel
theorem k_int_tuple : kitT "int" "tuple" = some false := by decide +kernel
theorem k_bool_tuple : kitT "bool" "tuple" = some false := by decide +kernel
theorem k_non_tuple : kitT "NoneType" "tuple" = some false := by decide +kernel
theorem k_tuple_tuple : kitT "tuple" "tuple" = some true := by decide +kernel
theorem k_str_tuple : kitT "str" "tuple" = some false := by decide +kernel
def spWord (mg : Str → Option Value) (base : Heap) : Sp := fun vs H Q _ => ∃ v p, vs = [v] ∧ TabsOf names mg base H ∧ ThAt H v p ∧ Sm p ∧ Q (.bl (wordT p)) H
theorem ok_is_word (T : Txt K mg t) (kb : K.In base) (hB : ∃ bm ob, BMod base mainGlobals mg bm ob) : FnOk P w K mg base CX0 3 t.f_is_word t.d_is_word ["thing"] (spWord mg base) := by
  refine T.F_is_word.okC sc_is_word (fun vs H Q E h => ?_) (fun cdv A outer s H vs Q E hcd hr h => ?_)
  · obtain ⟨v, _, rfl, _⟩ := h
    rfl
  · obtain ⟨v, p, rfl, tb, th, hsm, q⟩ := h
    obtain ⟨c, P', ec, hC, hP⟩ := tb.at (n := "is_word") (by decide) T.m_is_word T.F_is_word kb
    rw [ec] at hcd
    subst hcd
    refine ⟨_, (pss_cons (ps_if (pt_not (pt_val (pe_callB call_isi g_is_word_isinstance T.z_isinstance bt_isinstance (pa_cons (pe_var (i := 0) rfl v_is_word_thing db_thing cd_thing) (pa_cons (pe_bltn (v := V.ty "str") g_is_word_str T.z_str bt_str rfl nn_str db_str) pa_nil)) nn_isinstance db_isinstance))) (pss_one (ps_ret pe_bl)) pss_nil)
  (pss_one (ps_ret (pe_and (pe_chain op_le op_le pe_int (pe_callB call_len_str g_is_word_len T.z_len bt_len (pa_cons (pe_var (i := 0) rfl v_is_word_thing db_thing cd_thing) pa_nil) nn_len db_len) (pe_glob g_is_word_LONGEST_WORD T.c_LONGEST_WORD.choose_spec.1 T.c_LONGEST_WORD.choose_spec.2 db_LONGEST_WORD)) (pe_one (pe_allg (own := [("sign", 1)]) hr g_is_word_all T.z_all rfl hC hB rfl sc_is_word.nd (pi_str (pe_var (i := 0) rfl v_is_word_thing db_thing cd_thing)) (blkOk_by (own := [("sign", 1)]) (N := ["thing", "sign"]) (sc := defScope s_is_word) (by decide +kernel)) (fun _ _ _ _ _ _ _ => (pg_name (i := 1) sc_is_word.nd rfl (by first | exact Or.inl rfl | exact Or.inr rfl))) (fun _ _ _ _ _ _ _ hr => pts_nil) (fun _ _ _ _ _ _ _ hr => (pe_cmpR op_in_sign (pv 1) (pe_glob rfl T.c_LETTERS.choose_spec.1 T.c_LETTERS.choose_spec.2 db_LETTERS) (by rfl))))))))), ?_⟩
    cases th with
    | num i => exact ⟨_, rfl, _, _, _, _, rfl, .int i, kit_ty k_int_str, _, rfl, iteT q⟩
    | bl b => exact ⟨_, rfl, _, _, _, _, rfl, .bl b, kit_ty k_bool_str, _, rfl, iteT q⟩
    | non => exact ⟨_, rfl, _, _, _, _, rfl, .non, kit_ty k_non_str, _, rfl, iteT q⟩
    | tup e _ => exact ⟨_, rfl, _, _, _, _, rfl, .tup e, kit_ty k_tuple_str, _, rfl, iteT q⟩
    | str z =>
      rw [Sm] at hsm
      refine ⟨_, rfl, _, _, _, _, rfl, .str z, kit_ty k_str_str, _, rfl, iteF ?_⟩
      refine ⟨_, rfl, z, rfl, Nat.le_of_lt (small1000 hsm), _, _, rfl, rfl, _, rfl, ?_⟩
      have q : Q (.bl (wordS z)) H := q
      unfold wordS at q
      refine ite2 (fun h1 => ?_) (fun h1 => ?_)
      · have h1' : 1 ≤ z.length := by have := of_decide_eq_true h1; omega
        refine ⟨_, _, rfl, rfl, _, rfl, ?_⟩
        refine ite2 (fun h2 => ?_) (fun h2 => ?_)
        · have h2' : z.length ≤ 8 := by have := of_decide_eq_true h2; omega
          rw [decide_eq_true h1', decide_eq_true h2'] at q
          refine ⟨_, rfl, z, rfl, hP, allg_pure (over_str z H) (fun v => match v with | .str y => y.cps.toList.all low | _ => false) (fun i x k hx hk => ?_) ?_⟩
          · rw [List.getElem?_map] at hx
            cases hc : z.cps.toList[i]? with
            | none => rw [hc] at hx; cases hx
            | some c =>
              rw [hc] at hx
              cases hx
              refine ⟨rfl, yes ⟨_, rfl, c, _, rfl, rfl, ?_⟩⟩
              have e : (low c && true) = low c := Bool.and_true _
              have hk : k (.bl (low c && true)) H := hk
              rw [e] at hk
              exact hk
          · have e : (z.cps.toList.map fun c => V.str ⟨#[c]⟩).all (fun v => match v with | .str y => y.cps.toList.all low | _ => false) = z.cps.toList.all low := by
              rw [List.all_map]
              refine congrArg (fun f => z.cps.toList.all f) (funext fun c => ?_)
              exact Bool.and_true _
            rw [e]
            simpa using q
        · have h2' : ¬ z.length ≤ 8 := fun z => h2 (decide_eq_true (by omega))
          rw [decide_eq_false h2'] at q
          simpa using q
      · have h1' : ¬ 1 ≤ z.length := fun z => h1 (decide_eq_true (by omega))
        rw [decide_eq_false h1'] at q
        exact ⟨_, rfl, iteF (by simpa using q)⟩
def tupT (lo hi : Nat) : TH → Bool
  | .tup ts => decide (lo ≤ ts.length) && decide (ts.length ≤ hi)
  | _ => false
def spTuple : Sp := fun vs H Q _ => ∃ (v : V) (p : TH) (lo hi : Nat), vs = [v, .int lo, .int hi] ∧ ThAt H v p ∧ Q (.bl (tupT lo hi p)) H
theorem ok_is_tuple_of (T : Txt K mg t) : FnOk P w K mg base CX0 1 t.f_is_tuple_of t.d_is_tuple_of ["thing", "fewest", "most"] spTuple := by
  refine T.F_is_tuple_of.ok sc_is_tuple_of (fun vs H Q E h => ?_) (fun cdv A outer s H vs Q E hr h => ?_)
  · obtain ⟨_, _, _, _, rfl, _⟩ := h
    rfl
  · obtain ⟨v, p, lo, hi, rfl, th, q⟩ := h
    refine ⟨_, (pss_one (ps_ret (pe_and (pe_callB call_isi g_is_tuple_of_isinstance T.z_isinstance bt_isinstance (pa_cons (pe_var (i := 0) rfl v_is_tuple_of_thing db_thing cd_thing) (pa_cons (pe_bltn (v := V.ty "tuple") g_is_tuple_of_tuple T.z_tuple bt_tuple rfl nn_tuple db_tuple) pa_nil)) nn_isinstance db_isinstance) (pe_one (pe_chain op_le op_le (pe_var (i := 1) rfl v_is_tuple_of_fewest db_fewest cd_fewest) (pe_callB call_len_seq g_is_tuple_of_len T.z_len bt_len (pa_cons (pe_var (i := 0) rfl v_is_tuple_of_thing db_thing cd_thing) pa_nil) nn_len db_len) (pe_var (i := 2) rfl v_is_tuple_of_most db_most cd_most)))))), ?_⟩
    cases th with
    | num i => exact ⟨_, rfl, _, _, _, _, rfl, .int i, kit_ty k_int_tuple, _, rfl, iteF q⟩
    | bl b => exact ⟨_, rfl, _, _, _, _, rfl, .bl b, kit_ty k_bool_tuple, _, rfl, iteF q⟩
    | non => exact ⟨_, rfl, _, _, _, _, rfl, .non, kit_ty k_non_tuple, _, rfl, iteF q⟩
    | str z => exact ⟨_, rfl, _, _, _, _, rfl, .str z, kit_ty k_str_tuple, _, rfl, iteF q⟩
    | @tup a us ts e hts =>
      have hl := hts.length
      have q : Q (.bl (decide (lo ≤ ts.length) && decide (ts.length ≤ hi))) H := q
      refine ⟨_, rfl, _, _, _, _, rfl, .tup e, kit_ty k_tuple_tuple, _, rfl, iteT ?_⟩
      refine ⟨_, rfl, _, rfl, a, us, rfl, .inr (SqT.of e), ?_⟩
      refine ⟨_, _, rfl, rfl, _, rfl, ite2 (fun h1 => ?_) (fun h1 => ?_)⟩
      · have h1' : lo ≤ ts.length := by have := of_decide_eq_true h1; omega
        rw [decide_eq_true h1'] at q
        refine ⟨_, rfl, _, _, rfl, rfl, ?_⟩
        have e2 : decide ((us.length : Int) ≤ (hi : Int)) = decide (ts.length ≤ hi) := by
          by_cases h : ts.length ≤ hi
          · rw [decide_eq_true h, decide_eq_true (by omega)]
          · rw [decide_eq_false h, decide_eq_false (by omega)]
        show Q (.bl (decide ((us.length : Int) ≤ (hi : Int)))) H
        rw [e2]
        simpa using q
      · have h1' : ¬ lo ≤ ts.length := fun z => h1 (decide_eq_true (by omega))
        rw [decide_eq_false h1'] at q
        simpa using q
def spUnlike : Sp := fun vs H Q _ => ∃ (L : Addr) (xs : List Str), vs = [.ref L] ∧ H L = some (.lst (xs.map V.str)) ∧ xs.length ≤ 1000 ∧ ∀ H', Same H H' → Q (.bl (decide xs.Nodup)) H'
theorem ok_are_unlike (T : Txt K mg t) : FnOk P w K mg base CX0 1 t.f_are_unlike t.d_are_unlike ["names"] spUnlike := by
  refine T.F_are_unlike.ok sc_are_unlike (fun vs H Q E h => ?_) (fun cdv A outer s H vs Q E hr h => ?_)
  · obtain ⟨_, _, rfl, _⟩ := h
    rfl
  · obtain ⟨L, xs, rfl, hL, hx, q⟩ := h
    refine ⟨_, (pss_one (ps_ret (pe_cmpR op_eq (pe_callB (cr_lenS (P := P) (w := w) rfl rfl) g_are_unlike_len T.z_len bt_len (pa_cons (pe_callTy (cr_setS (P := P) (w := w) (K := K) rfl rfl rfl rfl) g_are_unlike_set T.z_set bt_set (pa_cons (pe_var (i := 0) rfl v_are_unlike_names db_names cd_names) pa_nil) nn_set db_set) pa_nil) nn_len db_len) (pe_callB call_len_seq g_are_unlike_len T.z_len bt_len (pa_cons (pe_var (i := 0) rfl v_are_unlike_names db_names cd_names) pa_nil) nn_len db_len) (nomark _)))), ?_⟩
    refine ⟨_, rfl, L, xs, rfl, SqL.of hL, hx, fun D hD => ?_⟩
    have s1 : Same H (upd H D (DSet P w D xs)) := Same.new (Same.refl _) hD
    have e1 : upd H D (DSet P w D xs) D = some (DSet P w D xs) := upd_same
    generalize upd H D (DSet P w D xs) = H1 at s1 e1
    refine ⟨D, xs, rfl, e1, _, rfl, L, _, rfl, .inl (SqL.of (s1 _ _ hL)), rfl, ?_⟩
    have e2 : decide (V.int ((ded xs).length : Int) = V.int ((xs.map V.str).length : Int)) = decide xs.Nodup := by
      rw [List.length_map]
      by_cases h : xs.Nodup
      · rw [decide_eq_true h, decide_eq_true (by rw [(ded_nd xs).mpr h])]
      · rw [decide_eq_false h, decide_eq_false (fun z => h ((ded_nd xs).mp (by injection z with z; exact Int.ofNat.inj z)))]
    rw [e2]
    exact q H1 s1

end
end My

set_option Elab.async false
set_option linter.all false
set_option maxRecDepth 100000
set_option maxHeartbeats 4000000
namespace My
open PySem PySem.Spec PyProof.Rows L2 Bk
section
variable {P : Program} {w : World} {K : PySem.W.Frag} {mg : Str → Option Value} {base : Heap} {t : Adr}
mutual
theorem th_det {H : Hp} : ∀ {v : V} {p : TH} {p' : TH}, ThAt H v p → ThAt H v p' → p = p'
  | _, _, _, .num z, h => by cases h; rfl
  | _, _, _, .bl z, h => by cases h; rfl
  | _, _, _, .non, h => by cases h; rfl
  | _, _, _, .str z, h => by cases h; rfl
  | _, _, _, .tup e t, h => by
    cases h with
    | tup e' t' =>
      rw [e] at e'
      cases e'
      rw [ths_det t t']
theorem ths_det {H : Hp} : ∀ {vs : List V} {ps ps' : List TH}, ThsAt H vs ps → ThsAt H vs ps' → ps = ps'
  | _, _, _, .nil, h => by cases h; rfl
  | _, _, _, .cons a t, h => by
    cases h with
    | cons a' t' => rw [th_det a a', ths_det t t']
end
open Classical in
noncomputable def onV (H : Hp) (f : TH → Bool) (v : V) : Bool := decide (∃ p, ThAt H v p ∧ f p = true)
open Classical in
theorem onV_at {H : Hp} {f : TH → Bool} {v : V} {p : TH} (h : ThAt H v p) : onV H f v = f p := by
  unfold onV
  cases hf : f p with
  | true => exact decide_eq_true ⟨p, h, hf⟩
  | false =>
    refine decide_eq_false ?_
    rintro ⟨p', h', e⟩
    rw [th_det h' h, hf] at e
    cases e
theorem onV_all {H : Hp} {f : TH → Bool} : ∀ {vs : List V} {ts : List TH}, ThsAt H vs ts → vs.all (onV H f) = ts.all f
  | _, _, .nil => rfl
  | _, _, .cons h t => by rw [List.all_cons, List.all_cons, onV_at h, onV_all t]
def makeT : TH → Bool
  | .tup [a, .tup fs] => wordT a && (decide (fs.length ≤ 4) && fs.all wordT)
  | _ => false
def kindT : TH → Bool
  | .tup [a, .tup ms] => wordT a && (decide (1 ≤ ms.length) && decide (ms.length ≤ 6) && ms.all makeT)
  | _ => false
def spForm (mg : Str → Option Value) (base : Heap) (f : TH → Bool) : Sp := fun vs H Q _ => ∃ v p, vs = [v] ∧ TabsOf names mg base H ∧ ThAt H v p ∧ Sm p ∧ Q (.bl (f p)) H
theorem ok_has_make_form (T : Txt K mg t) (kb : K.In base) (hB : ∃ bm ob, BMod base mainGlobals mg bm ob) : FnOk P w K mg base CX0 5 t.f_has_make_form t.d_has_make_form ["thing"] (spForm mg base makeT) := by
  have G_is_word : FnOk P w K mg base CX0 3 t.f_is_word t.d_is_word ["thing"] (spWord mg base) := ok_is_word T kb hB
  have G_is_tuple_of : FnOk P w K mg base CX0 1 t.f_is_tuple_of t.d_is_tuple_of ["thing", "fewest", "most"] spTuple := ok_is_tuple_of T
  refine T.F_has_make_form.okC sc_has_make_form (fun vs H Q E h => ?_) (fun cdv A outer s H vs Q E hcd hr h => ?_)
  · obtain ⟨_, _, rfl, _⟩ := h
    rfl
  · obtain ⟨v, p, rfl, tb, th, hsm, q⟩ := h
    obtain ⟨c, P', ec, hC, hP⟩ := tb.at (n := "has_make_form") (by decide) T.m_has_make_form T.F_has_make_form kb
    rw [ec] at hcd
    subst hcd
    refine ⟨_, (pss_cons (ps_if (PW.pt (pw_or (pt_not (pt_val (pe_call G_is_tuple_of (hr.mono (by omega)) g_has_make_form_is_tuple_of T.m_is_tuple_of T.F_is_tuple_of.kp T.b_is_tuple_of .nil pass0 (pa_cons (pe_var (i := 0) rfl v_has_make_form_thing db_thing cd_thing) (pa_cons pe_int (pa_cons pe_int pa_nil))) db_is_tuple_of))) (pw_or1 (pt_not (pt_val (pe_call G_is_word (hr.mono (by omega)) g_has_make_form_is_word T.m_is_word T.F_is_word.kp T.b_is_word .nil pass0 (pa_cons (pe_ix ix_tup (pe_var (i := 0) rfl v_has_make_form_thing db_thing cd_thing) pe_int (fun _ _ => rfl)) pa_nil) db_is_word)))))) (pss_one (ps_ret pe_bl)) pss_nil)
  (pss_one (ps_ret (pe_and (pe_call G_is_tuple_of (hr.mono (by omega)) g_has_make_form_is_tuple_of T.m_is_tuple_of T.F_is_tuple_of.kp T.b_is_tuple_of .nil pass0 (pa_cons (pe_ix ix_tup (pe_var (i := 0) rfl v_has_make_form_thing db_thing cd_thing) pe_int (fun _ _ => rfl)) (pa_cons pe_int (pa_cons (pe_glob g_has_make_form_MOST_FIELDS T.c_MOST_FIELDS.choose_spec.1 T.c_MOST_FIELDS.choose_spec.2 db_MOST_FIELDS) pa_nil))) db_is_tuple_of) (pe_one (pe_allg (own := [("field", 1)]) hr g_has_make_form_all T.z_all rfl hC hB rfl sc_has_make_form.nd (pi_tup (pe_ix ix_tup (pe_var (i := 0) rfl v_has_make_form_thing db_thing cd_thing) pe_int (fun _ _ => rfl))) (blkOk_by (own := [("field", 1)]) (N := ["thing", "field"]) (sc := defScope s_has_make_form) (by decide +kernel)) (fun _ _ _ _ _ _ _ => (pg_name (i := 1) sc_has_make_form.nd rfl (by first | exact Or.inl rfl | exact Or.inr rfl))) (fun _ _ _ _ _ _ _ hr => pts_nil) (fun _ _ _ _ _ _ _ hr => (pe_call G_is_word (hr.mono (by omega)) rfl T.m_is_word T.F_is_word.kp T.b_is_word .nil pass0 (pa_cons (pv 1) pa_nil) db_is_word)))))))), ?_⟩
    refine ⟨_, rfl, v, p, 2, 2, rfl, th, ?_⟩
    cases hT : tupT 2 2 p with
    | false =>
      have hm : makeT p = false := by
        cases p with
        | tup ts =>
          match ts, hT with
          | [], _ => rfl
          | [_], _ => rfl
          | [_, _], h => simp [tupT] at h
          | _ :: b :: _ :: _, _ => cases b <;> rfl
        | _ => rfl
      rw [hm] at q
      exact ⟨_, rfl, iteT (iteT q)⟩
    | true =>
      cases th with
      | num i => simp [tupT] at hT
      | bl b => simp [tupT] at hT
      | non => simp [tupT] at hT
      | str z => simp [tupT] at hT
      | @tup a us ts e hts =>
        have hl := hts.length
        match us, ts, hts, hl with
        | [xv, yv], [x, y], .cons hx (.cons hy .nil), _ =>
          rw [Sm] at hsm
          have sx := sms_mem hsm.2 x (by simp)
          have sy := sms_mem hsm.2 y (by simp)
          refine ⟨_, rfl, iteF ?_⟩
          refine ⟨_, rfl, a, _, 0, xv, rfl, rfl, SqT.of e, rfl, xv, x, rfl, tb, hx, sx, ?_⟩
          cases hw : wordT x with
          | false =>
            have hm : makeT (.tup [x, y]) = false := by
              cases y with
              | tup fs => show (wordT x && _) = false; rw [hw]; rfl
              | _ => rfl
            rw [hm] at q
            exact ⟨_, rfl, iteT q⟩
          | true =>
            refine ⟨_, rfl, iteF ?_⟩
            refine ⟨_, rfl, a, _, 1, yv, rfl, rfl, SqT.of e, rfl, yv, y, 0, 4, rfl, hy, ?_⟩
            cases hy with
            | num i => exact ⟨_, rfl, iteF q⟩
            | bl b => exact ⟨_, rfl, iteF q⟩
            | non => exact ⟨_, rfl, iteF q⟩
            | str z => exact ⟨_, rfl, iteF q⟩
            | @tup fa fus fs fe hfs =>
              have q : Q (.bl (wordT x && (decide (fs.length ≤ 4) && fs.all wordT))) H := q
              rw [hw, Bool.true_and] at q
              refine ⟨_, rfl, ?_⟩
              show if (decide (0 ≤ fs.length) && decide (fs.length ≤ 4)) = true then _ else _
              rw [decide_eq_true (Nat.zero_le fs.length), Bool.true_and]
              refine ite2 (fun h4 => ?_) (fun h4 => ?_)
              · rw [h4, Bool.true_and] at q
                rw [Sm] at sy
                refine ⟨_, rfl, a, _, 1, .ref fa, rfl, rfl, SqT.of e, rfl, fa, rfl, ⟨_, SqT.of fe⟩, hP, allg_pure (over_tup (SqT.of fe)) (onV H wordT) (fun i x k hx hk => ?_) ?_⟩
                · obtain ⟨p, hp, hxp⟩ := hfs.get hx
                  rw [onV_at hxp] at hk
                  exact ⟨rfl, yes ⟨_, rfl, x, p, rfl, tb, hxp, sms_mem sy.2 p (List.mem_of_getElem? hp), hk⟩⟩
                · rw [onV_all hfs]; exact q
              · rw [Bool.eq_false_iff.mpr h4] at q
                exact q
        | [], ts, h, _ => cases h; simp [tupT] at hT
        | [_], ts, h, _ => cases h with | cons _ h => cases h; simp [tupT] at hT
        | _ :: _ :: _ :: _, ts, h, _ => cases h with | cons _ h => cases h with | cons _ h => cases h with | cons _ h => simp [tupT] at hT
theorem ok_has_kind_form (T : Txt K mg t) (kb : K.In base) (hB : ∃ bm ob, BMod base mainGlobals mg bm ob) : FnOk P w K mg base CX0 7 t.f_has_kind_form t.d_has_kind_form ["thing"] (spForm mg base kindT) := by
  have G_is_word : FnOk P w K mg base CX0 3 t.f_is_word t.d_is_word ["thing"] (spWord mg base) := ok_is_word T kb hB
  have G_is_tuple_of : FnOk P w K mg base CX0 1 t.f_is_tuple_of t.d_is_tuple_of ["thing", "fewest", "most"] spTuple := ok_is_tuple_of T
  have G_has_make_form : FnOk P w K mg base CX0 5 t.f_has_make_form t.d_has_make_form ["thing"] (spForm mg base makeT) := ok_has_make_form T kb hB
  refine T.F_has_kind_form.okC sc_has_kind_form (fun vs H Q E h => ?_) (fun cdv A outer s H vs Q E hcd hr h => ?_)
  · obtain ⟨_, _, rfl, _⟩ := h
    rfl
  · obtain ⟨v, p, rfl, tb, th, hsm, q⟩ := h
    obtain ⟨c, P', ec, hC, hP⟩ := tb.at (n := "has_kind_form") (by decide) T.m_has_kind_form T.F_has_kind_form kb
    rw [ec] at hcd
    subst hcd
    refine ⟨_, (pss_cons (ps_if (PW.pt (pw_or (pt_not (pt_val (pe_call G_is_tuple_of (hr.mono (by omega)) g_has_kind_form_is_tuple_of T.m_is_tuple_of T.F_is_tuple_of.kp T.b_is_tuple_of .nil pass0 (pa_cons (pe_var (i := 0) rfl v_has_kind_form_thing db_thing cd_thing) (pa_cons pe_int (pa_cons pe_int pa_nil))) db_is_tuple_of))) (pw_or1 (pt_not (pt_val (pe_call G_is_word (hr.mono (by omega)) g_has_kind_form_is_word T.m_is_word T.F_is_word.kp T.b_is_word .nil pass0 (pa_cons (pe_ix ix_tup (pe_var (i := 0) rfl v_has_kind_form_thing db_thing cd_thing) pe_int (fun _ _ => rfl)) pa_nil) db_is_word)))))) (pss_one (ps_ret pe_bl)) pss_nil)
  (pss_one (ps_ret (pe_and (pe_call G_is_tuple_of (hr.mono (by omega)) g_has_kind_form_is_tuple_of T.m_is_tuple_of T.F_is_tuple_of.kp T.b_is_tuple_of .nil pass0 (pa_cons (pe_ix ix_tup (pe_var (i := 0) rfl v_has_kind_form_thing db_thing cd_thing) pe_int (fun _ _ => rfl)) (pa_cons pe_int (pa_cons (pe_glob g_has_kind_form_MOST_MAKES T.c_MOST_MAKES.choose_spec.1 T.c_MOST_MAKES.choose_spec.2 db_MOST_MAKES) pa_nil))) db_is_tuple_of) (pe_one (pe_allg (own := [("make", 1)]) hr g_has_kind_form_all T.z_all rfl hC hB rfl sc_has_kind_form.nd (pi_tup (pe_ix ix_tup (pe_var (i := 0) rfl v_has_kind_form_thing db_thing cd_thing) pe_int (fun _ _ => rfl))) (blkOk_by (own := [("make", 1)]) (N := ["thing", "make"]) (sc := defScope s_has_kind_form) (by decide +kernel)) (fun _ _ _ _ _ _ _ => (pg_name (i := 1) sc_has_kind_form.nd rfl (by first | exact Or.inl rfl | exact Or.inr rfl))) (fun _ _ _ _ _ _ _ hr => pts_nil) (fun _ _ _ _ _ _ _ hr => (pe_call G_has_make_form (hr.mono (by omega)) rfl T.m_has_make_form T.F_has_make_form.kp T.b_has_make_form .nil pass0 (pa_cons (pv 1) pa_nil) db_has_make_form)))))))), ?_⟩
    refine ⟨_, rfl, v, p, 2, 2, rfl, th, ?_⟩
    cases hT : tupT 2 2 p with
    | false =>
      have hm : kindT p = false := by
        cases p with
        | tup ts =>
          match ts, hT with
          | [], _ => rfl
          | [_], _ => rfl
          | [_, _], h => simp [tupT] at h
          | _ :: b :: _ :: _, _ => cases b <;> rfl
        | _ => rfl
      rw [hm] at q
      exact ⟨_, rfl, iteT (iteT q)⟩
    | true =>
      cases th with
      | num i => simp [tupT] at hT
      | bl b => simp [tupT] at hT
      | non => simp [tupT] at hT
      | str z => simp [tupT] at hT
      | @tup a us ts e hts =>
        have hl := hts.length
        match us, ts, hts, hl with
        | [xv, yv], [x, y], .cons hx (.cons hy .nil), _ =>
          rw [Sm] at hsm
          have sx := sms_mem hsm.2 x (by simp)
          have sy := sms_mem hsm.2 y (by simp)
          refine ⟨_, rfl, iteF ?_⟩
          refine ⟨_, rfl, a, _, 0, xv, rfl, rfl, SqT.of e, rfl, xv, x, rfl, tb, hx, sx, ?_⟩
          cases hw : wordT x with
          | false =>
            have hm : kindT (.tup [x, y]) = false := by
              cases y with
              | tup fs => show (wordT x && _) = false; rw [hw]; rfl
              | _ => rfl
            rw [hm] at q
            exact ⟨_, rfl, iteT q⟩
          | true =>
            refine ⟨_, rfl, iteF ?_⟩
            refine ⟨_, rfl, a, _, 1, yv, rfl, rfl, SqT.of e, rfl, yv, y, 1, 6, rfl, hy, ?_⟩
            cases hy with
            | num i => exact ⟨_, rfl, iteF q⟩
            | bl b => exact ⟨_, rfl, iteF q⟩
            | non => exact ⟨_, rfl, iteF q⟩
            | str z => exact ⟨_, rfl, iteF q⟩
            | @tup fa fus fs fe hfs =>
              have q : Q (.bl (wordT x && (decide (1 ≤ fs.length) && decide (fs.length ≤ 6) && fs.all makeT))) H := q
              rw [hw, Bool.true_and] at q
              refine ⟨_, rfl, ?_⟩
              show if (decide (1 ≤ fs.length) && decide (fs.length ≤ 6)) = true then _ else _
              refine ite2 (fun h4 => ?_) (fun h4 => ?_)
              · rw [h4, Bool.true_and] at q
                rw [Sm] at sy
                refine ⟨_, rfl, a, _, 1, .ref fa, rfl, rfl, SqT.of e, rfl, fa, rfl, ⟨_, SqT.of fe⟩, hP, allg_pure (over_tup (SqT.of fe)) (onV H makeT) (fun i x k hx hk => ?_) ?_⟩
                · obtain ⟨p, hp, hxp⟩ := hfs.get hx
                  rw [onV_at hxp] at hk
                  exact ⟨rfl, yes ⟨_, rfl, x, p, rfl, tb, hxp, sms_mem sy.2 p (List.mem_of_getElem? hp), hk⟩⟩
                · rw [onV_all hfs]; exact q
              · rw [Bool.eq_false_iff.mpr h4] at q
                exact q
        | [], ts, h, _ => cases h; simp [tupT] at hT
        | [_], ts, h, _ => cases h with | cons _ h => cases h; simp [tupT] at hT
        | _ :: _ :: _ :: _, ts, h, _ => cases h with | cons _ h => cases h with | cons _ h => cases h with | cons _ h => simp [tupT] at hT

end
end My

set_option Elab.async false
set_option linter.all false
set_option maxRecDepth 100000
set_option maxHeartbeats 4000000
namespace My
open PySem PySem.Spec PyProof.Rows L2 Bk
section
variable {P : Program} {w : World} {K : PySem.W.Frag} {mg : Str → Option Value} {base : Heap} {t : Adr}
def mTH (m : MakeD) : TH := .tup [.str m.1, .tup (m.2.map TH.str)]
def kTH (k : KindD) : TH := .tup [.str k.1, .tup (k.2.map mTH)]
def bTH (B : BookD) : TH := .tup (B.map kTH)
def MkOkB (m : MakeD) : Prop := wordS m.1 = true ∧ m.2.length ≤ 4 ∧ ∀ f ∈ m.2, wordS f = true
def KdOkB (k : KindD) : Prop := wordS k.1 = true ∧ 1 ≤ k.2.length ∧ k.2.length ≤ 6 ∧ ∀ m ∈ k.2, MkOkB m
structure OkB (B : BookD) : Prop where
  lo : 1 ≤ B.length
  hi : B.length ≤ 6
  ks : ∀ k ∈ B, KdOkB k
  nk : (("num" : Str) :: kindsD B).Nodup
  nm : ((makesD B).map (·.1)).Nodup
  fs : ∀ m ∈ makesD B, ∀ f ∈ m.2, f ∈ ("num" : Str) :: kindsD B
open Classical in
noncomputable def bookT (p : TH) : Bool := decide (∃ B, p = bTH B ∧ OkB B)
theorem str_inj : ∀ {xs ys : List Str}, xs.map TH.str = ys.map TH.str → xs = ys
  | [], [], _ => rfl
  | [], _ :: _, h => by cases h
  | _ :: _, [], h => by cases h
  | x :: xs, y :: ys, h => by
    rw [List.map_cons, List.map_cons] at h
    injection h with h1 h2
    injection h1 with h1
    rw [h1, str_inj h2]
theorem mTH_inj {m m' : MakeD} (h : mTH m = mTH m') : m = m' := by
  unfold mTH at h
  injection h with h
  injection h with h1 h2
  injection h1 with h1
  injection h2 with h2 _
  injection h2 with h2
  exact Prod.ext h1 (str_inj h2)
theorem map_inj' {α β : Type} {f : α → β} (hf : ∀ a b, f a = f b → a = b) : ∀ {xs ys : List α}, xs.map f = ys.map f → xs = ys
  | [], [], _ => rfl
  | [], _ :: _, h => by cases h
  | _ :: _, [], h => by cases h
  | x :: xs, y :: ys, h => by
    rw [List.map_cons, List.map_cons] at h
    injection h with h1 h2
    rw [hf x y h1, map_inj' hf h2]
theorem kTH_inj {k k' : KindD} (h : kTH k = kTH k') : k = k' := by
  unfold kTH at h
  injection h with h
  injection h with h1 h2
  injection h1 with h1
  injection h2 with h2 _
  injection h2 with h2
  exact Prod.ext h1 (map_inj' (fun a b e => mTH_inj e) h2)
theorem bTH_inj {B B' : BookD} (h : bTH B = bTH B') : B = B' := by
  unfold bTH at h
  injection h with h
  exact map_inj' (fun a b e => kTH_inj e) h
theorem words_of {H : Hp} : ∀ {vs : List V} {ts : List TH}, ThsAt H vs ts → ts.all wordT = true → ∃ fs : List Str, ts = fs.map TH.str ∧ vs = fs.map V.str ∧ ∀ f ∈ fs, wordS f = true
  | _, _, .nil, _ => ⟨[], rfl, rfl, fun _ h => (nomatch h)⟩
  | _, _, .cons h t, w => by
    rw [List.all_cons, Bool.and_eq_true] at w
    obtain ⟨fs, e1, e2, hw⟩ := words_of t w.2
    cases h with
    | str z => exact ⟨z :: fs, by rw [e1]; rfl, by rw [e2]; rfl, fun f hf => by
        rcases List.mem_cons.mp hf with e | e
        · rw [e]; exact w.1
        · exact hw f e⟩
    | num z => cases w.1
    | bl z => cases w.1
    | non => cases w.1
    | tup _ _ => cases w.1
theorem make_of {H : Hp} {v : V} {p : TH} (h : ThAt H v p) (hm : makeT p = true) : ∃ m : MakeD, p = mTH m ∧ MakeAt H v m ∧ MkOkB m := by
  cases h with
  | num z => cases hm
  | bl z => cases hm
  | non => cases hm
  | str z => cases hm
  | @tup a us ts e hts =>
    match us, ts, hts, hm with
    | _, _, .cons hx (.cons (@ThAt.tup _ b vs fs e2 hfs) .nil), hm =>
      have hm : (wordT _ && (decide (fs.length ≤ 4) && fs.all wordT)) = true := hm
      rw [Bool.and_eq_true, Bool.and_eq_true] at hm
      obtain ⟨xs, e3, e4, hw⟩ := words_of hfs hm.2.2
      subst e3 e4
      cases hx with
      | str z => exact ⟨(z, xs), rfl, ⟨a, b, rfl, e, e2⟩, hm.1, by have := of_decide_eq_true hm.2.1; rw [List.length_map] at this; exact this, hw⟩
      | num z => cases hm.1
      | bl z => cases hm.1
      | non => cases hm.1
      | tup _ _ => cases hm.1
    | _, _, .cons _ (.cons (.num _) .nil), hm => cases hm
    | _, _, .cons _ (.cons (.bl _) .nil), hm => cases hm
    | _, _, .cons _ (.cons .non .nil), hm => cases hm
    | _, _, .cons _ (.cons (.str _) .nil), hm => cases hm
    | _, _, .nil, hm => cases hm
    | _, _, .cons _ .nil, hm => cases hm
    | _, _, .cons _ (.cons hb (.cons _ _)), hm => cases hb <;> cases hm
theorem makes_of {H : Hp} : ∀ {vs : List V} {ts : List TH}, ThsAt H vs ts → ts.all makeT = true → ∃ ms : List MakeD, ts = ms.map mTH ∧ Pd (MakeAt H) vs ms ∧ ∀ m ∈ ms, MkOkB m
  | _, _, .nil, _ => ⟨[], rfl, .nil, fun _ h => (nomatch h)⟩
  | _, _, .cons h t, w => by
    rw [List.all_cons, Bool.and_eq_true] at w
    obtain ⟨ms, e1, e2, hw⟩ := makes_of t w.2
    obtain ⟨m, e3, h3, h4⟩ := make_of h w.1
    exact ⟨m :: ms, by rw [e1, e3]; rfl, .cons h3 e2, fun x hx => by
      rcases List.mem_cons.mp hx with e | e
      · rw [e]; exact h4
      · exact hw x e⟩
theorem kind_of' {H : Hp} {v : V} {p : TH} (h : ThAt H v p) (hm : kindT p = true) : ∃ k : KindD, p = kTH k ∧ KindAt H v k ∧ KdOkB k := by
  cases h with
  | num z => cases hm
  | bl z => cases hm
  | non => cases hm
  | str z => cases hm
  | @tup a us ts e hts =>
    match us, ts, hts, hm with
    | _, _, .cons hx (.cons (@ThAt.tup _ b vs fs e2 hfs) .nil), hm =>
      have hm : (wordT _ && (decide (1 ≤ fs.length) && decide (fs.length ≤ 6) && fs.all makeT)) = true := hm
      rw [Bool.and_eq_true, Bool.and_eq_true, Bool.and_eq_true] at hm
      obtain ⟨ms, e3, h4, hw⟩ := makes_of hfs hm.2.2
      subst e3
      have hl1 : 1 ≤ ms.length := by have := of_decide_eq_true hm.2.1.1; rw [List.length_map] at this; exact this
      have hl2 : ms.length ≤ 6 := by have := of_decide_eq_true hm.2.1.2; rw [List.length_map] at this; exact this
      cases hx with
      | str z => exact ⟨(z, ms), rfl, ⟨a, b, vs, rfl, e, e2, h4⟩, hm.1, hl1, hl2, hw⟩
      | num z => cases hm.1
      | bl z => cases hm.1
      | non => cases hm.1
      | tup _ _ => cases hm.1
    | _, _, .cons _ (.cons (.num _) .nil), hm => cases hm
    | _, _, .cons _ (.cons (.bl _) .nil), hm => cases hm
    | _, _, .cons _ (.cons .non .nil), hm => cases hm
    | _, _, .cons _ (.cons (.str _) .nil), hm => cases hm
    | _, _, .nil, hm => cases hm
    | _, _, .cons _ .nil, hm => cases hm
    | _, _, .cons _ (.cons hb (.cons _ _)), hm => cases hb <;> cases hm
theorem kinds_of {H : Hp} : ∀ {vs : List V} {ts : List TH}, ThsAt H vs ts → ts.all kindT = true → ∃ B : BookD, ts = B.map kTH ∧ Pd (KindAt H) vs B ∧ ∀ k ∈ B, KdOkB k
  | _, _, .nil, _ => ⟨[], rfl, .nil, fun _ h => (nomatch h)⟩
  | _, _, .cons h t, w => by
    rw [List.all_cons, Bool.and_eq_true] at w
    obtain ⟨ms, e1, e2, hw⟩ := kinds_of t w.2
    obtain ⟨m, e3, h3, h4⟩ := kind_of' h w.1
    exact ⟨m :: ms, by rw [e1, e3]; rfl, .cons h3 e2, fun x hx => by
      rcases List.mem_cons.mp hx with e | e
      · rw [e]; exact h4
      · exact hw x e⟩
theorem make_T {m : MakeD} (h : MkOkB m) : makeT (mTH m) = true := by
  show (wordS m.1 && (decide ((m.2.map TH.str).length ≤ 4) && (m.2.map TH.str).all wordT)) = true
  rw [h.1, List.length_map, decide_eq_true h.2.1, List.all_map]
  simp only [Bool.true_and]
  exact List.all_eq_true.mpr fun f hf => h.2.2 f hf
theorem kind_T {k : KindD} (h : KdOkB k) : kindT (kTH k) = true := by
  show (wordS k.1 && (decide (1 ≤ (k.2.map mTH).length) && decide ((k.2.map mTH).length ≤ 6) && (k.2.map mTH).all makeT)) = true
  rw [h.1, List.length_map, decide_eq_true h.2.1, decide_eq_true h.2.2.1, List.all_map]
  simp only [Bool.true_and]
  exact List.all_eq_true.mpr fun m hm => make_T (h.2.2.2 m hm)
open Classical in
theorem book_no {p : TH} (h : ∀ B, p = bTH B → ¬ OkB B) : bookT p = false := by
  unfold bookT
  exact decide_eq_false (by rintro ⟨B, e, ok⟩; exact h B e ok)
open Classical in
theorem book_yes {B : BookD} (ok : OkB B) : bookT (bTH B) = true := by
  unfold bookT
  exact decide_eq_true ⟨B, rfl, ok⟩
theorem allgB {J : It} {H : Hp} {xs : List V} {g : TG} {tt : TT} {te : TE} {vs : List Nat} {σ : L2.St} {kk : Bool → Hp → Prop} (hJ : J.Over H xs) (q : V → Bool)
    (h : ∀ (i : Nat) (x : V) (k : VK), xs[i]? = some x → k (.bl (q x)) H → g x (wipe σ vs) H fun σ2 H2 => wipe σ2 vs = wipe σ vs ∧ tt σ2 H2 fun b H3 => if b = true then te σ2 H3 k else False) (hQ : kk (xs.all q) H) :
    ∃ W : Nat → Nat → Hp → Prop, (∃ m, W 0 m H) ∧ ∀ i m H, W i m H →
      (J.stop i H ∧ (∃ c, V.bl true = .bl c ∧ kk c H)) ∨ (J.go i H ∧ ∃ Nx : Hp → Prop, (∀ H', Nx H' → ∃ m', m' < m ∧ W (i + 1) m' H') ∧ ∀ x H', J.yld i H x H' → g x (wipe σ vs) H' fun σ2 H2 => wipe σ2 vs = wipe σ vs ∧ tt σ2 H2 fun b H3 =>
        if b = true then te σ2 H3 fun y H4 => ∃ c, y = .bl c ∧ if c = true then ∃ m', m' < m ∧ W (i + 1) m' H4 else (∃ c, V.bl false = .bl c ∧ kk c H4) else Nx H3) :=
  allg_pure (Q := fun x H1 => ∃ c, x = V.bl c ∧ kk c H1) hJ q h ⟨_, rfl, hQ⟩
def spIsBook (mg : Str → Option Value) (base : Heap) : Sp := fun vs H Q _ => ∃ v p, vs = [v] ∧ TabsOf names mg base H ∧ ThAt H v p ∧ Sm p ∧ ∀ H', Same H H' → Q (.bl (bookT p)) H'
theorem ok_is_book (T : Txt K mg t) (kb : K.In base) (hB : ∃ bm ob, BMod base mainGlobals mg bm ob) : FnOk P w K mg base CX0 9 t.f_is_book t.d_is_book ["thing"] (spIsBook mg base) := by
  have G_is_tuple_of : FnOk P w K mg base CX0 1 t.f_is_tuple_of t.d_is_tuple_of ["thing", "fewest", "most"] spTuple := ok_is_tuple_of T
  have G_has_kind_form : FnOk P w K mg base CX0 7 t.f_has_kind_form t.d_has_kind_form ["thing"] (spForm mg base kindT) := ok_has_kind_form T kb hB
  have G_are_unlike : FnOk P w K mg base CX0 1 t.f_are_unlike t.d_are_unlike ["names"] spUnlike := ok_are_unlike T
  refine T.F_is_book.okC sc_is_book (fun vs H Q E h => ?_) (fun cdv A outer s H vs Q E hcd hr h => ?_)
  · obtain ⟨_, _, rfl, _⟩ := h
    rfl
  · obtain ⟨v, p, rfl, tb, th, hsm, q⟩ := h
    obtain ⟨c, P', ec, hC, hP⟩ := tb.at (n := "is_book") (by decide) T.m_is_book T.F_is_book kb
    rw [ec] at hcd
    subst hcd
    refine ⟨_, (pss_cons (ps_if (PW.pt (pw_or (pt_not (pt_val (pe_call G_is_tuple_of (hr.mono (by omega)) g_is_book_is_tuple_of T.m_is_tuple_of T.F_is_tuple_of.kp T.b_is_tuple_of .nil pass0 (pa_cons (pe_var (i := 0) rfl v_is_book_thing db_thing cd_thing) (pa_cons pe_int (pa_cons (pe_glob g_is_book_MOST_KINDS T.c_MOST_KINDS.choose_spec.1 T.c_MOST_KINDS.choose_spec.2 db_MOST_KINDS) pa_nil))) db_is_tuple_of))) (pw_or1 (pt_not (pt_val (pe_allg (own := [("kind", 9)]) hr g_is_book_all T.z_all rfl hC hB rfl sc_is_book.nd (pi_tup (pe_var (i := 0) rfl v_is_book_thing db_thing cd_thing)) (blkOk_by (own := [("kind", 9)]) (N := ["thing", "kinds", "makes_met", "fields_met", "make", "field", "name", "makes", "fields", "kind"]) (sc := defScope s_is_book) (by decide +kernel)) (fun _ _ _ _ _ _ _ => (pg_name (i := 9) sc_is_book.nd rfl (by first | exact Or.inl rfl | exact Or.inr rfl))) (fun _ _ _ _ _ _ _ hr => pts_nil) (fun _ _ _ _ _ _ _ hr => (pe_call G_has_kind_form (hr.mono (by omega)) rfl T.m_has_kind_form T.F_has_kind_form.kp T.b_has_kind_form .nil pass0 (pa_cons (pv 9) pa_nil) db_has_kind_form)))))))) (pss_one (ps_ret pe_bl)) pss_nil)
  (pss_cons (ps_set (i := 1) sc_is_book.nd rfl l_is_book_kinds (pe_op op_catS (pe_lst (pa_cons (pe_glob g_is_book_NUM T.c_NUM.choose_spec.1 T.c_NUM.choose_spec.2 db_NUM) pa_nil)) (pe_lc (own := [("name", 6), ("makes", 7)]) (g := gTup K 2 (gCons (gName 6) (gCons (gName 7) gNil))) (by rfl) sc_is_book.nd (pi_tup (pe_var (i := 0) rfl v_is_book_thing db_thing cd_thing)) (blkOk_by (own := [("name", 6), ("makes", 7)]) (N := ["thing", "kinds", "makes_met", "fields_met", "make", "field", "name", "makes", "fields", "kind"]) (sc := defScope s_is_book) (by decide +kernel)) (fun _ _ _ _ _ => (pg_tup (by rfl) (pgs_cons (pg_name (i := 6) sc_is_book.nd rfl (by first | exact Or.inl rfl | exact Or.inr rfl)) (pgs_cons (pg_name (i := 7) sc_is_book.nd rfl (by first | exact Or.inl rfl | exact Or.inr rfl)) pgs_nil)))) (fun _ _ _ _ _ => pts_nil) (fun _ _ _ _ _ => (pv 6)))))
  (pss_cons (ps_setLc2 (i := 2) (own := [("name", 6), ("makes", 7), ("make", 4)]) (vs1 := [4]) (wi1 := iTup K (tVar 7)) (g := gTup K 2 (gCons (gName 6) (gCons (gName 7) gNil))) (g1 := gName 4) rfl sc_is_book.nd rfl lx_is_book_makes_met (sw_true rfl lx_is_book_makes_met rfl (by decide +kernel)) (pi_tup (pe_var (i := 0) rfl v_is_book_thing db_thing cd_thing)) (blkOk_by (own := [("name", 6), ("makes", 7), ("make", 4)]) (N := ["thing", "kinds", "makes_met", "fields_met", "make", "field", "name", "makes", "fields", "kind"]) (sc := defScope s_is_book) (by decide +kernel)) (by decide) (fun _ _ _ _ _ => (pg_tup (by rfl) (pgs_cons (pg_name (i := 6) sc_is_book.nd rfl (by first | exact Or.inl rfl | exact Or.inr rfl)) (pgs_cons (pg_name (i := 7) sc_is_book.nd rfl (by first | exact Or.inl rfl | exact Or.inr rfl)) pgs_nil)))) (fun _ _ _ _ _ => pts_nil) (fun _ _ _ _ _ => (pi_tupK (K := K) rfl (pv 7))) (fun _ _ _ _ _ => (pg_name (i := 4) sc_is_book.nd rfl (by first | exact Or.inl rfl | exact Or.inr rfl))) (fun _ _ _ _ _ => pts_nil) (fun _ _ _ _ _ => (pv 4)))
  (pss_cons (ps_setLc2 (i := 3) (own := [("name", 6), ("fields", 8), ("field", 5)]) (vs1 := [5]) (wi1 := iTup K (tVar 8)) (g := gTup K 2 (gCons (gName 6) (gCons (gName 8) gNil))) (g1 := gName 5) rfl sc_is_book.nd rfl lx_is_book_fields_met (sw_true rfl lx_is_book_fields_met rfl (by decide +kernel)) (pi_list (pe_var (i := 2) rfl v_is_book_makes_met db_makes_met cd_makes_met)) (blkOk_by (own := [("name", 6), ("fields", 8), ("field", 5)]) (N := ["thing", "kinds", "makes_met", "fields_met", "make", "field", "name", "makes", "fields", "kind"]) (sc := defScope s_is_book) (by decide +kernel)) (by decide) (fun _ _ _ _ _ => (pg_tup (by rfl) (pgs_cons (pg_name (i := 6) sc_is_book.nd rfl (by first | exact Or.inl rfl | exact Or.inr rfl)) (pgs_cons (pg_name (i := 8) sc_is_book.nd rfl (by first | exact Or.inl rfl | exact Or.inr rfl)) pgs_nil)))) (fun _ _ _ _ _ => pts_nil) (fun _ _ _ _ _ => (pi_tupK (K := K) rfl (pv 8))) (fun _ _ _ _ _ => (pg_name (i := 5) sc_is_book.nd rfl (by first | exact Or.inl rfl | exact Or.inr rfl))) (fun _ _ _ _ _ => pts_nil) (fun _ _ _ _ _ => (pv 5)))
  (pss_cons (ps_if (PW.pt (pw_or (pt_not (pt_val (pe_call G_are_unlike (hr.mono (by omega)) g_is_book_are_unlike T.m_are_unlike T.F_are_unlike.kp T.b_are_unlike .nil pass0 (pa_cons (pe_var (i := 1) rfl v_is_book_kinds db_kinds cd_kinds) pa_nil) db_are_unlike))) (pw_or1 (pt_not (pt_val (pe_call G_are_unlike (hr.mono (by omega)) g_is_book_are_unlike T.m_are_unlike T.F_are_unlike.kp T.b_are_unlike .nil pass0 (pa_cons (pe_lc (own := [("name", 6), ("fields", 8)]) (g := gTup K 2 (gCons (gName 6) (gCons (gName 8) gNil))) (by rfl) sc_is_book.nd (pi_list (pe_var (i := 2) rfl v_is_book_makes_met db_makes_met cd_makes_met)) (blkOk_by (own := [("name", 6), ("fields", 8)]) (N := ["thing", "kinds", "makes_met", "fields_met", "make", "field", "name", "makes", "fields", "kind"]) (sc := defScope s_is_book) (by decide +kernel)) (fun _ _ _ _ _ => (pg_tup (by rfl) (pgs_cons (pg_name (i := 6) sc_is_book.nd rfl (by first | exact Or.inl rfl | exact Or.inr rfl)) (pgs_cons (pg_name (i := 8) sc_is_book.nd rfl (by first | exact Or.inl rfl | exact Or.inr rfl)) pgs_nil)))) (fun _ _ _ _ _ => pts_nil) (fun _ _ _ _ _ => (pv 6))) pa_nil) db_are_unlike)))))) (pss_one (ps_ret pe_bl)) pss_nil)
  (pss_one (ps_ret (pe_allg (own := [("field", 5)]) hr g_is_book_all T.z_all rfl hC hB rfl sc_is_book.nd (pi_list (pe_var (i := 3) rfl v_is_book_fields_met db_fields_met cd_fields_met)) (blkOk_by (own := [("field", 5)]) (N := ["thing", "kinds", "makes_met", "fields_met", "make", "field", "name", "makes", "fields", "kind"]) (sc := defScope s_is_book) (by decide +kernel)) (fun _ _ _ _ _ _ _ => (pg_name (i := 5) sc_is_book.nd rfl (by first | exact Or.inl rfl | exact Or.inr rfl))) (fun _ _ _ _ _ _ _ hr => pts_nil) (fun _ _ _ _ _ _ _ hr => (pe_cmpR (op_inK (K := K) rfl) (pv 5) (pv 1) (by rfl))))))))))), ?_⟩
    refine ⟨_, rfl, v, p, 1, 6, rfl, th, ?_⟩
    cases hT : tupT 1 6 p with
    | false =>
      have q := q H (Same.refl _)
      rw [book_no fun B e ok => by
        rw [e] at hT
        have : (decide (1 ≤ (B.map kTH).length) && decide ((B.map kTH).length ≤ 6)) = false := hT
        rw [List.length_map, decide_eq_true ok.lo, decide_eq_true ok.hi] at this
        cases this] at q
      exact ⟨_, rfl, iteT (iteT q)⟩
    | true =>
      cases th with
      | num i => cases hT
      | bl b => cases hT
      | non => cases hT
      | str z => cases hT
      | @tup a us ts e hts =>
        have hT : (decide (1 ≤ ts.length) && decide (ts.length ≤ 6)) = true := hT
        rw [Bool.and_eq_true] at hT
        have hlo : 1 ≤ ts.length := of_decide_eq_true hT.1
        have hhi : ts.length ≤ 6 := of_decide_eq_true hT.2
        rw [Sm] at hsm
        refine ⟨_, rfl, iteF ?_⟩
        refine ⟨_, rfl, a, rfl, ⟨_, SqT.of e⟩, hP, allgB (over_tup (SqT.of e)) (onV H kindT) (fun i x k hx hk => ?_) ?_⟩
        · obtain ⟨p, hp, hxp⟩ := hts.get hx
          rw [onV_at hxp] at hk
          exact ⟨rfl, yes ⟨_, rfl, x, p, rfl, tb, hxp, sms_mem hsm.2 p (List.mem_of_getElem? hp), hk⟩⟩
        · rw [onV_all hts]
          cases hK : ts.all kindT with
          | false =>
            have q := q H (Same.refl _)
            rw [book_no fun B e ok => by
              have e : ts = B.map kTH := by injection e
              rw [e, List.all_map] at hK
              have : B.all (kindT ∘ kTH) = true := List.all_eq_true.mpr fun k hk => kind_T (ok.ks k hk)
              rw [hK] at this
              cases this] at q
            exact iteT q
          | true =>
            obtain ⟨B, eB, hpd, hks⟩ := kinds_of hts hK
            subst eB
            rw [List.length_map] at hlo hhi
            have hul := hpd.length
            refine iteF ?_
            -- kinds
            refine ⟨by show 1 ≤ sizeLine; decide, fun Z hZ => ?_⟩
            have s1 : Same H (upd H Z (.lst [.str "num"])) := Same.new (Same.refl _) hZ
            have e1 : upd H Z (.lst [.str "num"]) Z = some (.lst [.str "num"]) := upd_same
            generalize upd H Z (.lst [.str "num"]) = H1 at s1 e1
            refine ⟨_, rfl, a, rfl, ⟨_, SqT.of (s1 _ _ e)⟩, fun L hL => ?_⟩
            refine lc_tup (K := K) (a := a) (xs := us) (fun i H' => Same H1 H' ∧ H' L = some (.lst ((kindsD (B.take i)).map V.str))) ⟨Same.new (Same.refl _) hL, upd_same⟩ (fun i H' _ ⟨s2, _⟩ => SqT.of ((s1.trans s2) _ _ e)) ?_ ?_
            · rintro i x H2 hx ⟨s2, hL2⟩
              obtain ⟨k, hk, ka, kb', vm, rfl, h2, h3, hM⟩ := hpd.get hx
              obtain ⟨hi, ek⟩ := List.getElem?_eq_some_iff.mp hk
              have s02 := s1.trans s2
              refine ⟨ka, _, rfl, SqT.of (s02 _ _ h2), rfl, _, _, rfl, _, _, rfl, rfl, rfl, yes ⟨_, rfl, _, hL2, small1000 (by unfold kindsD; rw [List.length_map, List.length_map, List.length_take]; omega), same_upd s2 hL, ?_⟩⟩
              rw [upd_same, List.take_succ_eq_append_getElem hi, ek]
              unfold kindsD
              rw [List.map_append, List.map_append]; rfl
            · rintro H2 ⟨s2, hL2⟩
              rw [hul, List.take_length] at hL2
              have s02 := s1.trans s2
              refine ⟨Z, L, _, _, rfl, rfl, SqL.of (s2 _ _ e1), SqL.of hL2, Nat.le_of_lt (small1000 (by unfold kindsD; rw [List.length_map, List.length_map]; show 1 + _ ≤ 1000; omega)), fun M hM => ?_⟩
              have s3 : Same H2 (upd H2 M (.lst ([.str "num"] ++ (kindsD B).map V.str))) := Same.new (Same.refl _) hM
              have e3 : upd H2 M (.lst ([.str "num"] ++ (kindsD B).map V.str)) M = some (.lst ((("num" : Str) :: kindsD B).map V.str)) := upd_same
              generalize upd H2 M (.lst ([.str "num"] ++ (kindsD B).map V.str)) = H3 at s3 e3
              have s03 := s02.trans s3
              -- makes met
              refine ⟨_, rfl, a, rfl, ⟨_, SqT.of (s03 _ _ e)⟩, fun L2 hL2 => ?_⟩
              refine it_tup (K := K) (a := a) (xs := us) (fun i H' => Same H3 H' ∧ ∃ acc, H' L2 = some (.lst acc) ∧ Pd (MakeAt H') acc (makesD (B.take i)) ∧ acc.length ≤ 6 * i) ⟨Same.new (Same.refl _) hL2, [], upd_same, .nil, Nat.zero_le _⟩ (fun i H' _ ⟨s4, _⟩ => SqT.of ((s03.trans s4) _ _ e)) ?_ ?_
              · rintro i x H4 hx ⟨s4, acc, hacc, hpa, hal⟩
                obtain ⟨k, hk, ka, kb', vm, rfl, h2, h3, hM⟩ := hpd.get hx
                obtain ⟨hi, ek⟩ := List.getElem?_eq_some_iff.mp hk
                have hk6 := (hks k (List.mem_of_getElem? hk)).2.2.1
                have hvl := hM.length
                have s04 := s03.trans s4
                refine ⟨ka, _, rfl, SqT.of (s04 _ _ h2), rfl, _, _, rfl, _, _, rfl, rfl, rfl, yes ?_⟩
                refine ⟨_, rfl, kb', rfl, ⟨_, SqT.of (s04 _ _ h3)⟩, it_tup (K := K) (a := kb') (xs := vm) (fun j H5 => Same H3 H5 ∧ KeepT H4 H5 ∧ ∃ acc, H5 L2 = some (.lst acc) ∧ Pd (MakeAt H5) acc (makesD (B.take i) ++ k.2.take j) ∧ acc.length ≤ 6 * i + j) ⟨s4, KeepT.refl _, acc, hacc, by rw [List.take_zero, List.append_nil]; exact hpa, hal⟩ (fun j H5 _ ⟨s5, _⟩ => SqT.of ((s03.trans s5) _ _ h3)) ?_ ?_⟩
                · rintro j y H5 hy ⟨s5, k5, acc5, hacc5, hpa5, hal5⟩
                  obtain ⟨m, hm, hmk⟩ := hM.get hy
                  obtain ⟨hj, em⟩ := List.getElem?_eq_some_iff.mp hm
                  have kT : KeepT H5 (upd H5 L2 (.lst (acc5 ++ [y]))) := keepT_lst hacc5
                  refine ⟨rfl, yes ⟨_, rfl, acc5, hacc5, small1000 (by omega), same_upd s5 hL2, k5.trans kT, _, upd_same, ?_, by rw [List.length_append]; show acc5.length + 1 ≤ _; omega⟩⟩
                  rw [List.take_succ_eq_append_getElem hj, em, ← List.append_assoc]
                  exact (hpa5.mono fun _ _ z => z.keep kT).snoc ((hmk.keep (s04.keepT.trans k5)).keep kT)
                · rintro H5 ⟨s5, k5, acc5, hacc5, hpa5, hal5⟩
                  rw [hvl, List.take_length] at hpa5
                  refine ⟨s5, acc5, hacc5, ?_, by omega⟩
                  rw [List.take_succ_eq_append_getElem hi, ek, makesD_snoc]
                  exact hpa5
              · rintro H4 ⟨s4, acc, hacc, hpa, hal⟩
                rw [hul, List.take_length] at hpa
                have hal6 : acc.length ≤ 36 := by rw [hul] at hal; omega
                have hpl := hpa.length
                have s04 := s03.trans s4
                have hmk4 : ∀ m ∈ makesD B, m.2.length ≤ 4 := fun m hm => by
                  obtain ⟨k, hk, hmk⟩ := mem_makesD.mp hm
                  exact ((hks k hk).2.2.2 m hmk).2.1
                -- fields met
                refine ⟨_, rfl, L2, rfl, ⟨_, SqL.of hacc⟩, fun L3 hL3 => ?_⟩
                refine it_list (K := K) (a := L2) (xs := acc) (fun i H' => Same H4 H' ∧ H' L3 = some (.lst (((((makesD B).take i).map (·.2)).flatten).map V.str)) ∧ ((((makesD B).take i).map (·.2)).flatten).length ≤ 4 * i) ⟨Same.new (Same.refl _) hL3, upd_same, Nat.zero_le _⟩ (fun i H' _ ⟨s5, _⟩ => SqL.of (s5 _ _ hacc)) ?_ ?_
                · rintro i x H5 hx ⟨s5, hL5, hl5⟩
                  obtain ⟨m, hm, ma, mb, rfl, hma, hmb⟩ := hpa.get hx
                  obtain ⟨hi, em⟩ := List.getElem?_eq_some_iff.mp hm
                  have hm4 := hmk4 m (List.mem_of_getElem? hm)
                  have hia : i < 36 := by
                    have := (List.getElem?_eq_some_iff.mp hx).1
                    omega
                  refine ⟨ma, _, rfl, SqT.of (s5 _ _ hma), rfl, _, _, rfl, _, _, rfl, rfl, rfl, yes ?_⟩
                  refine ⟨_, rfl, mb, rfl, ⟨_, SqT.of (s5 _ _ hmb)⟩, it_tup (K := K) (a := mb) (xs := m.2.map V.str) (fun j H6 => Same H4 H6 ∧ H6 L3 = some (.lst ((((((makesD B).take i).map (·.2)).flatten) ++ m.2.take j).map V.str))) ⟨s5, by rw [List.take_zero, List.append_nil]; exact hL5⟩ (fun j H6 _ ⟨s6, _⟩ => SqT.of (s6 _ _ hmb)) ?_ ?_⟩
                  · rintro j y H6 hy ⟨s6, hL6⟩
                    rw [List.getElem?_map] at hy
                    cases hcf : m.2[j]? with
                    | none => rw [hcf] at hy; cases hy
                    | some f =>
                      rw [hcf] at hy
                      cases hy
                      obtain ⟨hj, ef⟩ := List.getElem?_eq_some_iff.mp hcf
                      refine ⟨rfl, yes ⟨_, rfl, _, hL6, small1000 (by rw [List.length_map, List.length_append, List.length_take]; omega), same_upd s6 hL3, ?_⟩⟩
                      rw [upd_same, List.take_succ_eq_append_getElem hj, ef, ← List.append_assoc, List.map_append (l₂ := [f])]; rfl
                  · rintro H6 ⟨s6, hL6⟩
                    rw [List.length_map, List.take_length] at hL6
                    have etk : (((makesD B).take (i + 1)).map (·.2)).flatten = (((makesD B).take i).map (·.2)).flatten ++ m.2 := by
                      rw [List.take_succ_eq_append_getElem hi, em, List.map_append, List.flatten_append]; simp
                    rw [etk]
                    exact ⟨s6, hL6, by rw [List.length_append]; omega⟩
                · rintro H5 ⟨s5, hL5, hl5⟩
                  rw [hpl, List.take_length] at hL5 hl5
                  have s05 := s04.trans s5
                  have e5 := (s4.trans s5) _ _ e3
                  have hkl : (("num" : Str) :: kindsD B).length ≤ 7 := by rw [List.length_cons]; unfold kindsD; rw [List.length_map]; omega
                  -- unlike
                  refine ⟨_, rfl, M, _, rfl, e5, by omega, fun H6 s6 => ?_⟩
                  by_cases hnk : (("num" : Str) :: kindsD B).Nodup
                  · rw [decide_eq_true hnk]
                    refine ⟨_, rfl, iteF ?_⟩
                    have hacc6 := (s5.trans s6) _ _ hacc
                    refine ⟨_, rfl, L2, rfl, ⟨_, SqL.of hacc6⟩, fun L4 hL4 => ?_⟩
                    refine lc_list (K := K) (a := L2) (xs := acc) (fun i H' => Same H6 H' ∧ H' L4 = some (.lst ((((makesD B).take i).map (·.1)).map V.str))) ⟨Same.new (Same.refl _) hL4, upd_same⟩ (fun i H' _ ⟨s7, _⟩ => SqL.of (s7 _ _ hacc6)) ?_ ?_
                    · rintro i x H7 hx ⟨s7, hL7⟩
                      obtain ⟨m, hm, ma, mb, rfl, hma, hmb⟩ := hpa.get hx
                      obtain ⟨hi, em⟩ := List.getElem?_eq_some_iff.mp hm
                      refine ⟨ma, _, rfl, SqT.of (((s5.trans s6).trans s7) _ _ hma), rfl, _, _, rfl, _, _, rfl, rfl, rfl, yes ⟨_, rfl, _, hL7, small1000 (by rw [List.length_map, List.length_map, List.length_take]; omega), same_upd s7 hL4, ?_⟩⟩
                      rw [upd_same, List.take_succ_eq_append_getElem hi, em, List.map_append, List.map_append]; rfl
                    · rintro H7 ⟨s7, hL7⟩
                      rw [hpl, List.take_length] at hL7
                      refine ⟨L4, _, rfl, hL7, by rw [List.length_map]; omega, fun H8 s8 => ?_⟩
                      have s58 := (s6.trans s7).trans s8
                      have s08 := s05.trans s58
                      by_cases hnm : ((makesD B).map (·.1)).Nodup
                      · rw [decide_eq_true hnm]
                        refine ⟨_, rfl, iteF ?_⟩
                        refine ⟨_, rfl, L3, rfl, ⟨_, SqL.of (s58 _ _ hL5)⟩, s08 _ _ hP, allg_pure (over_list (SqL.of (s58 _ _ hL5))) (fun v => inV v ((("num" : Str) :: kindsD B).map V.str)) (fun i x k hx hk => ?_) ?_⟩
                        · rw [List.getElem?_map] at hx
                          obtain ⟨f, _, rfl⟩ := Option.map_eq_some_iff.mp hx
                          exact ⟨rfl, yes ⟨_, rfl, _, rfl, M, _, rfl, .inl (SqL.of (s58 _ _ e5)), rfl, flat_strB _, hk⟩⟩
                        · have q := q H8 s08
                          have eall : (((((makesD B).map (·.2)).flatten).map V.str).all fun v => inV v ((("num" : Str) :: kindsD B).map V.str)) = bookT (bTH B) := by
                            rw [List.all_map]
                            by_cases hf : ∀ m ∈ makesD B, ∀ f ∈ m.2, f ∈ ("num" : Str) :: kindsD B
                            · rw [book_yes ⟨hlo, hhi, hks, hnk, hnm, hf⟩]
                              refine List.all_eq_true.mpr fun f hfm => ?_
                              obtain ⟨l, hl, hfl⟩ := List.mem_flatten.mp hfm
                              obtain ⟨m, hm, rfl⟩ := List.mem_map.mp hl
                              show inV (.str f) _ = true
                              rw [inV_strB]
                              exact decide_eq_true (hf m hm f hfl)
                            · rw [book_no fun B' e' ok => hf (by rw [← bTH_inj e'] at ok; exact ok.fs)]
                              rw [List.all_eq_false]
                              have ⟨m, hm⟩ := Classical.not_forall.mp hf
                              have ⟨hm1, hm2⟩ := Classical.not_imp.mp hm
                              have ⟨f, hf1⟩ := Classical.not_forall.mp hm2
                              have ⟨hf2, hf3⟩ := Classical.not_imp.mp hf1
                              refine ⟨f, List.mem_flatten.mpr ⟨m.2, List.mem_map.mpr ⟨m, hm1, rfl⟩, hf2⟩, ?_⟩
                              show ¬ inV (.str f) _ = true
                              rw [inV_strB, decide_eq_false hf3]; decide
                          rw [eall]
                          exact q
                      · rw [decide_eq_false hnm]
                        have q := q H8 s08
                        rw [book_no (p := .tup (B.map kTH)) fun B' e' ok => hnm (by rw [← bTH_inj (B := B) e'] at ok; exact ok.nm)] at q
                        exact ⟨_, rfl, iteT q⟩
                  · rw [decide_eq_false hnk]
                    have q := q H6 (s05.trans s6)
                    rw [book_no (p := .tup (B.map kTH)) fun B' e' ok => hnk (by rw [← bTH_inj (B := B) e'] at ok; exact ok.nk)] at q
                    exact ⟨_, rfl, iteT (iteT q)⟩

end
end My

set_option Elab.async false
set_option linter.all false
set_option maxRecDepth 100000
set_option maxHeartbeats 4000000
namespace My
open PySem PySem.Spec PyProof.Rows L2 Bk
section
variable {P : Program} {w : World} {K : PySem.W.Frag} {mg : Str → Option Value} {base : Heap} {t : Adr}
def spLWord : Sp := fun vs H Q _ => ∃ v p, vs = [v] ∧ ThAt H v p ∧ Sm p ∧ ∀ H', Same H H' → Q (.bl (wordT p)) H'
theorem ok_law_word (T : Txt K mg t) : FnOk P w K mg base CX0 1 t.f_law_word t.d_law_word ["thing"] spLWord := by
  refine T.F_law_word.ok sc_law_word (fun vs H Q E h => ?_) (fun cdv A outer s H vs Q E hr h => ?_)
  · obtain ⟨_, _, rfl, _⟩ := h
    rfl
  · obtain ⟨v, p, rfl, th, hsm, q⟩ := h
    refine ⟨_, (pss_cons (ps_if (PW.pt (pw_or (pt_not (pt_val (pe_callB call_isi g_law_word_isinstance T.z_isinstance bt_isinstance (pa_cons (pe_var (i := 0) rfl v_law_word_thing db_thing cd_thing) (pa_cons (pe_bltn (v := V.ty "str") g_law_word_str T.z_str bt_str rfl nn_str db_str) pa_nil)) nn_isinstance db_isinstance))) (pw_or (pt_cmpR op_eq (pe_var (i := 0) rfl v_law_word_thing db_thing cd_thing) pe_str (nomark _)) (pw_or1 (pt_cmpR op_gt (pe_callB call_len_str g_law_word_len T.z_len bt_len (pa_cons (pe_var (i := 0) rfl v_law_word_thing db_thing cd_thing) pa_nil) nn_len db_len) pe_int (nomark _)))))) (pss_one (ps_ret pe_bl)) pss_nil)
  (pss_one (ps_ret (pe_cmpR op_eq (pe_callB call_len_seq g_law_word_len T.z_len bt_len (pa_cons (pe_lc (own := [("sign", 1)]) (by rfl) sc_law_word.nd (pi_str (pe_var (i := 0) rfl v_law_word_thing db_thing cd_thing)) (blkOk_by (own := [("sign", 1)]) (N := ["thing", "sign"]) (sc := defScope s_law_word) (by decide +kernel)) (fun _ _ _ _ _ => (pg_name (i := 1) sc_law_word.nd rfl (by first | exact Or.inl rfl | exact Or.inr rfl))) (fun _ _ _ _ _ => (pts_one (pt_cmpR op_notIn_sign (pv 1) pe_str (by rfl)))) (fun _ _ _ _ _ => (pv 1))) pa_nil) nn_len db_len) pe_int (nomark _))))), ?_⟩
    cases th with
    | num i => exact ⟨_, rfl, _, _, _, _, rfl, .int i, kit_ty k_int_str, _, rfl, iteT (iteT (q H (Same.refl _)))⟩
    | bl b => exact ⟨_, rfl, _, _, _, _, rfl, .bl b, kit_ty k_bool_str, _, rfl, iteT (iteT (q H (Same.refl _)))⟩
    | non => exact ⟨_, rfl, _, _, _, _, rfl, .non, kit_ty k_non_str, _, rfl, iteT (iteT (q H (Same.refl _)))⟩
    | tup e _ => exact ⟨_, rfl, _, _, _, _, rfl, .tup e, kit_ty k_tuple_str, _, rfl, iteT (iteT (q H (Same.refl _)))⟩
    | str z =>
      refine ⟨_, rfl, _, _, _, _, rfl, .str z, kit_ty k_str_str, _, rfl, iteF ?_⟩
      rw [Sm] at hsm
      have q : ∀ H', Same H H' → Q (.bl (decide (1 ≤ z.length) && decide (z.length ≤ 8) && z.cps.toList.all low)) H' := q
      have hzl : z.length = z.cps.toList.length := by rw [Array.length_toList]; rfl
      by_cases hz : z = ""
      · have q := q H (Same.refl _)
        rw [hz] at q
        have e0 : (decide (1 ≤ ("" : Str).length) && decide (("" : Str).length ≤ 8) && ("" : Str).cps.toList.all low) = false := by decide +kernel
        rw [e0] at q
        refine ⟨_, rfl, rfl, _, rfl, (if_pos (by rw [hz]; simp)).mpr ?_⟩
        exact iteT q
      · refine ⟨_, rfl, rfl, _, rfl, (if_neg (by simpa using hz)).mpr ?_⟩
        have h1 : 1 ≤ z.length := by
          rw [hzl]
          cases hl : z.cps.toList with
          | nil =>
            refine absurd ?_ hz
            have : z.cps = #[] := by
              have := congrArg List.toArray hl
              simpa using this
            cases z
            cases this
            rfl
          | cons c r => simp
        rw [decide_eq_true h1, Bool.true_and] at q
        refine ⟨_, rfl, z, rfl, Nat.le_of_lt (small1000 hsm), _, _, rfl, rfl, _, rfl, ?_⟩
        refine ite2 (fun h2 => ?_) (fun h2 => ?_)
        · have h2' : ¬ z.length ≤ 8 := by have := of_decide_eq_true h2; omega
          have q := q H (Same.refl _)
          rw [decide_eq_false h2'] at q
          exact q
        · have h2' : z.length ≤ 8 := by
            have := of_decide_eq_false (Bool.eq_false_iff.mpr h2)
            omega
          rw [decide_eq_true h2', Bool.true_and] at q
          refine ⟨_, rfl, _, rfl, fun L hL => ?_⟩
          refine lc_str (z := z) (fun i H' => Same H H' ∧ H' L = some (.lst (((z.cps.toList.take i).filter fun c => !low c).map fun c => V.str ⟨#[c]⟩))) ⟨Same.new (Same.refl _) hL, upd_same⟩ ?_ ?_
          · rintro i ch H2 hch ⟨s2, hL2⟩
            have hch' : z.cps.toList[i]? = some ch := by rw [Array.getElem?_toList]; exact hch
            obtain ⟨hi, ei⟩ := List.getElem?_eq_some_iff.mp hch'
            have etk : z.cps.toList.take (i + 1) = z.cps.toList.take i ++ [ch] := by rw [List.take_succ_eq_append_getElem hi, ei]
            refine ⟨rfl, _, rfl, ch, _, rfl, rfl, _, rfl, ?_⟩
            show if (!low ch) = true then _ else _
            cases hlc : low ch with
            | true =>
              refine iteF ⟨s2, ?_⟩
              rw [etk, List.filter_append, List.filter_cons_of_neg (by rw [hlc]; decide), List.filter_nil, List.append_nil]
              exact hL2
            | false =>
              refine iteT ⟨_, rfl, _, hL2, small1000 (by
                rw [List.length_map]
                refine Nat.le_trans (List.length_filter_le _ _) ?_
                rw [List.length_take]; omega), same_upd s2 hL, ?_⟩
              rw [upd_same, etk, List.filter_append, List.filter_cons_of_pos (by rw [hlc]; decide), List.map_append]; rfl
          · rintro H2 ⟨s2, hL2⟩
            have e8 : z.cps.toList.take z.cps.size = z.cps.toList := List.take_of_length_le (by rw [Array.length_toList]; exact Nat.le_refl _)
            rw [e8] at hL2
            refine ⟨L, _, rfl, .inl (SqL.of hL2), rfl, ?_⟩
            have q := q H2 s2
            have e9 : decide (V.int ((((z.cps.toList.filter fun c => !low c).map fun c => V.str ⟨#[c]⟩)).length : Int) = V.int 0) = z.cps.toList.all low := by
              rw [List.length_map]
              cases hall : z.cps.toList.all low with
              | true =>
                have : (z.cps.toList.filter fun c => !low c) = [] := List.filter_eq_nil_iff.mpr fun c hc => by rw [List.all_eq_true.mp hall c hc]; decide
                rw [this]; rfl
              | false =>
                refine decide_eq_false fun z' => ?_
                have h0 : (z.cps.toList.filter fun c => !low c).length = 0 := by injection z' with z'; omega
                have h1 := List.filter_eq_nil_iff.mp (List.length_eq_zero_iff.mp h0)
                have : z.cps.toList.all low = true := List.all_eq_true.mpr fun c hc => by
                  have := h1 c hc
                  cases hl : low c with
                  | true => rfl
                  | false => rw [hl] at this; exact absurd rfl this
                rw [hall] at this
                cases this
            rw [e9]
            exact q
def rowT (lo hi : Nat) : TH → Bool
  | .tup [a, .tup ts] => wordT a && (decide (lo ≤ ts.length) && decide (ts.length ≤ hi))
  | _ => false
def spLRow : Sp := fun vs H Q _ => ∃ (v : V) (p : TH) (lo hi : Nat), vs = [v, .int lo, .int hi] ∧ ThAt H v p ∧ Sm p ∧ ∀ H', Same H H' → Q (.bl (rowT lo hi p)) H'
theorem ok_law_row (T : Txt K mg t) : FnOk P w K mg base CX0 3 t.f_law_row t.d_law_row ["thing", "least", "most"] spLRow := by
  have G_law_word : FnOk P w K mg base CX0 1 t.f_law_word t.d_law_word ["thing"] spLWord := ok_law_word T
  refine T.F_law_row.ok sc_law_row (fun vs H Q E h => ?_) (fun cdv A outer s H vs Q E hr h => ?_)
  · obtain ⟨_, _, _, _, rfl, _⟩ := h
    rfl
  · obtain ⟨v, p, lo, hi, rfl, th, hsm, q⟩ := h
    refine ⟨_, (pss_cons (ps_if (PW.pt (pw_or (pt_not (pt_val (pe_callB call_isi g_law_row_isinstance T.z_isinstance bt_isinstance (pa_cons (pe_var (i := 0) rfl v_law_row_thing db_thing cd_thing) (pa_cons (pe_bltn (v := V.ty "tuple") g_law_row_tuple T.z_tuple bt_tuple rfl nn_tuple db_tuple) pa_nil)) nn_isinstance db_isinstance))) (pw_or (pt_cmpR op_ne (pe_callB call_len_seq g_law_row_len T.z_len bt_len (pa_cons (pe_var (i := 0) rfl v_law_row_thing db_thing cd_thing) pa_nil) nn_len db_len) pe_int (nomark _)) (pw_or1 (pt_not (pt_val (pe_call G_law_word (hr.mono (by omega)) g_law_row_law_word T.m_law_word T.F_law_word.kp T.b_law_word .nil pass0 (pa_cons (pe_ix ix_tup (pe_var (i := 0) rfl v_law_row_thing db_thing cd_thing) pe_int (fun _ _ => rfl)) pa_nil) db_law_word))))))) (pss_one (ps_ret pe_bl)) pss_nil)
  (pss_one (ps_ret (pe_and (pe_callB call_isi g_law_row_isinstance T.z_isinstance bt_isinstance (pa_cons (pe_ix ix_tup (pe_var (i := 0) rfl v_law_row_thing db_thing cd_thing) pe_int (fun _ _ => rfl)) (pa_cons (pe_bltn (v := V.ty "tuple") g_law_row_tuple T.z_tuple bt_tuple rfl nn_tuple db_tuple) pa_nil)) nn_isinstance db_isinstance) (pe_one (pe_chain op_le op_le (pe_var (i := 1) rfl v_law_row_least db_least cd_least) (pe_callB call_len_seq g_law_row_len T.z_len bt_len (pa_cons (pe_ix ix_tup (pe_var (i := 0) rfl v_law_row_thing db_thing cd_thing) pe_int (fun _ _ => rfl)) pa_nil) nn_len db_len) (pe_var (i := 2) rfl v_law_row_most db_most cd_most))))))), ?_⟩
    cases th with
    | num i => exact ⟨_, rfl, _, _, _, _, rfl, .int i, kit_ty k_int_tuple, _, rfl, iteT (iteT (q H (Same.refl _)))⟩
    | bl b => exact ⟨_, rfl, _, _, _, _, rfl, .bl b, kit_ty k_bool_tuple, _, rfl, iteT (iteT (q H (Same.refl _)))⟩
    | non => exact ⟨_, rfl, _, _, _, _, rfl, .non, kit_ty k_non_tuple, _, rfl, iteT (iteT (q H (Same.refl _)))⟩
    | str z => exact ⟨_, rfl, _, _, _, _, rfl, .str z, kit_ty k_str_tuple, _, rfl, iteT (iteT (q H (Same.refl _)))⟩
    | @tup a us ts e hts =>
      have hl := hts.length
      refine ⟨_, rfl, _, _, _, _, rfl, .tup e, kit_ty k_tuple_tuple, _, rfl, iteF ?_⟩
      refine ⟨_, rfl, a, us, rfl, .inr (SqT.of e), rfl, _, rfl, ?_⟩
      by_cases h2 : us.length = 2
      · refine (if_neg (by rw [h2]; decide)).mpr ?_
        match us, ts, hts, hl, h2 with
        | [xv, yv], [x, y], .cons hx (.cons hy .nil), _, _ =>
          rw [Sm] at hsm
          have sx := sms_mem hsm.2 x (by simp)
          refine ⟨_, rfl, a, _, 0, xv, rfl, rfl, SqT.of e, rfl, xv, x, rfl, hx, sx, fun H1 s1 => ?_⟩
          have q := q H1 s1
          have e1 := s1 _ _ e
          cases hw : wordT x with
          | false =>
            have hm : rowT lo hi (.tup [x, y]) = false := by
              cases y with
              | tup fs => show (wordT x && _) = false; rw [hw]; rfl
              | _ => rfl
            rw [hm] at q
            exact ⟨_, rfl, iteT q⟩
          | true =>
            refine ⟨_, rfl, iteF ?_⟩
            have hy1 := hy.keep s1.keepT
            refine ⟨_, rfl, a, _, 1, yv, rfl, rfl, SqT.of e1, rfl, ?_⟩
            cases hy1 with
            | num i => exact ⟨_, _, _, _, rfl, .int i, kit_ty k_int_tuple, _, rfl, iteF q⟩
            | bl b => exact ⟨_, _, _, _, rfl, .bl b, kit_ty k_bool_tuple, _, rfl, iteF q⟩
            | non => exact ⟨_, _, _, _, rfl, .non, kit_ty k_non_tuple, _, rfl, iteF q⟩
            | str z => exact ⟨_, _, _, _, rfl, .str z, kit_ty k_str_tuple, _, rfl, iteF q⟩
            | @tup b vs fs e2 hfs =>
              have hvl := hfs.length
              have q : Q (.bl (wordT x && (decide (lo ≤ fs.length) && decide (fs.length ≤ hi)))) H1 := q
              rw [hw, Bool.true_and] at q
              refine ⟨_, _, _, _, rfl, .tup e2, kit_ty k_tuple_tuple, _, rfl, iteT ?_⟩
              refine ⟨_, rfl, _, rfl, a, _, 1, .ref b, rfl, rfl, SqT.of e1, rfl, b, vs, rfl, .inr (SqT.of e2), ?_⟩
              refine ⟨_, _, rfl, rfl, _, rfl, ite2 (fun h1 => ?_) (fun h1 => ?_)⟩
              · have h1' : lo ≤ fs.length := by have := of_decide_eq_true h1; omega
                rw [decide_eq_true h1'] at q
                refine ⟨_, rfl, _, _, rfl, rfl, ?_⟩
                have e3 : decide ((vs.length : Int) ≤ (hi : Int)) = decide (fs.length ≤ hi) := by
                  by_cases h : fs.length ≤ hi
                  · rw [decide_eq_true h, decide_eq_true (by omega)]
                  · rw [decide_eq_false h, decide_eq_false (by omega)]
                show Q (.bl (decide ((vs.length : Int) ≤ (hi : Int)))) H1
                rw [e3]
                simpa using q
              · have h1' : ¬ lo ≤ fs.length := fun z => h1 (decide_eq_true (by omega))
                rw [decide_eq_false h1'] at q
                simpa using q
      · refine (if_pos (by rw [decide_eq_false (by intro z; injection z with z; omega)]; rfl)).mpr ?_
        have q := q H (Same.refl _)
        have hm : rowT lo hi (.tup ts) = false := by
          match ts, hl with
          | [], _ => rfl
          | [_], _ => rfl
          | [_, _], h => exact absurd h h2
          | _ :: b :: _ :: _, _ => cases b <;> rfl
        rw [hm] at q
        exact iteT q

end
end My

set_option Elab.async false
set_option linter.all false
set_option maxRecDepth 100000
set_option maxHeartbeats 4000000
namespace My
open PySem PySem.Spec PyProof.Rows L2 Bk
section
variable {P : Program} {w : World} {K : PySem.W.Frag} {mg : Str → Option Value} {base : Heap} {t : Adr}
abbrev XMk := Str × List TH
abbrev XKd := Str × List XMk
def xmTH (m : XMk) : TH := .tup [.str m.1, .tup m.2]
def xkTH (k : XKd) : TH := .tup [.str k.1, .tup (k.2.map xmTH)]
def mX (m : MakeD) : XMk := (m.1, m.2.map TH.str)
def kX (k : KindD) : XKd := (k.1, k.2.map mX)
theorem kTH_X (k : KindD) : kTH k = xkTH (kX k) := by
  unfold kTH xkTH kX
  rw [List.map_map]; rfl
theorem xmTH_inj {m m' : XMk} (h : xmTH m = xmTH m') : m = m' := by
  unfold xmTH at h
  injection h with h
  injection h with h1 h2
  injection h1 with h1
  injection h2 with h2 _
  injection h2 with h2
  exact Prod.ext h1 h2
theorem xkTH_inj {k k' : XKd} (h : xkTH k = xkTH k') : k = k' := by
  unfold xkTH at h
  injection h with h
  injection h with h1 h2
  injection h1 with h1
  injection h2 with h2 _
  injection h2 with h2
  exact Prod.ext h1 (map_inj' (fun a b e => xmTH_inj e) h2)
def xmakes (X : List XKd) : List XMk := (X.map (·.2)).flatten
def xfields (ms : List XMk) : List TH := (ms.map (·.2)).flatten
/-- what has been gone through -/
structure XOk (X : List XKd) : Prop where
  ks : ∀ k ∈ X, wordS k.1 = true ∧ 1 ≤ k.2.length ∧ k.2.length ≤ 6 ∧ ∀ m ∈ k.2, wordS m.1 = true ∧ m.2.length ≤ 4
  nk : (("num" : Str) :: X.map (·.1)).Nodup
  nm : ((xmakes X).map (·.1)).Nodup
theorem book_X {B : BookD} {X : List XKd} (h : B.map kTH = X.map xkTH) : X = B.map kX := by
  have : (B.map kX).map xkTH = X.map xkTH := by rw [← h, List.map_map]; exact List.map_congr_left fun k _ => (kTH_X k).symm
  exact (map_inj' (fun a b e => xkTH_inj e) this).symm
theorem kX_names (B : BookD) : (B.map kX).map (·.1) = kindsD B := by rw [List.map_map]; rfl
theorem kX_makes (B : BookD) : xmakes (B.map kX) = (makesD B).map mX := by
  unfold xmakes makesD
  induction B with
  | nil => rfl
  | cons k r ih => rw [List.map_cons, List.map_cons, List.flatten_cons, ih, List.map_cons, List.flatten_cons, List.map_append]; rfl
theorem okB_X {B : BookD} (ok : OkB B) : XOk (B.map kX) := by
  refine ⟨fun k hk => ?_, by rw [kX_names]; exact ok.nk, by rw [kX_makes, List.map_map]; exact ok.nm⟩
  obtain ⟨k0, hk0, rfl⟩ := List.mem_map.mp hk
  obtain ⟨h1, h2, h3, h4⟩ := ok.ks k0 hk0
  refine ⟨h1, by show 1 ≤ (k0.2.map mX).length; rw [List.length_map]; exact h2, by show (k0.2.map mX).length ≤ 6; rw [List.length_map]; exact h3, fun m hm => ?_⟩
  obtain ⟨m0, hm0, rfl⟩ := List.mem_map.mp (show m ∈ k0.2.map mX from hm)
  exact ⟨(h4 m0 hm0).1, by show (m0.2.map TH.str).length ≤ 4; rw [List.length_map]; exact (h4 m0 hm0).2.1⟩
/-- a thing is a text among those -/
def inNames (ns : List Str) : TH → Bool
  | .str f => decide (f ∈ ns)
  | _ => false
theorem names_all {ns : List Str} : ∀ {ts : List TH}, ts.all (inNames ns) = true → ∃ fs : List Str, ts = fs.map TH.str ∧ ∀ f ∈ fs, f ∈ ns
  | [], _ => ⟨[], rfl, fun _ h => (nomatch h)⟩
  | t :: r, h => by
    rw [List.all_cons, Bool.and_eq_true] at h
    obtain ⟨fs, e, hf⟩ := names_all h.2
    cases t with
    | str z => exact ⟨z :: fs, by rw [e]; rfl, fun f hm => by
        rcases List.mem_cons.mp hm with e | e
        · rw [e]; exact of_decide_eq_true h.1
        · exact hf f e⟩
    | num z => cases h.1
    | bl z => cases h.1
    | non => cases h.1
    | tup z => cases h.1
theorem mk_dec {ns : List Str} : ∀ {ms : List XMk}, (xfields ms).all (inNames ns) = true → ∃ ms' : List MakeD, ms = ms'.map mX ∧ ∀ m ∈ ms', ∀ f ∈ m.2, f ∈ ns
  | [], _ => ⟨[], rfl, fun _ h => (nomatch h)⟩
  | m :: r, h => by
    unfold xfields at h
    rw [List.map_cons, List.flatten_cons, List.all_append, Bool.and_eq_true] at h
    obtain ⟨ms', e, hf⟩ := mk_dec (ms := r) h.2
    obtain ⟨fs, e2, hf2⟩ := names_all h.1
    refine ⟨(m.1, fs) :: ms', ?_, fun x hx => ?_⟩
    · rw [e, List.map_cons]
      congr 1
      exact Prod.ext rfl e2
    · rcases List.mem_cons.mp hx with z | z
      · rw [z]; exact hf2
      · exact hf x z
theorem kd_dec {ns : List Str} : ∀ {X : List XKd}, (xfields (xmakes X)).all (inNames ns) = true → ∃ B : BookD, X = B.map kX ∧ ∀ m ∈ makesD B, ∀ f ∈ m.2, f ∈ ns
  | [], _ => ⟨[], rfl, fun _ h => (nomatch h)⟩
  | k :: r, h => by
    have e0 : xfields (xmakes (k :: r)) = xfields k.2 ++ xfields (xmakes r) := by
      unfold xfields xmakes
      rw [List.map_cons, List.flatten_cons, List.map_append, List.flatten_append]
    rw [e0, List.all_append, Bool.and_eq_true] at h
    obtain ⟨B, e, hf⟩ := kd_dec (X := r) h.2
    obtain ⟨ms, e2, hf2⟩ := mk_dec h.1
    refine ⟨(k.1, ms) :: B, ?_, fun m hm => ?_⟩
    · rw [e, List.map_cons]
      congr 1
      exact Prod.ext rfl e2
    · have e3 : makesD ((k.1, ms) :: B) = ms ++ makesD B := rfl
      rw [e3] at hm
      rcases List.mem_append.mp hm with z | z
      · exact hf2 m z
      · exact hf m z
theorem all_X {B : BookD} {ns : List Str} (h : ∀ m ∈ makesD B, ∀ f ∈ m.2, f ∈ ns) : (xfields (xmakes (B.map kX))).all (inNames ns) = true := by
  rw [kX_makes]
  refine List.all_eq_true.mpr fun t ht => ?_
  unfold xfields at ht
  obtain ⟨l, hl, htl⟩ := List.mem_flatten.mp ht
  obtain ⟨m, hm, rfl⟩ := List.mem_map.mp hl
  obtain ⟨m0, hm0, rfl⟩ := List.mem_map.mp hm
  obtain ⟨f, hf, rfl⟩ := List.mem_map.mp (show t ∈ m0.2.map TH.str from htl)
  exact decide_eq_true (h m0 hm0 f hf)
theorem wordS_num : wordS "num" = true := by decide +kernel
theorem due_book {X : List XKd} (hlo : 1 ≤ X.length) (hhi : X.length ≤ 6) (ok : XOk X) : bookT (.tup (X.map xkTH)) = (xfields (xmakes X)).all (inNames (("num" : Str) :: X.map (·.1))) := by
  cases hall : (xfields (xmakes X)).all (inNames (("num" : Str) :: X.map (·.1))) with
  | true =>
    obtain ⟨B, rfl, hf⟩ := kd_dec hall
    rw [kX_names] at hf
    have e : TH.tup ((B.map kX).map xkTH) = bTH B := by
      unfold bTH
      rw [List.map_map]
      congr 1
      exact List.map_congr_left fun k _ => (kTH_X k).symm
    rw [e]
    have nk := ok.nk
    rw [kX_names] at nk
    have nm := ok.nm
    rw [kX_makes, List.map_map] at nm
    rw [List.length_map] at hlo hhi
    have hkw : ∀ k ∈ B, wordS k.1 = true := fun k hk => (ok.ks (kX k) (List.mem_map.mpr ⟨k, hk, rfl⟩)).1
    refine book_yes ⟨hlo, hhi, fun k hk => ?_, nk, nm, hf⟩
    obtain ⟨h1, h2, h3, h4⟩ := ok.ks (kX k) (List.mem_map.mpr ⟨k, hk, rfl⟩)
    have h2 : 1 ≤ (k.2.map mX).length := h2
    have h3 : (k.2.map mX).length ≤ 6 := h3
    rw [List.length_map] at h2 h3
    refine ⟨h1, h2, h3, fun m hm => ?_⟩
    obtain ⟨h5, h6⟩ := h4 (mX m) (List.mem_map.mpr ⟨m, hm, rfl⟩)
    have h6 : (m.2.map TH.str).length ≤ 4 := h6
    rw [List.length_map] at h6
    refine ⟨h5, h6, fun f hfm => ?_⟩
    rcases List.mem_cons.mp (hf m (mem_makesD.mpr ⟨k, hk, hm⟩) f hfm) with z | z
    · rw [z]; exact wordS_num
    · unfold kindsD at z
      obtain ⟨k', hk', rfl⟩ := List.mem_map.mp z
      exact hkw k' hk'
  | false =>
    refine book_no fun B e okB => ?_
    have e : X.map xkTH = B.map kTH := by unfold bTH at e; injection e
    have := book_X e.symm
    subst this
    rw [kX_names, all_X okB.fs] at hall
    cases hall
theorem row_T {k : XKd} (h : wordS k.1 = true ∧ 1 ≤ k.2.length ∧ k.2.length ≤ 6 ∧ ∀ m ∈ k.2, wordS m.1 = true ∧ m.2.length ≤ 4) : rowT 1 6 (xkTH k) = true := by
  show (wordS k.1 && (decide (1 ≤ (k.2.map xmTH).length) && decide ((k.2.map xmTH).length ≤ 6))) = true
  rw [h.1, List.length_map, decide_eq_true h.2.1, decide_eq_true h.2.2.1]; rfl
theorem mrow_T {m : XMk} (h : wordS m.1 = true ∧ m.2.length ≤ 4) : rowT 0 4 (xmTH m) = true := by
  show (wordS m.1 && (decide (0 ≤ m.2.length) && decide (m.2.length ≤ 4))) = true
  rw [h.1, decide_eq_true (Nat.zero_le _), decide_eq_true h.2]; rfl
/-- a row of this form -/
theorem row_of {H : Hp} {lo hi : Nat} {v : V} {p : TH} (h : ThAt H v p) (hr : rowT lo hi p = true) : ∃ (z : Str) (ts : List TH) (a b : Addr) (us : List V), p = .tup [.str z, .tup ts] ∧ v = .ref a ∧ H a = some (.tup [.str z, .ref b]) ∧ H b = some (.tup us) ∧ ThsAt H us ts ∧ wordS z = true ∧ lo ≤ ts.length ∧ ts.length ≤ hi := by
  cases h with
  | num z => cases hr
  | bl z => cases hr
  | non => cases hr
  | str z => cases hr
  | @tup a us ts e hts =>
    match us, ts, hts, hr with
    | _, _, .cons hx (.cons (@ThAt.tup _ b vs fs e2 hfs) .nil), hr =>
      have hr : (wordT _ && (decide (lo ≤ fs.length) && decide (fs.length ≤ hi))) = true := hr
      rw [Bool.and_eq_true, Bool.and_eq_true] at hr
      cases hx with
      | str z => exact ⟨z, fs, a, b, vs, rfl, rfl, e, e2, hfs, hr.1, of_decide_eq_true hr.2.1, of_decide_eq_true hr.2.2⟩
      | num z => cases hr.1
      | bl z => cases hr.1
      | non => cases hr.1
      | tup _ _ => cases hr.1
    | _, _, .cons _ (.cons (.num _) .nil), hr => cases hr
    | _, _, .cons _ (.cons (.bl _) .nil), hr => cases hr
    | _, _, .cons _ (.cons .non .nil), hr => cases hr
    | _, _, .cons _ (.cons (.str _) .nil), hr => cases hr
    | _, _, .nil, hr => cases hr
    | _, _, .cons _ .nil, hr => cases hr
    | _, _, .cons _ (.cons hb (.cons _ _)), hr => cases hb <;> cases hr
theorem lay_parts {n : Nat} : ∀ {ts : List TH}, PyData.canLayAll0 (thDatas ts) = true → PyData.depthAll (thDatas ts) ≤ n → ∀ t ∈ ts, Lay n (thData t)
  | [], _, _, t, h => by cases h
  | x :: r, h1, h2, t, h => by
    rw [thDatas] at h1 h2
    simp only [PyData.canLayAll0, Bool.and_eq_true] at h1
    simp only [PyData.depthAll] at h2
    rcases List.mem_cons.mp h with e | e
    · rw [e]; exact ⟨h1.1, by omega⟩
    · exact lay_parts h1.2 (by omega) t e
theorem lay_tup {n : Nat} {ts : List TH} (h : Lay n (thData (.tup ts))) : ∀ t ∈ ts, Lay n (thData t) := by
  rw [thData] at h
  obtain ⟨h1, h2⟩ := h
  have h1 : PyData.canLayAll0 (thDatas ts) = true := by simpa [PyData.canLay0] using h1
  simp only [PyData.depth] at h2
  exact lay_parts h1 (by omega)

end
end My

set_option Elab.async false
set_option linter.all false
set_option maxRecDepth 100000
set_option maxHeartbeats 4000000
namespace My
open PySem PySem.Spec PyProof.Rows L2 Bk
section
variable {P : Program} {w : World} {K : PySem.W.Frag} {mg : Str → Option Value} {base : Heap} {t : Adr}
theorem lay_fields {n : Nat} {X : List XKd} (h : ∀ t ∈ X.map xkTH, Lay n (thData t)) : ∀ t ∈ xfields (xmakes X), Lay n (thData t) := by
  intro t ht
  unfold xfields at ht
  obtain ⟨l, hl, htl⟩ := List.mem_flatten.mp ht
  obtain ⟨m, hm, rfl⟩ := List.mem_map.mp hl
  unfold xmakes at hm
  obtain ⟨l2, hl2, hml⟩ := List.mem_flatten.mp hm
  obtain ⟨k, hk, rfl⟩ := List.mem_map.mp hl2
  have h1 := h (xkTH k) (List.mem_map.mpr ⟨k, hk, rfl⟩)
  have h2 := lay_tup h1 (.tup (k.2.map xmTH)) (by simp)
  have h3 := lay_tup h2 (xmTH m) (List.mem_map.mpr ⟨m, hml, rfl⟩)
  have h4 := lay_tup h3 (.tup m.2) (by simp)
  exact lay_tup h4 t htl
theorem any_names (ns : List Str) (t : TH) : ((ns.map PyData.str).any fun e => PyData.eqv e (thData t)) = inNames ns t := by
  rw [List.any_map]
  cases t with
  | str f =>
    show (ns.any fun n => PyData.eqv (.str n) (thData (.str f))) = decide (f ∈ ns)
    rw [thData]
    induction ns with
    | nil => rfl
    | cons n r ih =>
      rw [List.any_cons, ih]
      have e : PyData.eqv (.str n) (.str f) = decide (n = f) := by rw [Bool.eq_iff_iff]; simp [PyData.eqv]
      rw [e]
      by_cases h1 : n = f
      · rw [decide_eq_true h1, Bool.true_or]
        exact (decide_eq_true (by rw [h1]; exact List.mem_cons_self)).symm
      · by_cases h2 : f ∈ r
        · rw [decide_eq_false h1, decide_eq_true h2, decide_eq_true (List.mem_cons_of_mem _ h2)]; rfl
        · rw [decide_eq_false h1, decide_eq_false h2, decide_eq_false (fun z => (List.mem_cons.mp z).elim (fun e => h1 e.symm) h2)]; rfl
  | num z => rw [thData]; show (ns.any fun n => PyData.eqv (.str n) (.int z)) = false; rw [List.any_eq_false]; intro n _; simp [PyData.eqv]
  | bl z => rw [thData]; show (ns.any fun n => PyData.eqv (.str n) (.bool z)) = false; rw [List.any_eq_false]; intro n _; simp [PyData.eqv]
  | non => rw [thData]; show (ns.any fun n => PyData.eqv (.str n) .none) = false; rw [List.any_eq_false]; intro n _; simp [PyData.eqv]
  | tup z => rw [thData]; show (ns.any fun n => PyData.eqv (.str n) (.tuple (thDatas z))) = false; rw [List.any_eq_false]; intro n _; simp [PyData.eqv]
theorem dp_strs {K : PySem.W.Frag} {H : Hp} : ∀ ns : List Str, DpAll K H (ns.map V.str) (ns.map PyData.str)
  | [] => .nil
  | n :: r => .cons (.str n) (dp_strs r)
theorem low_range : ∀ c ∈ letters.cps.toList, 97 ≤ c ∧ c ≤ 122 := by decide +kernel
theorem word_S {z : Str} (h : wordS z = true) : Nm.Word z := by
  unfold wordS at h
  rw [Bool.and_eq_true, Bool.and_eq_true] at h
  exact ⟨of_decide_eq_true h.1.1, of_decide_eq_true h.1.2, fun c hc => low_range c (of_decide_eq_true (List.all_eq_true.mp h.2 c hc))⟩
theorem strOk_wordS {z : Str} (h : wordS z = true) : PyData.strOk z = true := Bk.strOk_word (word_S h)
def spLDue : Sp := fun vs H Q _ => ∃ v p, vs = [v] ∧ ThAt H v p ∧ Sm p ∧ Lay 60 (thData p) ∧ ∀ H', Same H H' → Q (.bl (bookT p)) H'
theorem ok_law_due (T : Txt K mg t) : FnOk P w K mg base CX0 5 t.f_law_due t.d_law_due ["thing"] spLDue := by
  have G_law_row : FnOk P w K mg base CX0 3 t.f_law_row t.d_law_row ["thing", "least", "most"] spLRow := ok_law_row T
  refine T.F_law_due.ok sc_law_due (fun vs H Q E h => ?_) (fun cdv A outer s H vs Q E hr h => ?_)
  · obtain ⟨_, _, rfl, _⟩ := h
    rfl
  · obtain ⟨v, p, rfl, th, hsm, hlay, q⟩ := h
    refine ⟨_, (pss_cons (ps_if (PW.pt (pw_or (pt_not (pt_val (pe_callB call_isi g_law_due_isinstance T.z_isinstance bt_isinstance (pa_cons (pe_var (i := 0) rfl v_law_due_thing db_thing cd_thing) (pa_cons (pe_bltn (v := V.ty "tuple") g_law_due_tuple T.z_tuple bt_tuple rfl nn_tuple db_tuple) pa_nil)) nn_isinstance db_isinstance))) (pw_or1 (pt_not (pt_chain op_le op_le pe_int (pe_callB call_len_seq g_law_due_len T.z_len bt_len (pa_cons (pe_var (i := 0) rfl v_law_due_thing db_thing cd_thing) pa_nil) nn_len db_len) pe_int))))) (pss_one (ps_ret pe_bl)) pss_nil)
  (pss_cons (ps_set (i := 1) sc_law_due.nd rfl l_law_due_kinds (pe_lst (pa_cons pe_str pa_nil)))
  (pss_cons (ps_set (i := 2) sc_law_due.nd rfl l_law_due_makes (pe_lst pa_nil))
  (pss_cons (ps_set (i := 3) sc_law_due.nd rfl l_law_due_fields (pe_lst pa_nil))
  (pss_cons (ps_for PassesOwn.never rfl (pi_tup (pe_var (i := 0) rfl v_law_due_thing db_thing cd_thing)) (pg_name (i := 4) sc_law_due.nd rfl l_law_due_row (.inl rfl)) (pss_cons (ps_if (PW.pt (pw_or (pt_not (pt_val (pe_call G_law_row (hr.mono (by omega)) g_law_due_law_row T.m_law_row T.F_law_row.kp T.b_law_row .nil pass0 (pa_cons (pe_var (i := 4) rfl v_law_due_row db_row cd_row) (pa_cons pe_int (pa_cons pe_int pa_nil))) db_law_row))) (pw_or1 (pt_cmpR op_in_seq (pe_ix ix_tup (pe_var (i := 4) rfl v_law_due_row db_row cd_row) pe_int (fun _ _ => rfl)) (pe_var (i := 1) rfl v_law_due_kinds db_kinds cd_kinds) (by rfl))))) (pss_one (ps_ret pe_bl)) pss_nil)
  (pss_cons (ps_expr (pe_bm PySem.F.plainAttrs_list PySem.F.slot_list_append PySem.F.type_list_append mt_append (pe_var (i := 1) rfl v_law_due_kinds db_kinds cd_kinds) (pa_cons (pe_ix ix_tup (pe_var (i := 4) rfl v_law_due_row db_row cd_row) pe_int (fun _ _ => rfl)) pa_nil)))
  (pss_one (ps_for PassesOwn.never rfl (pi_tup (pe_ix ix_tup (pe_var (i := 4) rfl v_law_due_row db_row cd_row) pe_int (fun _ _ => rfl))) (pg_name (i := 5) sc_law_due.nd rfl l_law_due_make (.inl rfl)) (pss_cons (ps_if (PW.pt (pw_or (pt_not (pt_val (pe_call G_law_row (hr.mono (by omega)) g_law_due_law_row T.m_law_row T.F_law_row.kp T.b_law_row .nil pass0 (pa_cons (pe_var (i := 5) rfl v_law_due_make db_make cd_make) (pa_cons pe_int (pa_cons pe_int pa_nil))) db_law_row))) (pw_or1 (pt_cmpR op_in_seq (pe_ix ix_tup (pe_var (i := 5) rfl v_law_due_make db_make cd_make) pe_int (fun _ _ => rfl)) (pe_var (i := 2) rfl v_law_due_makes db_makes cd_makes) (by rfl))))) (pss_one (ps_ret pe_bl)) pss_nil)
  (pss_cons (ps_expr (pe_bm PySem.F.plainAttrs_list PySem.F.slot_list_append PySem.F.type_list_append mt_append (pe_var (i := 2) rfl v_law_due_makes db_makes cd_makes) (pa_cons (pe_ix ix_tup (pe_var (i := 5) rfl v_law_due_make db_make cd_make) pe_int (fun _ _ => rfl)) pa_nil)))
  (pss_one (ps_expr (pe_bm PySem.F.plainAttrs_list PySem.F.slot_list_extend PySem.F.type_list_extend mt_extendT (pe_var (i := 3) rfl v_law_due_fields db_fields cd_fields) (pa_cons (pe_ix ix_tup (pe_var (i := 5) rfl v_law_due_make db_make cd_make) pe_int (fun _ _ => rfl)) pa_nil)))))))))))
  (pss_one (ps_ret (pe_cmpR op_eq (pe_callB call_len_seq g_law_due_len T.z_len bt_len (pa_cons (pe_lc (own := [("field", 6)]) (by rfl) sc_law_due.nd (pi_list (pe_var (i := 3) rfl v_law_due_fields db_fields cd_fields)) (blkOk_by (own := [("field", 6)]) (N := ["thing", "kinds", "makes", "fields", "row", "make", "field"]) (sc := defScope s_law_due) (by decide +kernel)) (fun _ _ _ _ _ => (pg_name (i := 6) sc_law_due.nd rfl (by first | exact Or.inl rfl | exact Or.inr rfl))) (fun _ _ _ _ _ => (pts_one (pt_cmpR (op_notInD (K := K) rfl (hu65 hr)) (pv 6) (pv 1) (by rfl)))) (fun _ _ _ _ _ => (pv 6))) pa_nil) nn_len db_len) pe_int (nomark _))))))))), ?_⟩
    have notT : ∀ {p : TH}, (∀ ts, p ≠ .tup ts) → bookT p = false := fun h => book_no fun B e _ => h _ e
    cases th with
    | num i =>
      have q := q H (Same.refl _)
      rw [notT fun ts e => by cases e] at q
      exact ⟨_, rfl, _, _, _, _, rfl, .int i, kit_ty k_int_tuple, _, rfl, iteT (iteT q)⟩
    | bl b =>
      have q := q H (Same.refl _)
      rw [notT fun ts e => by cases e] at q
      exact ⟨_, rfl, _, _, _, _, rfl, .bl b, kit_ty k_bool_tuple, _, rfl, iteT (iteT q)⟩
    | non =>
      have q := q H (Same.refl _)
      rw [notT fun ts e => by cases e] at q
      exact ⟨_, rfl, _, _, _, _, rfl, .non, kit_ty k_non_tuple, _, rfl, iteT (iteT q)⟩
    | str z =>
      have q := q H (Same.refl _)
      rw [notT fun ts e => by cases e] at q
      exact ⟨_, rfl, _, _, _, _, rfl, .str z, kit_ty k_str_tuple, _, rfl, iteT (iteT q)⟩
    | @tup a us ts e hts =>
      have hul := hts.length
      rw [Sm] at hsm
      have hlp := lay_tup hlay
      refine ⟨_, rfl, _, _, _, _, rfl, .tup e, kit_ty k_tuple_tuple, _, rfl, iteF ?_⟩
      have lenF : ¬ (1 ≤ ts.length ∧ ts.length ≤ 6) → bookT (.tup ts) = false := fun h => book_no fun B e ok => h (by
        have e : ts = B.map kTH := by unfold bTH at e; injection e
        rw [e, List.length_map]; exact ⟨ok.lo, ok.hi⟩)
      refine ⟨_, rfl, a, us, rfl, .inr (SqT.of e), _, _, rfl, rfl, _, rfl, ite2 (fun h1 => ?_) (fun h1 => ?_)⟩
      · have h1' : 1 ≤ ts.length := by have := of_decide_eq_true h1; omega
        refine ⟨_, _, rfl, rfl, _, rfl, ?_⟩
        by_cases h6 : us.length ≤ 6
        · refine (if_neg (by rw [decide_eq_true (show ((us.length : Int) ≤ 6) by omega)]; decide)).mpr ?_
          have hhi : ts.length ≤ 6 := by omega
          -- lists
          refine ⟨by show 1 ≤ sizeLine; decide, fun K1 hK1 => ?_⟩
          have s1 : Same H (upd H K1 (.lst [.str "num"])) := Same.new (Same.refl _) hK1
          have e1 : upd H K1 (.lst [.str "num"]) K1 = some (.lst ([("num" : Str)].map V.str)) := upd_same
          generalize upd H K1 (.lst [.str "num"]) = H1 at s1 e1
          refine ⟨by show 0 ≤ sizeLine; decide, fun Mk hMk => ?_⟩
          have s2 : Same H1 (upd H1 Mk (.lst [])) := Same.new (Same.refl _) hMk
          have e2 : upd H1 Mk (.lst []) Mk = some (.lst []) := upd_same
          have n1 : K1 ≠ Mk := ne_of_none e1 hMk
          generalize upd H1 Mk (.lst []) = H2 at s2 e2
          refine ⟨by show 0 ≤ sizeLine; decide, fun Fl hFl => ?_⟩
          have s3 : Same H2 (upd H2 Fl (.lst [])) := Same.new (Same.refl _) hFl
          have e3 : upd H2 Fl (.lst []) Fl = some (.lst []) := upd_same
          have n2 : Mk ≠ Fl := ne_of_none e2 hFl
          have n3 : K1 ≠ Fl := ne_of_none (s2 _ _ e1) hFl
          generalize upd H2 Fl (.lst []) = H3 at s3 e3
          have s03 := (s1.trans s2).trans s3
          have fK : H K1 = none := hK1
          have fM : H Mk = none := s1.free hMk
          have fF : H Fl = none := (s1.trans s2).free hFl
          refine ⟨_, rfl, a, rfl, ⟨_, SqT.of (s03 _ _ e)⟩, for_tup (K := K) (a := a) (xs := us) (fun i σ H' => Same H H' ∧ (∃ w : Nat → Option V, σ = [some (.ref a), some (.ref K1), some (.ref Mk), some (.ref Fl), w 4, w 5, w 6]) ∧ ∃ (X : List XKd) (fus : List V), ts.take i = X.map xkTH ∧ XOk X ∧ H' K1 = some (.lst ((("num" : Str) :: X.map (·.1)).map V.str)) ∧ H' Mk = some (.lst (((xmakes X).map (·.1)).map V.str)) ∧ H' Fl = some (.lst fus) ∧ ThsAt H' fus (xfields (xmakes X)) ∧ (xmakes X).length ≤ 6 * i ∧ fus.length ≤ 24 * i)
            ⟨s03, ⟨fun _ => none, rfl⟩, [], [], by simp, ⟨fun _ z => (nomatch z), by decide +kernel, by decide +kernel⟩, (s2.trans s3) _ _ e1, s3 _ _ e2, e3, .nil, Nat.zero_le _, Nat.zero_le _⟩ (fun i σ H' _ ⟨s4, _⟩ => SqT.of (s4 _ _ e)) ?_ ?_⟩
          · rintro i rv σ H4 hrv ⟨s4, ⟨w4, rfl⟩, X, fus, hX, okX, hK4, hM4, hF4, hfu, hml, hfl⟩
            obtain ⟨rp, hri, hrx⟩ := hts.get hrv
            obtain ⟨hi, er⟩ := List.getElem?_eq_some_iff.mp hri
            have hrm := List.mem_of_getElem? hri
            have hi6 : i < 6 := by omega
            have hXl : X.length = i := by
              have := congrArg List.length hX
              rw [List.length_take, List.length_map] at this
              omega
            -- what a book would tell
            have bk : ∀ B, TH.tup ts = bTH B → OkB B → ∃ k ∈ B, rp = xkTH (kX k) ∧ X ++ [kX k] = (B.take (i + 1)).map kX := fun B eB ok => by
              have eB : ts = B.map kTH := by unfold bTH at eB; injection eB
              have hiB : i < B.length := by rw [eB, List.length_map] at hi; exact hi
              have e1 : rp = kTH B[i] := by rw [← er]; simp [eB]
              have e2 : X = (B.take i).map kX := book_X (by rw [← hX, eB, List.map_take])
              refine ⟨B[i], List.getElem_mem hiB, by rw [e1, kTH_X], ?_⟩
              rw [List.take_succ_eq_append_getElem hiB, List.map_append, ← e2]; rfl
            refine ⟨_, rfl, rv, rp, 1, 6, rfl, hrx.keep s4.keepT, sms_mem hsm.2 rp hrm, fun H5 s5 => ?_⟩
            have s05 := s4.trans s5
            have nd_of : ∀ B, TH.tup ts = bTH B → OkB B → ∀ k ∈ B, X ++ [kX k] = (B.take (i + 1)).map kX → (("num" : Str) :: (X ++ [kX k]).map (·.1)).Nodup ∧ ((xmakes (X ++ [kX k])).map (·.1)).Nodup := fun B eB ok k hk eX => by
              have h := okB_X ok
              have esplit : B.map kX = (B.take (i + 1)).map kX ++ (B.drop (i + 1)).map kX := by rw [← List.map_append, List.take_append_drop]
              have h1 := h.nk
              have h2 := h.nm
              rw [esplit, ← eX] at h1 h2
              constructor
              · refine h1.sublist (List.Sublist.cons₂ _ ?_)
                rw [List.map_append (l₁ := X ++ [kX k])]
                exact List.sublist_append_left _ _
              · have e2 : xmakes ((X ++ [kX k]) ++ (B.drop (i + 1)).map kX) = xmakes (X ++ [kX k]) ++ xmakes ((B.drop (i + 1)).map kX) := by
                  unfold xmakes
                  rw [List.map_append, List.flatten_append]
                rw [e2, List.map_append] at h2
                exact h2.sublist (List.sublist_append_left _ _)
            have hK5 := s5 _ _ hK4
            have hM5 := s5 _ _ hM4
            have hF5 := s5 _ _ hF4
            cases hR : rowT 1 6 rp with
            | false =>
              have q := q H5 s05
              rw [book_no fun B eB ok => by
                obtain ⟨k, hk, ek, _⟩ := bk B eB ok
                rw [ek, row_T ((okB_X ok).ks (kX k) (List.mem_map.mpr ⟨k, hk, rfl⟩))] at hR
                cases hR] at q
              exact ⟨_, rfl, iteT (iteT q)⟩
            | true =>
              obtain ⟨z, mts, ra, rb, mus, erp, erv, hra, hrb, hmus, hz, hl1, hl6⟩ := row_of hrx hR
              subst erp erv
              have hmul := hmus.length
              refine ⟨_, rfl, iteF ?_⟩
              refine ⟨_, rfl, ra, _, 0, .str z, rfl, rfl, SqT.of (s05 _ _ hra), rfl, _, rfl, K1, _, rfl, .inl (SqL.of hK5), rfl, flat_strB _, _, rfl, ?_⟩
              rw [inV_strB]
              by_cases hzin : z ∈ ("num" : Str) :: X.map (·.1)
              · have q := q H5 s05
                rw [book_no fun B eB ok => by
                  obtain ⟨k, hk, ek, eX⟩ := bk B eB ok
                  have hkz : k.1 = z := by
                    unfold xkTH at ek
                    injection ek with ek
                    injection ek with ek _
                    injection ek with ek
                    exact ek.symm
                  have h := (nd_of B eB ok k hk eX).1
                  rw [List.map_append, ← List.cons_append, List.nodup_append] at h
                  exact h.2.2 z hzin z (by rw [← hkz]; exact List.mem_cons_self) rfl] at q
                exact (if_pos (decide_eq_true hzin)).mpr q
              · refine (if_neg (by rw [decide_eq_false hzin]; decide)).mpr ?_
                refine ⟨_, rfl, .inl ⟨rfl, _, SqL.of hK5⟩, _, rfl, ra, _, 0, .str z, rfl, rfl, SqT.of (s05 _ _ hra), rfl, K1, _, _, rfl, rfl, hK5, small1000 (by rw [List.length_map, List.length_cons, List.length_map]; omega), ?_⟩
                have kT6 : KeepT H5 (upd H5 K1 (.lst ((("num" : Str) :: X.map (·.1)).map V.str ++ [.str z]))) := keepT_lst hK5
                have hK6 : upd H5 K1 (.lst ((("num" : Str) :: X.map (·.1)).map V.str ++ [.str z])) K1 = some (.lst ((("num" : Str) :: (X.map (·.1) ++ [z])).map V.str)) := by rw [upd_same]; simp
                have hM6 : upd H5 K1 (.lst ((("num" : Str) :: X.map (·.1)).map V.str ++ [.str z])) Mk = some (.lst (((xmakes X).map (·.1)).map V.str)) := by rw [upd_ne n1.symm]; exact hM5
                have hF6 : upd H5 K1 (.lst ((("num" : Str) :: X.map (·.1)).map V.str ++ [.str z])) Fl = some (.lst fus) := by rw [upd_ne n3.symm]; exact hF5
                have s06 : Same H (upd H5 K1 (.lst ((("num" : Str) :: X.map (·.1)).map V.str ++ [.str z]))) := same_upd s05 fK
                have hfu6 := (hfu.keep s5.keepT).keep kT6
                generalize upd H5 K1 (.lst ((("num" : Str) :: X.map (·.1)).map V.str ++ [.str z])) = H6 at kT6 hK6 hM6 hF6 s06 hfu6
                have hsm2 := sms_mem hsm.2 _ hrm
                rw [Sm] at hsm2
                have hsm3 := sms_mem hsm2.2 (.tup mts) (by simp)
                rw [Sm] at hsm3
                refine ⟨_, rfl, ra, _, 1, .ref rb, rfl, rfl, SqT.of (s06 _ _ hra), rfl, rb, rfl, ⟨_, SqT.of (s06 _ _ hrb)⟩, for_tup (K := K) (a := rb) (xs := mus) (fun j σ H' => Same H H' ∧ (∃ w : Nat → Option V, σ = [some (.ref a), some (.ref K1), some (.ref Mk), some (.ref Fl), some (.ref ra), w 5, w 6]) ∧ ∃ (ms : List XMk) (fus : List V), mts.take j = ms.map xmTH ∧ (∀ m ∈ ms, wordS m.1 = true ∧ m.2.length ≤ 4) ∧ ((xmakes X ++ ms).map (·.1)).Nodup ∧ H' K1 = some (.lst ((("num" : Str) :: (X.map (·.1) ++ [z])).map V.str)) ∧ H' Mk = some (.lst (((xmakes X ++ ms).map (·.1)).map V.str)) ∧ H' Fl = some (.lst fus) ∧ ThsAt H' fus (xfields (xmakes X ++ ms)) ∧ fus.length ≤ 24 * i + 4 * j)
                  ⟨s06, ⟨w4, rfl⟩, [], fus, by simp, fun _ h => (nomatch h), by rw [List.append_nil]; exact okX.nm, hK6, by rw [List.append_nil]; exact hM6, hF6, by rw [List.append_nil]; exact hfu6, by omega⟩ (fun j σ H' _ ⟨s7, _⟩ => SqT.of (s7 _ _ hrb)) ?_ ?_⟩
                · rintro j mv σ H7 hmv ⟨s7, ⟨w7, rfl⟩, ms, fus7, hms, hmw, hnd7, hK7, hM7, hF7, hfu7, hfl7⟩
                  obtain ⟨mp, hmj, hmx⟩ := hmus.get hmv
                  obtain ⟨hj, em⟩ := List.getElem?_eq_some_iff.mp hmj
                  have hj6 : j < 6 := by omega
                  have hmsl : ms.length = j := by
                    have := congrArg List.length hms
                    rw [List.length_take, List.length_map] at this
                    omega
                  -- what a book would tell
                  have bk2 : ∀ B, TH.tup ts = bTH B → OkB B → ∃ k ∈ B, ∃ m0 ∈ (kX k).2, mp = xmTH m0 ∧ (kX k).2.take (j + 1) = ms ++ [m0] ∧ X ++ [kX k] = (B.take (i + 1)).map kX := fun B eB ok => by
                    obtain ⟨k, hk, ek, eX⟩ := bk B eB ok
                    have e1 : mts = (kX k).2.map xmTH := by
                      unfold xkTH at ek
                      injection ek with ek
                      injection ek with _ ek
                      injection ek with ek _
                      injection ek
                    have hjk : j < (kX k).2.length := by rw [e1, List.length_map] at hj; exact hj
                    refine ⟨k, hk, (kX k).2[j], List.getElem_mem hjk, by rw [← em]; simp [e1], ?_, eX⟩
                    rw [List.take_succ_eq_append_getElem hjk]
                    congr 1
                    exact map_inj' (fun a b e => xmTH_inj e) (by rw [List.map_take, ← e1, hms])
                  refine ⟨_, rfl, mv, mp, 0, 4, rfl, hmx.keep s7.keepT, sms_mem hsm3.2 mp (List.mem_of_getElem? hmj), fun H8 s8 => ?_⟩
                  have s08 := s7.trans s8
                  have hK8 := s8 _ _ hK7
                  have hM8 := s8 _ _ hM7
                  have hF8 := s8 _ _ hF7
                  have hml7 : (xmakes X ++ ms).length ≤ 6 * i + j := by rw [List.length_append]; omega
                  cases hR2 : rowT 0 4 mp with
                  | false =>
                    have q := q H8 s08
                    rw [book_no fun B eB ok => by
                      obtain ⟨k, hk, m0, hm0, emp, _, _⟩ := bk2 B eB ok
                      rw [emp, mrow_T (((okB_X ok).ks (kX k) (List.mem_map.mpr ⟨k, hk, rfl⟩)).2.2.2 m0 hm0)] at hR2
                      cases hR2] at q
                    exact ⟨_, rfl, iteT (iteT q)⟩
                  | true =>
                    obtain ⟨y, fts, ma, mb, fvs, emp, emv, hma, hmb, hfvs, hy, _, hf4⟩ := row_of hmx hR2
                    subst emp emv
                    have hfvl := hfvs.length
                    refine ⟨_, rfl, iteF ?_⟩
                    refine ⟨_, rfl, ma, _, 0, .str y, rfl, rfl, SqT.of (s08 _ _ hma), rfl, _, rfl, Mk, _, rfl, .inl (SqL.of hM8), rfl, flat_strB _, _, rfl, ?_⟩
                    rw [inV_strB]
                    by_cases hyin : y ∈ (xmakes X ++ ms).map (·.1)
                    · have q := q H8 s08
                      rw [book_no fun B eB ok => by
                        obtain ⟨k, hk, m0, hm0, emp, etk, eX⟩ := bk2 B eB ok
                        have hmy : m0.1 = y := by
                          unfold xmTH at emp
                          injection emp with emp
                          injection emp with emp _
                          injection emp with emp
                          exact emp.symm
                        have h := (nd_of B eB ok k hk eX).2
                        have exk : xmakes (X ++ [kX k]) = (xmakes X ++ (ms ++ [m0])) ++ (kX k).2.drop (j + 1) := by
                          unfold xmakes
                          rw [List.map_append, List.flatten_append, ← etk, List.append_assoc, List.take_append_drop]; simp
                        rw [exk, List.map_append, ← List.append_assoc, List.map_append (l₂ := [m0])] at h
                        have h := h.sublist (List.sublist_append_left _ _)
                        rw [List.nodup_append] at h
                        exact h.2.2 y hyin y (by rw [← hmy]; exact List.mem_cons_self) rfl] at q
                      exact (if_pos (decide_eq_true hyin)).mpr q
                    · refine (if_neg (by rw [decide_eq_false hyin]; decide)).mpr ?_
                      refine ⟨_, rfl, .inl ⟨rfl, _, SqL.of hM8⟩, _, rfl, ma, _, 0, .str y, rfl, rfl, SqT.of (s08 _ _ hma), rfl, Mk, _, _, rfl, rfl, hM8, small1000 (by rw [List.length_map, List.length_map]; omega), ?_⟩
                      have kT9 : KeepT H8 (upd H8 Mk (.lst (((xmakes X ++ ms).map (·.1)).map V.str ++ [.str y]))) := keepT_lst hM8
                      have hM9 : upd H8 Mk (.lst (((xmakes X ++ ms).map (·.1)).map V.str ++ [.str y])) Mk = some (.lst (((xmakes X ++ (ms ++ [(y, fts)])).map (·.1)).map V.str)) := by rw [upd_same, ← List.append_assoc, List.map_append (l₂ := [(y, fts)]), List.map_append (l₂ := [(y, fts)].map (·.1))]; rfl
                      have hK9 : upd H8 Mk (.lst (((xmakes X ++ ms).map (·.1)).map V.str ++ [.str y])) K1 = some (.lst ((("num" : Str) :: (X.map (·.1) ++ [z])).map V.str)) := by rw [upd_ne n1]; exact hK8
                      have hF9 : upd H8 Mk (.lst (((xmakes X ++ ms).map (·.1)).map V.str ++ [.str y])) Fl = some (.lst fus7) := by rw [upd_ne n2.symm]; exact hF8
                      have s09 : Same H (upd H8 Mk (.lst (((xmakes X ++ ms).map (·.1)).map V.str ++ [.str y]))) := same_upd s08 fM
                      have hfu9 := (hfu7.keep s8.keepT).keep kT9
                      generalize upd H8 Mk (.lst (((xmakes X ++ ms).map (·.1)).map V.str ++ [.str y])) = H9 at kT9 hM9 hK9 hF9 s09 hfu9
                      refine ⟨_, rfl, .inl ⟨rfl, _, SqL.of hF9⟩, _, rfl, ma, _, 1, .ref mb, rfl, rfl, SqT.of (s09 _ _ hma), rfl, Fl, mb, fus7, fvs, rfl, rfl, hF9, SqT.of (s09 _ _ hmb), Nat.le_of_lt (small1000 (by omega)), ?_⟩
                      have kT10 : KeepT H9 (upd H9 Fl (.lst (fus7 ++ fvs))) := keepT_lst hF9
                      refine ⟨same_upd s09 fF, ⟨fun n => [none, none, none, none, none, some (.ref ma), w7 6].getD n none, rfl⟩, ms ++ [(y, fts)], fus7 ++ fvs, ?_, fun m hm => ?_, ?_, by rw [upd_ne n3]; exact hK9, by rw [upd_ne n2]; exact hM9, upd_same, ?_, by rw [List.length_append]; omega⟩
                      · rw [List.take_succ_eq_append_getElem hj, em, hms, List.map_append]; rfl
                      · rcases List.mem_append.mp hm with h | h
                        · exact hmw m h
                        · rw [List.mem_singleton.mp h]; exact ⟨hy, hf4⟩
                      · rw [← List.append_assoc, List.map_append, List.nodup_append]
                        refine ⟨hnd7, by simp, fun x hx y' hy' => ?_⟩
                        rw [List.mem_singleton.mp (show y' ∈ [y] from hy')]
                        exact fun e => hyin (e ▸ hx)
                      · have ef : xfields (xmakes X ++ (ms ++ [(y, fts)])) = xfields (xmakes X ++ ms) ++ fts := by
                          rw [← List.append_assoc]
                          unfold xfields
                          rw [List.map_append (l₂ := [(y, fts)]), List.flatten_append]; simp
                        rw [ef]
                        exact (hfu9.keep kT10).append ((hfvs.keep s09.keepT).keep kT10)
                · rintro σ H7 ⟨s7, ⟨w7, rfl⟩, ms, fus7, hms, hmw, hnd7, hK7, hM7, hF7, hfu7, hfl7⟩
                  rw [hmul, List.take_length] at hms
                  have hmsl : ms.length = mts.length := by rw [hms, List.length_map]
                  have exm : xmakes (X ++ [(z, ms)]) = xmakes X ++ ms := by unfold xmakes; rw [List.map_append, List.flatten_append]; simp
                  refine ⟨s7, ⟨fun n => [none, none, none, none, some (.ref ra), w7 5, w7 6].getD n none, rfl⟩, X ++ [(z, ms)], fus7, ?_, ⟨fun k hk => ?_, ?_, by rw [exm]; exact hnd7⟩, by rw [List.map_append]; exact hK7, by rw [exm]; exact hM7, hF7, by rw [exm]; exact hfu7, by rw [exm, List.length_append]; omega, by omega⟩
                  · rw [List.take_succ_eq_append_getElem hi, er, hX, List.map_append, hms]; rfl
                  · rcases List.mem_append.mp hk with h | h
                    · exact okX.ks k h
                    · rw [List.mem_singleton.mp h]
                      exact ⟨hz, by show 1 ≤ ms.length; omega, by show ms.length ≤ 6; omega, hmw⟩
                  · rw [List.map_append, ← List.cons_append, List.nodup_append]
                    refine ⟨okX.nk, by simp, fun x hx y hy => ?_⟩
                    rw [List.mem_singleton.mp (show y ∈ [z] from hy)]
                    exact fun e => hzin (e ▸ hx)
          · rintro σ H4 ⟨s4, ⟨w4, rfl⟩, X, fus, hX, okX, hK4, hM4, hF4, hfu, hml, hfl⟩
            rw [hul, List.take_length] at hX
            subst hX
            rw [List.length_map] at h1' hhi
            have hXl : us.length = X.length := by rw [hul, List.length_map]
            have hful := hfu.length
            have hlf := lay_fields (X := X) hlp
            have hnsS : ∀ e ∈ (("num" : Str) :: X.map (·.1)).map PyData.str, SeqAt.shaped e = true := fun e he => by
              obtain ⟨n, hn, rfl⟩ := List.mem_map.mp he
              refine Lay.shaped (n := 0) (.str ?_) (by decide)
              rcases List.mem_cons.mp hn with z | z
              · rw [z]; exact strOk_wordS wordS_num
              · obtain ⟨k, hk, rfl⟩ := List.mem_map.mp z
                exact strOk_wordS (okX.ks k hk).1
            refine ⟨_, rfl, Fl, rfl, ⟨_, SqL.of hF4⟩, fun L hL => ?_⟩
            refine lc_list (K := K) (a := Fl) (xs := fus) (fun i H' => Same H4 H' ∧ ∃ acc, H' L = some (.lst acc) ∧ acc.length = (((xfields (xmakes X)).take i).filter fun t => !inNames (("num" : Str) :: X.map (·.1)) t).length) ⟨Same.new (Same.refl _) hL, [], upd_same, rfl⟩ (fun i H' _ ⟨s5, _⟩ => SqL.of (s5 _ _ hF4)) ?_ ?_
            · rintro i x H5 hx ⟨s5, acc, hacc, hal⟩
              obtain ⟨tt, htt, htx⟩ := hfu.get hx
              obtain ⟨hi, et⟩ := List.getElem?_eq_some_iff.mp htt
              have hii := (List.getElem?_eq_some_iff.mp hx).1
              have etk : (xfields (xmakes X)).take (i + 1) = (xfields (xmakes X)).take i ++ [tt] := by rw [List.take_succ_eq_append_getElem hi, et]
              have hacl : acc.length ≤ i := by
                rw [hal]
                refine Nat.le_trans (List.length_filter_le _ _) ?_
                rw [List.length_take]; omega
              refine ⟨rfl, _, rfl, _, rfl, thData tt, _, (htx.keep s5.keepT).dp, .lst (SqL.of (s5 _ _ hK4)) (dp_strs _), (hlf tt (List.mem_of_getElem? htt)).shaped (by decide), hnsS, _, rfl, ?_⟩
              rw [any_names]
              cases hin : inNames (("num" : Str) :: X.map (·.1)) tt with
              | true =>
                refine iteF ⟨s5, acc, hacc, ?_⟩
                rw [etk, List.filter_append, List.filter_cons_of_neg (by rw [hin]; decide), List.filter_nil, List.append_nil]
                exact hal
              | false =>
                refine iteT ⟨_, rfl, acc, hacc, small1000 (by omega), same_upd s5 hL, acc ++ [x], upd_same, ?_⟩
                rw [etk, List.filter_append, List.filter_cons_of_pos (by rw [hin]; decide), List.length_append, List.length_append, hal]; rfl
            · rintro H5 ⟨s5, acc, hacc, hal⟩
              rw [hful, List.take_length] at hal
              refine ⟨L, acc, rfl, .inl (SqL.of hacc), rfl, ?_⟩
              have q := q H5 (s4.trans s5)
              rw [due_book h1' hhi okX] at q
              have e9 : decide (V.int (acc.length : Int) = V.int 0) = (xfields (xmakes X)).all (inNames (("num" : Str) :: X.map (·.1))) := by
                rw [hal]
                cases hall : (xfields (xmakes X)).all (inNames (("num" : Str) :: X.map (·.1))) with
                | true =>
                  have : ((xfields (xmakes X)).filter fun t => !inNames (("num" : Str) :: X.map (·.1)) t) = [] := List.filter_eq_nil_iff.mpr fun c hc => by rw [List.all_eq_true.mp hall c hc]; decide
                  rw [this]; rfl
                | false =>
                  refine decide_eq_false fun z' => ?_
                  have h0 : ((xfields (xmakes X)).filter fun t => !inNames (("num" : Str) :: X.map (·.1)) t).length = 0 := by injection z' with z'; omega
                  have h2 := List.filter_eq_nil_iff.mp (List.length_eq_zero_iff.mp h0)
                  have : (xfields (xmakes X)).all (inNames (("num" : Str) :: X.map (·.1))) = true := List.all_eq_true.mpr fun c hc => by
                    have := h2 c hc
                    cases hl : inNames (("num" : Str) :: X.map (·.1)) c with
                    | true => rfl
                    | false => rw [hl] at this; exact absurd rfl this
                  rw [hall] at this
                  cases this
              rw [e9]
              exact q
        · have q := q H (Same.refl _)
          rw [lenF (by omega)] at q
          exact (if_pos (by rw [decide_eq_false (show ¬ ((us.length : Int) ≤ 6) by omega)]; decide)).mpr q
      · have h1' : ¬ 1 ≤ ts.length := fun z => h1 (decide_eq_true (by omega))
        have q := q H (Same.refl _)
        rw [lenF (fun z => h1' z.1)] at q
        exact ⟨_, rfl, iteT q⟩

end
end My

set_option Elab.async false
set_option linter.all false
set_option maxRecDepth 100000
set_option maxHeartbeats 4000000
namespace My
open PySem PySem.Spec PyProof.Rows L2 Bk
section
variable {P : Program} {w : World} {K : PySem.W.Frag} {mg : Str → Option Value} {base : Heap} {t : Adr}
inductive NT where
  | th (t : TH)
  | lst (ns : List NT)
mutual
inductive NtAt (H : Hp) : V → NT → Prop
  | th {v : V} {t : TH} : ThAt H v t → NtAt H v (.th t)
  | lst {a : Addr} {vs : List V} {ns : List NT} : H a = some (.lst vs) → NtsAt H vs ns → NtAt H (.ref a) (.lst ns)
inductive NtsAt (H : Hp) : List V → List NT → Prop
  | nil : NtsAt H [] []
  | cons {v : V} {p : NT} {vs : List V} {ps : List NT} : NtAt H v p → NtsAt H vs ps → NtsAt H (v :: vs) (p :: ps)
end
mutual
theorem NtAt.same {H H' : Hp} (k : Same H H') : ∀ {v : V} {p : NT}, NtAt H v p → NtAt H' v p
  | _, _, .th h => .th (h.keep k.keepT)
  | _, _, .lst h t => .lst (k _ _ h) (NtsAt.same k t)
theorem NtsAt.same {H H' : Hp} (k : Same H H') : ∀ {vs : List V} {ps : List NT}, NtsAt H vs ps → NtsAt H' vs ps
  | _, _, .nil => .nil
  | _, _, .cons h t => .cons (NtAt.same k h) (NtsAt.same k t)
end
theorem NtsAt.length {H : Hp} : ∀ {vs : List V} {ps : List NT}, NtsAt H vs ps → vs.length = ps.length
  | _, _, .nil => rfl
  | _, _, .cons _ t => by rw [List.length_cons, List.length_cons, NtsAt.length t]
theorem NtsAt.get {H : Hp} : ∀ {vs : List V} {ps : List NT} {i : Nat} {x : V}, NtsAt H vs ps → vs[i]? = some x → ∃ p, ps[i]? = some p ∧ NtAt H x p
  | _, _, 0, _, .cons h _, e => by
    simp at e
    subst e
    exact ⟨_, rfl, h⟩
  | _, _, i + 1, x, .cons _ t, e => by
    obtain ⟨p, h1, h2⟩ := NtsAt.get (i := i) (x := x) t (by simpa using e)
    exact ⟨p, by simpa using h1, h2⟩
mutual
def shutD : NT → TH
  | .th t => t
  | .lst ns => .tup (shutDs ns)
def shutDs : List NT → List TH
  | [] => []
  | n :: r => shutD n :: shutDs r
end
theorem shutDs_map : ∀ ns : List NT, shutDs ns = ns.map shutD
  | [] => by rw [shutDs]; rfl
  | n :: r => by rw [shutDs, shutDs_map r]; rfl
/-- lists within one another, at most so deep, of bounded length -/
def NtOk : Nat → NT → Prop
  | 0, _ => False
  | _ + 1, .th _ => True
  | n + 1, .lst ns => ns.length ≤ 500 ∧ ∀ x ∈ ns, NtOk n x
theorem k_int_list : kitT "int" "list" = some false := by decide +kernel
theorem k_bool_list : kitT "bool" "list" = some false := by decide +kernel
theorem k_non_list : kitT "NoneType" "list" = some false := by decide +kernel
theorem k_tuple_list : kitT "tuple" "list" = some false := by decide +kernel
theorem k_str_list : kitT "str" "list" = some false := by decide +kernel
theorem k_list_list : kitT "list" "list" = some true := by decide +kernel
def spShut (n : Nat) : Sp := fun vs H Q _ => ∃ v nt, vs = [v] ∧ NtAt H v nt ∧ NtOk n nt ∧ ∀ u H', ThAt H' u (shutD nt) → Same H H' → Q u H'
theorem ok_law_shut (T : Txt K mg t) : ∀ n, FnOk P w K mg base CX0 (3 * n + 3) t.f_law_shut t.d_law_shut ["thing"] (spShut n)
  | 0 => by
    refine T.F_law_shut.ok sc_law_shut (fun vs H Q E h => ?_) (fun cdv A outer s H vs Q E hr h => ?_)
    · obtain ⟨_, _, rfl, _⟩ := h
      rfl
    · obtain ⟨_, nt, _, _, h, _⟩ := h
      cases nt <;> exact h.elim
  | n + 1 => by
    have G_law_shut : FnOk P w K mg base CX0 (3 * n + 3) t.f_law_shut t.d_law_shut ["thing"] (spShut n) := ok_law_shut T n
    refine T.F_law_shut.ok sc_law_shut (fun vs H Q E h => ?_) (fun cdv A outer s H vs Q E hr h => ?_)
    · obtain ⟨_, _, rfl, _⟩ := h
      rfl
    · obtain ⟨v, nt, rfl, hn, hok, q⟩ := h
      refine ⟨_, (pss_cons (ps_if (pt_val (pe_callB call_isi g_law_shut_isinstance T.z_isinstance bt_isinstance (pa_cons (pe_var (i := 0) rfl v_law_shut_thing db_thing cd_thing) (pa_cons (pe_bltn (v := V.ty "list") g_law_shut_list T.z_list bt_list rfl nn_list db_list) pa_nil)) nn_isinstance db_isinstance)) (pss_one (ps_ret (pe_callTy call_tuple_of g_law_shut_tuple T.z_tuple bt_tuple (pa_cons (pe_lc (own := [("one", 1)]) (by rfl) sc_law_shut.nd (pi_list (pe_var (i := 0) rfl v_law_shut_thing db_thing cd_thing)) (blkOk_by (own := [("one", 1)]) (N := ["thing", "one"]) (sc := defScope s_law_shut) (by decide +kernel)) (fun _ _ _ _ _ => (pg_name (i := 1) sc_law_shut.nd rfl (by first | exact Or.inl rfl | exact Or.inr rfl))) (fun _ _ _ _ _ => pts_nil) (fun _ _ _ _ _ => (pe_call G_law_shut (hr.mono (by omega)) rfl T.m_law_shut T.F_law_shut.kp T.b_law_shut .nil pass0 (pa_cons (pv 1) pa_nil) db_law_shut))) pa_nil) nn_tuple db_tuple))) pss_nil)
  (pss_one (ps_ret (pe_var (i := 0) rfl v_law_shut_thing db_thing cd_thing)))), ?_⟩
      cases hn with
      | th ht =>
        rw [shutD] at q
        have q2 := q v H ht (Same.refl _)
        cases ht with
        | num i => exact ⟨_, rfl, _, _, _, _, rfl, .int i, kit_ty k_int_list, _, rfl, iteF ⟨_, rfl, q2⟩⟩
        | bl b => exact ⟨_, rfl, _, _, _, _, rfl, .bl b, kit_ty k_bool_list, _, rfl, iteF ⟨_, rfl, q2⟩⟩
        | non => exact ⟨_, rfl, _, _, _, _, rfl, .non, kit_ty k_non_list, _, rfl, iteF ⟨_, rfl, q2⟩⟩
        | str z => exact ⟨_, rfl, _, _, _, _, rfl, .str z, kit_ty k_str_list, _, rfl, iteF ⟨_, rfl, q2⟩⟩
        | tup e _ => exact ⟨_, rfl, _, _, _, _, rfl, .tup e, kit_ty k_tuple_list, _, rfl, iteF ⟨_, rfl, q2⟩⟩
      | @lst a us ns ha hus =>
        have hul := hus.length
        have hok : ns.length ≤ 500 ∧ ∀ x ∈ ns, NtOk n x := hok
        rw [shutD, shutDs_map] at q
        refine ⟨_, rfl, _, _, _, _, rfl, .lst ha, kit_ty k_list_list, _, rfl, iteT ?_⟩
        refine ⟨_, rfl, a, rfl, ⟨_, SqL.of ha⟩, fun L hL => ?_⟩
        refine lc_list (K := K) (a := a) (xs := us) (fun i H' => Same H H' ∧ ∃ acc, H' L = some (.lst acc) ∧ ThsAt H' acc ((ns.take i).map shutD)) ⟨Same.new (Same.refl _) hL, [], upd_same, .nil⟩ (fun i H' _ ⟨s1, _⟩ => SqL.of (s1 _ _ ha)) ?_ ?_
        · rintro i x H1 hx ⟨s1, acc, hacc, hta⟩
          obtain ⟨p, hp, hxp⟩ := hus.get hx
          obtain ⟨hi, ep⟩ := List.getElem?_eq_some_iff.mp hp
          have hal := hta.length
          rw [List.length_map, List.length_take] at hal
          refine ⟨rfl, yes ⟨_, rfl, x, p, rfl, hxp.same s1, hok.2 p (List.mem_of_getElem? hp), fun u H2 hu s2 => ?_⟩⟩
          have hacc2 := s2 _ _ hacc
          have kT : KeepT H2 (upd H2 L (.lst (acc ++ [u]))) := keepT_lst hacc2
          refine ⟨_, hacc2, small1000 (by omega), same_upd (s1.trans s2) hL, acc ++ [u], upd_same, ?_⟩
          rw [List.take_succ_eq_append_getElem hi, ep, List.map_append]
          exact ((hta.keep s2.keepT).keep kT).append (.cons (hu.keep kT) .nil)
        · rintro H1 ⟨s1, acc, hacc, hta⟩
          rw [hul, List.take_length] at hta
          refine ⟨L, acc, rfl, .inl ⟨SqL.of hacc, fun d hd => ?_⟩⟩
          have s2 := Same.new (o := .tup acc) (Same.refl H1) hd
          exact q (.ref d) _ (.tup upd_same (hta.keep s2.keepT)) (s1.trans s2)

end
end My

set_option Elab.async false
set_option linter.all false
set_option maxRecDepth 100000
set_option maxHeartbeats 4000000
namespace My
open PySem PySem.Spec PyProof.Rows L2 Bk
section
variable {P : Program} {w : World} {K : PySem.W.Frag} {mg : Str → Option Value} {base : Heap} {t : Adr}
theorem letters_all : ∀ n : Nat, n < 26 → 97 + n ∈ letters.cps.toList := by decide +kernel
theorem wordS_of {z : Str} (h : Nm.Word z) : wordS z = true := by
  unfold wordS
  rw [decide_eq_true h.1, decide_eq_true h.2.1]
  simp only [Bool.true_and]
  refine List.all_eq_true.mpr fun c hc => ?_
  obtain ⟨h1, h2⟩ := h.2.2 c hc
  have := letters_all (c - 97) (by omega)
  rw [show 97 + (c - 97) = c by omega] at this
  exact decide_eq_true this
theorem okB_wf {B : BookD} (w : Wf B) : OkB B := by
  refine ⟨w.len1, w.len6, fun k hk => ⟨wordS_of (w.kw k.1 (List.mem_map.mpr ⟨k, hk, rfl⟩)), (w.ms k hk).1, (w.ms k hk).2, fun m hm => ?_⟩, List.nodup_cons.mpr ⟨w.knum, w.knd⟩, w.mnd, fun m hm f hf => ?_⟩
  · have hmm : m ∈ makesD B := mem_makesD.mpr ⟨k, hk, hm⟩
    refine ⟨wordS_of (w.mw m hmm), w.fs m hmm, fun f hf => ?_⟩
    rcases w.fk m hmm f hf with e | e
    · rw [e]; exact wordS_num
    · exact wordS_of (w.kw f e)
  · rcases w.fk m hm f hf with e | e
    · rw [e]; exact List.mem_cons_self
    · exact List.mem_cons_of_mem _ e
theorem strs_th {H : Hp} : ∀ fs : List Str, ThsAt H (fs.map V.str) (fs.map TH.str)
  | [] => .nil
  | f :: r => .cons (.str f) (strs_th r)
theorem make_th {H : Hp} {v : V} {m : MakeD} (h : MakeAt H v m) : ThAt H v (mTH m) := by
  obtain ⟨a, b, rfl, h1, h2⟩ := h
  exact .tup h1 (.cons (.str _) (.cons (.tup h2 (strs_th _)) .nil))
theorem makes_th {H : Hp} : ∀ {vs : List V} {ms : List MakeD}, Pd (MakeAt H) vs ms → ThsAt H vs (ms.map mTH)
  | _, _, .nil => .nil
  | _, _, .cons h t => .cons (make_th h) (makes_th t)
theorem kind_th {H : Hp} {v : V} {k : KindD} (h : KindAt H v k) : ThAt H v (kTH k) := by
  obtain ⟨a, b, vs, rfl, h1, h2, h3⟩ := h
  exact .tup h1 (.cons (.str _) (.cons (.tup h2 (makes_th h3)) .nil))
theorem kinds_th {H : Hp} : ∀ {vs : List V} {B : BookD}, Pd (KindAt H) vs B → ThsAt H vs (B.map kTH)
  | _, _, .nil => .nil
  | _, _, .cons h t => .cons (kind_th h) (kinds_th t)
theorem book_th {H : Hp} {v : V} {B : BookD} (h : BookAt H v B) : ThAt H v (bTH B) := by
  obtain ⟨a, vs, rfl, h1, h2⟩ := h
  exact .tup h1 (kinds_th h2)
theorem sms_of : ∀ {ts : List TH}, (∀ t ∈ ts, Sm t) → Sms ts
  | [], _ => by rw [Sms]; trivial
  | t :: r, h => by rw [Sms]; exact ⟨h t List.mem_cons_self, sms_of fun x hx => h x (List.mem_cons_of_mem _ hx)⟩
theorem sm_str {z : Str} (h : wordS z = true) : Sm (.str z) := by
  rw [Sm]
  unfold wordS at h
  rw [Bool.and_eq_true, Bool.and_eq_true] at h
  have := of_decide_eq_true h.1.2
  omega
theorem sm_make {m : MakeD} (h : MkOkB m) : Sm (mTH m) := by
  unfold mTH
  rw [Sm]
  refine ⟨by show 2 ≤ 1000; decide, sms_of fun t ht => ?_⟩
  simp only [List.mem_cons, List.not_mem_nil, or_false] at ht
  rcases ht with rfl | rfl
  · exact sm_str h.1
  · rw [Sm]
    refine ⟨by rw [List.length_map]; have := h.2.1; omega, sms_of fun t ht => ?_⟩
    obtain ⟨f, hf, rfl⟩ := List.mem_map.mp ht
    exact sm_str (h.2.2 f hf)
theorem sm_kind {k : KindD} (h : KdOkB k) : Sm (kTH k) := by
  unfold kTH
  rw [Sm]
  refine ⟨by show 2 ≤ 1000; decide, sms_of fun t ht => ?_⟩
  simp only [List.mem_cons, List.not_mem_nil, or_false] at ht
  rcases ht with rfl | rfl
  · exact sm_str h.1
  · rw [Sm]
    refine ⟨by rw [List.length_map]; have := h.2.2.1; omega, sms_of fun t ht => ?_⟩
    obtain ⟨m, hm, rfl⟩ := List.mem_map.mp ht
    exact sm_make (h.2.2.2 m hm)
theorem sm_book {B : BookD} (h : OkB B) : Sm (bTH B) := by
  unfold bTH
  rw [Sm]
  refine ⟨by rw [List.length_map]; have := h.hi; omega, sms_of fun t ht => ?_⟩
  obtain ⟨k, hk, rfl⟩ := List.mem_map.mp ht
  exact sm_kind (h.ks k hk)

end
end My

set_option Elab.async false
set_option linter.all false
set_option maxRecDepth 100000
set_option maxHeartbeats 4000000
namespace My
open PySem PySem.Spec PyProof.Rows L2 Bk
section
variable {P : Program} {w : World} {K : PySem.W.Frag} {mg : Str → Option Value} {base : Heap} {t : Adr}
def spPool : Sp := fun vs H Q _ => ∃ c, vs = [.int c] ∧ ∀ p H', H p = none → PoolAt H' p → Same H H' → Q (.ref p) H'
def spNext : Sp := fun vs H Q _ => ∃ p b, vs = [.ref p, .int b] ∧ PoolAt H p ∧ 0 < b ∧ b.natAbs.log2 < 9000 ∧ ∀ (r : Nat) H', (r : Int) < b → PoolAt H' p → KeepBut p H H' → Q (.int r) H'
theorem small {n m : Nat} (h : n ≤ m) (hm : m ≤ 1000 := by decide) : n ≤ sizeLine := Nat.le_of_lt (small1000 (Nat.le_trans h hm))
theorem ok_law_pool (T : Txt K mg t) : FnOk P w K mg base CX0 1 t.f_law_pool t.d_law_pool ["cell"] spPool := by
  refine T.F_law_pool.ok sc_law_pool (fun vs H Q E h => ?_) (fun cdv A outer s H vs Q E hr h => ?_)
  · obtain ⟨v, rfl, _⟩ := h
    rfl
  · obtain ⟨c, rfl, k⟩ := h
    refine ⟨_, (pss_one (ps_ret (pe_lst (pa_cons (pe_callB (call_max2 rfl) g_law_pool_max T.z_max bt_max (pa_cons pe_int (pa_cons (pe_op op_sub (pe_var (i := 0) rfl v_law_pool_cell db_cell cd_cell) (pe_op op_pow pe_int pe_int)) pa_nil)) nn_max db_max) (pa_cons (pe_op op_mod (pe_var (i := 0) rfl v_law_pool_cell db_cell cd_cell) (pe_op op_pow pe_int pe_int)) (pa_cons pe_int pa_nil)))))), ?_⟩
    refine ⟨_, rfl, _, _, rfl, rfl, ⟨by decide, by decide, by decide⟩, _, _, rfl, rfl, _, _, rfl, _, rfl, _, _, rfl, rfl, ⟨by decide, by decide, by decide⟩, _, _, rfl, rfl, (by show (0 : Int) < 10 ^ 18; decide), (by show 3 ≤ sizeLine; decide), fun p hp => ?_⟩
    exact k p _ hp ⟨_, _, _, upd_same⟩ (Same.new (Same.refl H) hp)
theorem pool_put {H : Hp} {p : Addr} {a c k : Int} : PoolAt (upd H p (.lst [.int a, .int c, .int k])) p := ⟨a, c, k, upd_same⟩
theorem nat_of {Q : VK} {H : Hp} {x b : Int} (h0 : 0 ≤ x) (h1 : x < b) (q : ∀ r : Nat, (r : Int) < b → Q (.int r) H) : Q (.int x) H := by
  have := q x.toNat (by omega)
  rw [show ((x.toNat : Nat) : Int) = x by omega] at this
  exact this
theorem ok_law_next (T : Txt K mg t) : FnOk P w K mg base CX0 1 t.f_law_next t.d_law_next ["pool", "base"] spNext := by
  refine T.F_law_next.ok sc_law_next (fun vs H Q E h => ?_) (fun cdv A outer s H vs Q E hr h => ?_)
  · obtain ⟨p, b, rfl, _⟩ := h
    rfl
  · obtain ⟨p, b, rfl, ⟨a, c, k, hp⟩, hb, hlog, q⟩ := h
    refine ⟨_, (pss_cons (ps_if (pt_cmpR op_gt (pe_ix ix_list (pe_var (i := 0) rfl v_law_next_pool db_pool cd_pool) pe_int (fun _ _ => rfl)) pe_int (nomark _)) (pss_cons (ps_set (i := 4) sc_law_next.nd rfl l_law_next_digit (pe_op op_mod (pe_ix ix_list (pe_var (i := 0) rfl v_law_next_pool db_pool cd_pool) pe_int (fun _ _ => rfl)) (pe_var (i := 1) rfl v_law_next_base db_base cd_base)))
  (pss_cons (ps_asg (pe_op op_fdivB (pe_ix ix_list (pe_var (i := 0) rfl v_law_next_pool db_pool cd_pool) pe_int (fun _ _ => rfl)) (pe_var (i := 1) rfl v_law_next_base db_base cd_base)) (pg_sub (pe_var (i := 0) rfl v_law_next_pool db_pool cd_pool) pe_int set_list))
  (pss_one (ps_ret (pe_var (i := 4) rfl v_law_next_digit db_digit cd_digit))))) pss_nil)
  (pss_cons (ps_asg (pe_op op_add (pe_ix ix_list (pe_var (i := 0) rfl v_law_next_pool db_pool cd_pool) pe_int (fun _ _ => rfl)) pe_int) (pg_sub (pe_var (i := 0) rfl v_law_next_pool db_pool cd_pool) pe_int set_list))
  (pss_cons (ps_set (i := 2) sc_law_next.nd rfl l_law_next_near (pe_op op_mod (pe_op op_add (pe_ix ix_list (pe_var (i := 0) rfl v_law_next_pool db_pool cd_pool) pe_int (fun _ _ => rfl)) (pe_op op_mul pe_int (pe_ix ix_list (pe_var (i := 0) rfl v_law_next_pool db_pool cd_pool) pe_int (fun _ _ => rfl)))) pe_int))
  (pss_cons (ps_set (i := 3) sc_law_next.nd rfl l_law_next_stir (pe_op op_mod (pe_op op_mul (pe_op op_add (pe_var (i := 2) rfl v_law_next_near db_near cd_near) pe_int) (pe_op op_add (pe_var (i := 2) rfl v_law_next_near db_near cd_near) pe_int)) pe_int))
  (pss_one (ps_ret (pe_op op_mod (pe_op op_fdivB (pe_op op_mod (pe_op op_mul (pe_var (i := 3) rfl v_law_next_stir db_stir cd_stir) (pe_var (i := 3) rfl v_law_next_stir db_stir cd_stir)) pe_int) pe_int) (pe_var (i := 1) rfl v_law_next_base db_base cd_base)))))))), ?_⟩
    refine ⟨_, rfl, p, _, _, _, rfl, rfl, SqL.of hp, rfl, _, _, rfl, rfl, _, rfl, ?_⟩
    refine ite2 (fun h1 => ?_) (fun h1 => ?_)
    · refine ⟨_, rfl, p, _, _, _, rfl, rfl, SqL.of hp, rfl, _, rfl, _, _, rfl, rfl, hb, ?_⟩
      refine ⟨_, rfl, p, _, _, _, rfl, rfl, SqL.of hp, rfl, _, rfl, _, _, rfl, rfl, ⟨hb, hlog⟩, ?_⟩
      refine ⟨_, rfl, p, _, _, 0, rfl, rfl, hp, rfl, ?_⟩
      refine ⟨_, rfl, ?_⟩
      exact nat_of (Q := Q) (Int.emod_nonneg _ (by omega)) (Int.emod_lt_of_pos _ hb) fun r hr => q r _ hr pool_put KeepBut.upd
    · refine ⟨_, rfl, p, _, _, _, rfl, rfl, SqL.of hp, rfl, _, _, rfl, rfl, ?_⟩
      refine ⟨_, rfl, p, _, _, 2, rfl, rfl, hp, rfl, ?_⟩
      have hp' : (upd H p (.lst [.int a, .int c, .int (k + 1)])) p = some (.lst [.int a, .int c, .int (k + 1)]) := upd_same
      refine ⟨_, rfl, p, _, _, _, rfl, rfl, SqL.of hp', rfl, _, rfl, p, _, _, _, rfl, rfl, SqL.of hp', rfl, _, _, rfl, rfl, .inl ⟨by decide, by decide⟩, _, _, rfl, rfl, _, _, rfl, rfl, (by show (0 : Int) < 1000000007; decide), ?_⟩
      generalize hn : (c + 7919 * (k + 1)) % 1000000007 = near
      have n0 : 0 ≤ near := by rw [← hn]; exact Int.emod_nonneg _ (by decide)
      have n1 : near < 1000000007 := by rw [← hn]; exact Int.emod_lt_of_pos _ (by decide)
      refine ⟨_, rfl, _, _, rfl, rfl, _, rfl, _, _, rfl, rfl, _, _, rfl, rfl, .inl ⟨by omega, by omega⟩, _, _, rfl, rfl, (by show (0 : Int) < 998244353; decide), ?_⟩
      generalize hs : (near + 11) * (near + 48271) % 998244353 = stir
      have s0 : 0 ≤ stir := by rw [← hs]; exact Int.emod_nonneg _ (by decide)
      have s1 : stir < 998244353 := by rw [← hs]; exact Int.emod_lt_of_pos _ (by decide)
      refine ⟨_, rfl, _, rfl, _, _, rfl, rfl, .inl ⟨by omega, by omega⟩, _, _, rfl, rfl, (by show (0 : Int) < 2147483647; decide), _, _, rfl, rfl, ⟨by decide, by decide +kernel⟩, _, rfl, _, _, rfl, rfl, hb, ?_⟩
      exact nat_of (Q := Q) (Int.emod_nonneg _ (by omega)) (Int.emod_lt_of_pos _ hb) fun r hr => q r _ hr pool_put KeepBut.upd

open Nm
def lettersS : Str := "abcdefghijklmnopqrstuvwxyz"
theorem letter_at : ∀ r : Fin 26, lettersS.cps.toList[r.val]? = some (97 + r.val) := by decide +kernel
theorem letter_mod (n : Nat) : atI lettersS.cps.toList ((n : Int) % 26) = some (97 + n % 26) := by
  have h : (n : Int) % 26 = ((n % 26 : Nat) : Int) := by omega
  rw [h]
  exact atI_nat (letter_at ⟨n % 26, Nat.mod_lt _ (by decide)⟩)
def spSpelt : Sp := fun vs H Q _ => ∃ (n k : Nat), vs = [.int n, .int k] ∧ k ≤ 8 ∧ Q (.str (ofL (spelt n k))) H
theorem ok_law_spelt (T : Txt K mg t) : FnOk P w K mg base CX0 1 t.f_law_spelt t.d_law_spelt ["number", "size"] spSpelt := by
  refine T.F_law_spelt.ok sc_law_spelt (fun vs H Q E h => ?_) (fun cdv A outer s H vs Q E hr h => ?_)
  · obtain ⟨n, k, rfl, _⟩ := h
    rfl
  · obtain ⟨n, k, rfl, hk, q⟩ := h
    refine ⟨_, (pss_cons (ps_set (i := 2) sc_law_spelt.nd rfl l_law_spelt_letters pe_str)
  (pss_cons (ps_set (i := 3) sc_law_spelt.nd rfl l_law_spelt_name pe_str)
  (pss_cons (ps_for PassesOwn.never rfl (pi_range1 g_law_spelt_range T.z_range (pa_cons (pe_var (i := 1) rfl v_law_spelt_size db_size cd_size) pa_nil)) (pg_name (i := 4) sc_law_spelt.nd rfl l_law_spelt_k (.inl rfl)) (pss_cons (ps_set (i := 3) sc_law_spelt.nd rfl l_law_spelt_name (pe_op op_add_str (pe_ix ix_str (pe_var (i := 2) rfl v_law_spelt_letters db_letters cd_letters) (pe_op op_mod (pe_var (i := 0) rfl v_law_spelt_number db_number cd_number) pe_int) (fun _ _ => rfl)) (pe_var (i := 3) rfl v_law_spelt_name db_name cd_name)))
  (pss_one (ps_set (i := 0) sc_law_spelt.nd rfl l_law_spelt_number (pe_op op_fdivB (pe_var (i := 0) rfl v_law_spelt_number db_number cd_number) pe_int)))))
  (pss_one (ps_ret (pe_var (i := 3) rfl v_law_spelt_name db_name cd_name)))))), ?_⟩
    refine ⟨_, rfl, _, rfl, by omega, by omega, ?_⟩
    refine for_range (lo := 0) (n := ((k : Int)).toNat) (fun i σ H' => H' = H ∧ ∃ (m : Nat) (nm : Str) (v : Option V), σ = [some (.int m), some (.int k), some (.str lettersS), some (.str nm), v] ∧ spelt n k = spelt m (k - i) ++ nm.cps.toList ∧ nm.length = i) ⟨rfl, n, "", none, rfl, (by show spelt n k = spelt n k ++ []; rw [List.append_nil]), rfl⟩ ?_ ?_
    · rintro i σ H2 hi ⟨rfl, m, nm, v, rfl, he, hl⟩
      refine ⟨_, rfl, _, rfl, _, _, rfl, rfl, (by show (0 : Int) < 26; decide), _, _, _, rfl, rfl, by decide +kernel, letter_mod m, _, rfl, _, _, rfl, rfl, ?_, ?_⟩
      · show 1 + nm.length ≤ sizeLine
        exact small (m := 20) (by omega)
      · refine ⟨_, rfl, _, _, rfl, rfl, ⟨by decide, by decide +kernel⟩, ?_⟩
        have hd : (m : Int) / 26 = ((m / 26 : Nat) : Int) := by omega
        obtain ⟨j, hj⟩ : ∃ j, k - i = j + 1 := ⟨k - i - 1, by omega⟩
        refine ⟨rfl, m / 26, ⟨#[97 + m % 26]⟩ ++ nm, some (.int (0 + (i : Int))), ?_, ?_, ?_⟩
        · show [some (V.int ((m : Int) / 26)), _, _, _, _] = _
          rw [hd]
        · rw [he, hj, show k - (i + 1) = j by omega]
          show spelt m (j + 1) ++ TL.tl nm = spelt (m / 26) j ++ TL.tl (⟨#[97 + m % 26]⟩ ++ nm)
          rw [TL.tl_append]
          show (spelt (m / 26) j ++ [97 + m % 26]) ++ TL.tl nm = _
          rw [List.append_assoc]
        · show ((⟨#[97 + m % 26]⟩ : Str) ++ nm).cps.size = i + 1
          rw [Str.cps_append, Array.size_append]
          have : nm.cps.size = i := hl
          rw [this]
          show 1 + i = i + 1
          omega
    · rintro σ H2 ⟨rfl, m, nm, v, rfl, he, hl⟩
      refine ⟨_, rfl, ?_⟩
      have e : nm = ofL (spelt n k) := by
        rw [he, show k - ((k : Int)).toNat = 0 by omega]
        exact (ofL_self nm).symm
      rw [e]
      exact q
theorem eqV_str (a b : Str) : eqV (.str a) (.str b) = decide (a = b) := by
  show (a == b) = _
  by_cases h : a = b
  · subst h; simp
  · rw [decide_eq_false h]; simpa using h
theorem inV_str (z : Str) (l : List Str) : inV (.str z) (l.map V.str) = decide (z ∈ l) := by
  unfold inV
  rw [List.any_map, Bool.eq_iff_iff, List.any_eq_true, decide_eq_true_eq]
  constructor
  · rintro ⟨y, hy, e⟩
    have e : eqV (.str y) (.str z) = true := e
    rw [eqV_str] at e
    rw [← of_decide_eq_true e]
    exact hy
  · intro h
    exact ⟨z, h, by show eqV (.str z) (.str z) = true; rw [eqV_str]; simp⟩
theorem flat_strs (l : List Str) : (l.map V.str).all flatV = true := by
  rw [List.all_map, List.all_eq_true]
  intro x _
  rfl
def spAny (K : PySem.W.Frag) : Sp := fun vs H Q _ => ∃ (p tk : Addr) (taken : List Str), vs = [.ref p, .ref tk] ∧ PoolAt H p ∧ SqL K H tk (taken.map V.str) ∧ p ≠ tk ∧ taken.length ≤ 25 ∧ ∀ z H', Word z → z ∉ taken → PoolAt H' p → KeepBut p H H' → Q (.str z) H'
theorem kb_seq {K : PySem.W.Frag} {H H' : Hp} {a p : Addr} {xs : List V} (e : KeepBut p H H') (hn : a ≠ p) (h : SqL K H a xs) : SqL K H' a xs := by
  rcases h with (h | ⟨o, h⟩) | h
  · exact .inl (.inl (e _ _ h hn))
  · exact .inl (.inr ⟨o, e _ _ h hn⟩)
  · exact .inr h
theorem mem_codes {z : Str} {l : List Str} : z.cps.toList ∈ l.map (fun y => y.cps.toList) ↔ z ∈ l := by
  constructor
  · intro h
    obtain ⟨y, hy, e⟩ := List.mem_map.mp h
    rw [← ext_toList e]
    exact hy
  · intro h
    exact List.mem_map.mpr ⟨z, h, rfl⟩
theorem ok_law_any_name (T : Txt K mg t) : FnOk P w K mg base CX0 3 t.f_law_any_name t.d_law_any_name ["pool", "taken"] (spAny K) := by
  have G_law_next : FnOk P w K mg base CX0 1 t.f_law_next t.d_law_next ["pool", "base"] spNext := ok_law_next T
  have G_law_spelt : FnOk P w K mg base CX0 1 t.f_law_spelt t.d_law_spelt ["number", "size"] spSpelt := ok_law_spelt T
  refine T.F_law_any_name.ok sc_law_any_name (fun vs H Q E h => ?_) (fun cdv A outer s H vs Q E hr h => ?_)
  · obtain ⟨p, tk, taken, rfl, _⟩ := h
    rfl
  · obtain ⟨p, tk, taken, rfl, hp, htk, hne, hlen, q⟩ := h
    refine ⟨_, (pss_cons (ps_set (i := 2) sc_law_any_name.nd rfl l_law_any_name_size (pe_op op_add pe_int (pe_call G_law_next (hr.mono (by decide)) g_law_any_name_law_next T.m_law_next T.F_law_next.kp T.b_law_next .nil pass0 (pa_cons (pe_var (i := 0) rfl v_law_any_name_pool db_pool cd_pool) (pa_cons pe_int pa_nil)) db_law_next)))
  (pss_cons (ps_set (i := 3) sc_law_any_name.nd rfl l_law_any_name_number (pe_call G_law_next (hr.mono (by decide)) g_law_any_name_law_next T.m_law_next T.F_law_next.kp T.b_law_next .nil pass0 (pa_cons (pe_var (i := 0) rfl v_law_any_name_pool db_pool cd_pool) (pa_cons (pe_op op_pow pe_int pe_int) pa_nil)) db_law_next))
  (pss_cons (ps_for PassesOwn.never rfl (pi_range1 g_law_any_name_range T.z_range (pa_cons (pe_callB call_len_seq g_law_any_name_len T.z_len bt_len (pa_cons (pe_var (i := 1) rfl v_law_any_name_taken db_taken cd_taken) pa_nil) nn_len db_len) pa_nil)) (pg_name (i := 4) sc_law_any_name.nd rfl l_law_any_name_turn (.inl rfl)) (pss_one (ps_if (pt_cmpR op_in_seq (pe_call G_law_spelt (hr.mono (by decide)) g_law_any_name_law_spelt T.m_law_spelt T.F_law_spelt.kp T.b_law_spelt .nil pass0 (pa_cons (pe_var (i := 3) rfl v_law_any_name_number db_number cd_number) (pa_cons (pe_var (i := 2) rfl v_law_any_name_size db_size cd_size) pa_nil)) db_law_spelt) (pe_var (i := 1) rfl v_law_any_name_taken db_taken cd_taken) (by rfl)) (pss_one (ps_set (i := 3) sc_law_any_name.nd rfl l_law_any_name_number (pe_op op_add (pe_var (i := 3) rfl v_law_any_name_number db_number cd_number) pe_int))) pss_nil)))
  (pss_one (ps_ret (pe_call G_law_spelt (hr.mono (by decide)) g_law_any_name_law_spelt T.m_law_spelt T.F_law_spelt.kp T.b_law_spelt .nil pass0 (pa_cons (pe_var (i := 3) rfl v_law_any_name_number db_number cd_number) (pa_cons (pe_var (i := 2) rfl v_law_any_name_size db_size cd_size) pa_nil)) db_law_spelt)))))), ?_⟩
    refine ⟨_, rfl, p, _, rfl, hp, by decide, by decide +kernel, fun r H1 r1 hp1 k1 => ⟨_, _, rfl, rfl, ?_⟩⟩
    refine ⟨_, rfl, _, _, rfl, rfl, ⟨by decide, by decide, by decide⟩, p, _, rfl, hp1, by show (0 : Int) < 26 ^ 8; decide, by show ((26 : Int) ^ 8).natAbs.log2 < 9000; decide +kernel, fun n H2 n1 hp2 k2 => ?_⟩
    have htk2 : SqL K H2 tk (taken.map V.str) := kb_seq (k1.trans k2) (Ne.symm hne) htk
    refine ⟨_, rfl, tk, _, rfl, .inl htk2, ?_⟩
    rw [List.length_map]
    refine ⟨_, rfl, by omega, by omega, ?_⟩
    have hk : (1 : Int) + (r : Int) = ((1 + r : Nat) : Int) := by omega
    have hk8 : 1 + r ≤ 8 := by omega
    refine for_range (lo := 0) (n := taken.length) (fun i σ H' => H' = H2 ∧ ∃ v, σ = [some (.ref p), some (.ref tk), some (.int (1 + (r : Int))), some (.int ((runN (taken.map fun y => y.cps.toList) (1 + r) i n : Nat) : Int)), v]) ⟨rfl, _, rfl⟩ ?_ ?_
    · rintro i σ H3 hi ⟨rfl, v, rfl⟩
      refine ⟨_, rfl, _, rfl, runN (taken.map fun y => y.cps.toList) (1 + r) i n, 1 + r, by rw [← hk]; rfl, hk8, _, rfl, tk, _, rfl, .inl htk2, rfl, flat_strs _, _, rfl, ?_⟩
      show (if (if false = true then _ else _) = true then _ else _)
      rw [if_neg Bool.false_ne_true, inV_str]
      refine ite2 (fun h3 => ?_) (fun h3 => ?_)
      · refine ⟨_, rfl, _, _, rfl, rfl, rfl, some (.int (0 + (i : Int))), ?_⟩
        have hm := mem_codes.mpr (of_decide_eq_true h3)
        rw [ofL_toList] at hm
        have e : runN (taken.map fun y => y.cps.toList) (1 + r) (i + 1) n = runN (taken.map fun y => y.cps.toList) (1 + r) i n + 1 := if_pos hm
        rw [e]
        rfl
      · refine ⟨rfl, some (.int (0 + (i : Int))), ?_⟩
        have hm : ¬ spelt (runN (taken.map fun y => y.cps.toList) (1 + r) i n) (1 + r) ∈ taken.map fun y => y.cps.toList := fun z => h3 (decide_eq_true (mem_codes.mp (by rw [ofL_toList]; exact z)))
        have e : runN (taken.map fun y => y.cps.toList) (1 + r) (i + 1) n = runN (taken.map fun y => y.cps.toList) (1 + r) i n := if_neg hm
        rw [e]
        rfl
    · rintro σ H3 ⟨rfl, v, rfl⟩
      refine ⟨_, rfl, _, rfl, runN (taken.map fun y => y.cps.toList) (1 + r) taken.length n, 1 + r, by rw [← hk]; rfl, hk8, ?_⟩
      refine q _ _ (word_spelt (by omega) hk8) (fun m => ?_) hp2 (k1.trans k2)
      have hm := mem_codes.mpr m
      rw [ofL_toList] at hm
      have ho := run_out (taken.map fun y => y.cps.toList) (1 + r) n (by
        rw [List.length_map]
        have : 26 ^ 1 ≤ 26 ^ (1 + r) := Nat.pow_le_pow_right (by decide) (by omega)
        omega)
      rw [List.length_map] at ho
      exact ho hm
def spNames : Sp := fun vs H Q _ => ∃ (p tk : Addr) (m : Nat) (taken : List Str), vs = [.ref p, .int m, .ref tk] ∧ PoolAt H p ∧ H tk = some (.lst (taken.map V.str)) ∧ m + taken.length ≤ 26 ∧ (taken = [] ∨ taken = [("num" : Str)]) ∧
  ∀ (l : Addr) (zs : List Str) (H' : Hp), H l = none → H' l = some (.lst (zs.map V.str)) → Apart zs m taken → PoolAt H' p → KeepBut p H H' → Q (.ref l) H'
theorem pool_lst_ne {H : Hp} {p tk : Addr} {l : List Str} (hp : PoolAt H p) (h : H tk = some (.lst (l.map V.str))) : p ≠ tk := by
  obtain ⟨a, c, k, e⟩ := hp
  refine ne_of e h fun z => ?_
  cases l with
  | nil => cases z
  | cons x r => cases z
theorem cut_head (b : List Nat) (a : Nat) : cutS (ofL b) none (some (a : Int)) = ofL (b.take a) := by
  unfold cutS
  rw [HT.sIx_none, HT.sIx_nat, ofL_toList, ofL_length]
  show ofL _ = _
  congr 1
  rw [List.drop_zero, Nat.sub_zero]
  rcases Nat.le_total a b.length with h | h
  · rw [Nat.min_eq_left h]
  · rw [Nat.min_eq_right h, List.take_length, List.take_of_length_le h]
theorem cut_tail (b : List Nat) (a : Nat) : cutS (ofL b) (some (a : Int)) none = ofL (b.drop a) := by
  unfold cutS
  rw [HT.sIx_none, HT.sIx_nat, ofL_toList, ofL_length]
  show ofL _ = _
  congr 1
  rcases Nat.le_total a b.length with h | h
  · rw [Nat.min_eq_left h, List.take_of_length_le (by rw [List.length_drop]; exact Nat.le_refl _)]
  · rw [Nat.min_eq_right h, List.drop_length, List.drop_of_length_le h, List.take_nil]
theorem ofL_append (a b : List Nat) : ofL a ++ ofL b = ofL (a ++ b) := by
  refine ext_toList ?_
  show TL.tl (ofL a ++ ofL b) = _
  rw [TL.tl_append]
  simp [ofL_toList]
theorem spelt_one (x : Nat) : spelt x 1 = [97 + x % 26] := rfl
theorem num_codes : ("num" : Str).cps.toList = [110, 117, 109] := by decide +kernel
theorem name_out {b : List Nat} {a f : Nat} {taken : List Str} {u : Nat → Bool} (ht : taken = [] ∨ taken = [("num" : Str)]) (k : Nat) :
    ofL (nameL b a f (fun k => u k || decide (ofL (midL b a (f + 5 * k)) ∈ taken)) k) ∉ taken := by
  unfold nameL
  split
  · rcases ht with e | e
    · rw [e]; exact fun h => (nomatch h)
    · rw [e]
      intro h
      have h := List.mem_singleton.mp h
      have h2 := congrArg (fun z : Str => z.cps.toList) h
      simp only [ofL_toList, num_codes] at h2
      have h3 := congrArg List.getLast? h2
      rw [List.getLast?_append] at h3
      simp at h3
  · rename_i h
    rw [List.append_nil]
    intro m
    apply h
    show (u k || decide _) = true
    rw [decide_eq_true m, Bool.or_true]
theorem ok_law_names (T : Txt K mg t) : FnOk P w K mg base CX0 5 t.f_law_names t.d_law_names ["pool", "many", "taken"] spNames := by
  have G_law_next : FnOk P w K mg base CX0 1 t.f_law_next t.d_law_next ["pool", "base"] spNext := ok_law_next T
  have G_law_spelt : FnOk P w K mg base CX0 1 t.f_law_spelt t.d_law_spelt ["number", "size"] spSpelt := ok_law_spelt T
  have G_law_any_name : FnOk P w K mg base CX0 3 t.f_law_any_name t.d_law_any_name ["pool", "taken"] (spAny K) := ok_law_any_name T
  refine T.F_law_names.ok sc_law_names (fun vs H Q E h => ?_) (fun cdv A outer s H vs Q E hr h => ?_)
  · obtain ⟨p, tk, m, taken, rfl, _⟩ := h
    rfl
  · obtain ⟨p, tk, m, taken, rfl, hp, htk, hm, ht, q⟩ := h
    have hm26 : m ≤ 26 := by omega
    refine ⟨_, (pss_cons (ps_set (i := 3) sc_law_names.nd rfl l_law_names_found (pe_lst pa_nil))
  (pss_cons (ps_set (i := 4) sc_law_names.nd rfl l_law_names_size (pe_call G_law_next (hr.mono (by decide)) g_law_names_law_next T.m_law_next T.F_law_next.kp T.b_law_next .nil pass0 (pa_cons (pe_var (i := 0) rfl v_law_names_pool db_pool cd_pool) (pa_cons pe_int pa_nil)) db_law_next))
  (pss_cons (ps_if (pt_cmpR op_gt (pe_var (i := 4) rfl v_law_names_size db_size cd_size) pe_int (nomark _)) (pss_cons (ps_for PassesOwn.never rfl (pi_range1 g_law_names_range T.z_range (pa_cons (pe_var (i := 1) rfl v_law_names_many db_many cd_many) pa_nil)) (pg_name (i := 9) sc_law_names.nd rfl l_law_names_k (.inl rfl)) (pss_one (ps_expr (pe_bm PySem.F.plainAttrs_list PySem.F.slot_list_append PySem.F.type_list_append mt_append (pe_var (i := 3) rfl v_law_names_found db_found cd_found) (pa_cons (pe_call G_law_any_name (hr.mono (by decide)) g_law_names_law_any_name T.m_law_any_name T.F_law_any_name.kp T.b_law_any_name .nil pass0 (pa_cons (pe_var (i := 0) rfl v_law_names_pool db_pool cd_pool) (pa_cons (pe_op op_catS (pe_var (i := 3) rfl v_law_names_found db_found cd_found) (pe_var (i := 2) rfl v_law_names_taken db_taken cd_taken)) pa_nil)) db_law_any_name) pa_nil)))))
  (pss_one (ps_ret (pe_var (i := 3) rfl v_law_names_found db_found cd_found)))) pss_nil)
  (pss_cons (ps_set (i := 5) sc_law_names.nd rfl l_law_names_base (pe_call G_law_spelt (hr.mono (by decide)) g_law_names_law_spelt T.m_law_spelt T.F_law_spelt.kp T.b_law_spelt .nil pass0 (pa_cons (pe_call G_law_next (hr.mono (by decide)) g_law_names_law_next T.m_law_next T.F_law_next.kp T.b_law_next .nil pass0 (pa_cons (pe_var (i := 0) rfl v_law_names_pool db_pool cd_pool) (pa_cons (pe_op op_pow pe_int pe_int) pa_nil)) db_law_next) (pa_cons (pe_var (i := 4) rfl v_law_names_size db_size cd_size) pa_nil)) db_law_spelt))
  (pss_cons (ps_set (i := 6) sc_law_names.nd rfl l_law_names_at (pe_call G_law_next (hr.mono (by decide)) g_law_names_law_next T.m_law_next T.F_law_next.kp T.b_law_next .nil pass0 (pa_cons (pe_var (i := 0) rfl v_law_names_pool db_pool cd_pool) (pa_cons (pe_op op_add (pe_var (i := 4) rfl v_law_names_size db_size cd_size) pe_int) pa_nil)) db_law_next))
  (pss_cons (ps_set (i := 7) sc_law_names.nd rfl l_law_names_first (pe_call G_law_next (hr.mono (by decide)) g_law_names_law_next T.m_law_next T.F_law_next.kp T.b_law_next .nil pass0 (pa_cons (pe_var (i := 0) rfl v_law_names_pool db_pool cd_pool) (pa_cons pe_int pa_nil)) db_law_next))
  (pss_cons (ps_set (i := 8) sc_law_names.nd rfl l_law_names_tails (pe_call G_law_next (hr.mono (by decide)) g_law_names_law_next T.m_law_next T.F_law_next.kp T.b_law_next .nil pass0 (pa_cons (pe_var (i := 0) rfl v_law_names_pool db_pool cd_pool) (pa_cons pe_int pa_nil)) db_law_next))
  (pss_cons (ps_for PassesOwn.never rfl (pi_range1 g_law_names_range T.z_range (pa_cons (pe_var (i := 1) rfl v_law_names_many db_many cd_many) pa_nil)) (pg_name (i := 9) sc_law_names.nd rfl l_law_names_k (.inl rfl)) (pss_cons (ps_set (i := 10) sc_law_names.nd rfl l_law_names_name (pe_op op_add_str (pe_op op_add_str (pe_slice sl_str (pe_var (i := 5) rfl v_law_names_base db_base cd_base) po_none (po_some (pe_var (i := 6) rfl v_law_names_at db_at cd_at))) (pe_call G_law_spelt (hr.mono (by decide)) g_law_names_law_spelt T.m_law_spelt T.F_law_spelt.kp T.b_law_spelt .nil pass0 (pa_cons (pe_op op_add (pe_var (i := 7) rfl v_law_names_first db_first cd_first) (pe_op op_mul pe_int (pe_var (i := 9) rfl v_law_names_k db_k cd_k))) (pa_cons pe_int pa_nil)) db_law_spelt)) (pe_slice sl_str (pe_var (i := 5) rfl v_law_names_base db_base cd_base) (po_some (pe_var (i := 6) rfl v_law_names_at db_at cd_at)) po_none)))
  (pss_cons (ps_if (PW.pt (pw_or (PW.pt (pw_and (pt_cmpR op_eq (pe_var (i := 8) rfl v_law_names_tails db_tails cd_tails) pe_int (nomark _)) (pw_and1 (pt_cmpR op_eq (pe_op op_mod (pe_var (i := 9) rfl v_law_names_k db_k cd_k) pe_int) pe_int (nomark _))))) (pw_or1 (pt_cmpR op_in_seq (pe_var (i := 10) rfl v_law_names_name db_name cd_name) (pe_var (i := 2) rfl v_law_names_taken db_taken cd_taken) (by rfl))))) (pss_one (ps_set (i := 10) sc_law_names.nd rfl l_law_names_name (pe_op op_add_str (pe_var (i := 10) rfl v_law_names_name db_name cd_name) pe_str))) pss_nil)
  (pss_one (ps_expr (pe_bm PySem.F.plainAttrs_list PySem.F.slot_list_append PySem.F.type_list_append mt_append (pe_var (i := 3) rfl v_law_names_found db_found cd_found) (pa_cons (pe_var (i := 10) rfl v_law_names_name db_name cd_name) pa_nil)))))))
  (pss_one (ps_ret (pe_var (i := 3) rfl v_law_names_found db_found cd_found))))))))))), ?_⟩
    refine ⟨by show 0 ≤ sizeLine; decide, fun l hl => ?_⟩
    have hpl : p ≠ l := hp.ne hl
    have htl : tk ≠ l := ne_of_none htk hl
    have hpt : p ≠ tk := pool_lst_ne hp htk
    refine ⟨_, rfl, p, _, rfl, hp.keep rfl hl, by decide, by decide +kernel, fun r H1 r1 hp1 k1 => ?_⟩
    have l1 : H1 l = some (.lst (([] : List Str).map V.str)) := k1 l _ upd_same (Ne.symm hpl)
    have k01 : KeepBut p H H1 := fun b o e n => k1 b o (by rw [upd_ne (ne_of_none e hl)]; exact e) n
    refine ⟨_, rfl, _, _, rfl, rfl, _, rfl, ?_⟩
    refine ite2 (fun h3 => ?_) (fun h3 => ?_)
    · -- each drawn for itself
      refine ⟨_, rfl, _, rfl, by omega, by omega, ?_⟩
      refine for_range (lo := 0) (n := ((m : Int)).toNat) (fun i σ H' => (∃ v : Nat → Option V, σ = [some (.ref p), some (.int m), some (.ref tk), some (.ref l), some (.int r), none, none, none, none, v 0, none]) ∧ KeepBut p H H' ∧ PoolAt H' p ∧ ∃ zs, H' l = some (.lst (zs.map V.str)) ∧ Apart zs i taken)
        ⟨⟨fun _ => none, rfl⟩, k01, hp1, [], l1, Apart.nil _⟩ ?_ ?_
      · rintro i σ H2 hi ⟨⟨v, rfl⟩, k2, hp2, zs, hl2, ha⟩
        have hlen := ha.len
        refine ⟨_, rfl, .inl ⟨rfl, _, SqL.of hl2⟩, _, rfl, _, rfl, _, rfl, l, tk, _, _, rfl, rfl, SqL.of hl2, SqL.of (k2 _ _ htk (Ne.symm hpt)), ?_, fun c hc => ?_⟩
        · simp only [List.length_map]
          exact small (m := 60) (by omega)
        refine ⟨p, c, zs ++ taken, rfl, hp2.keep rfl hc, SqL.of (by rw [upd_same, List.map_append]), hp2.ne hc, ?_, fun z H3 hw ho hp3 k3 => ?_⟩
        · rw [List.length_append]
          omega
        have hl3 : H3 l = some (.lst (zs.map V.str)) := k3 l _ (by rw [upd_ne (ne_of_none hl2 hc)]; exact hl2) (Ne.symm hpl)
        refine ⟨l, _, _, rfl, rfl, hl3, ?_, ?_⟩
        · rw [List.length_map]
          exact small1000 (by omega)
        refine ⟨⟨fun _ => some (.int (0 + (i : Int))), rfl⟩, fun b o e n => ?_, hp3.other hpl, zs ++ [z], ?_, ha.snoc hw ho⟩
        · have e2 := k2 b o e n
          rw [upd_ne (ne_of_none e hl)]
          exact k3 b o (by rw [upd_ne (ne_of_none e2 hc)]; exact e2) n
        · rw [upd_same, List.map_append]
          rfl
      · rintro σ H2 ⟨⟨v, rfl⟩, k2, hp2, zs, hl2, ha⟩
        have e : ((m : Int)).toNat = m := by omega
        rw [e] at ha
        exact ⟨_, rfl, q l zs H2 hl hl2 ha hp2 k2⟩
    · -- told apart by one letter
      have hr6 : r ≤ 6 := by
        rcases Nat.lt_or_ge 6 r with h | h
        · exact absurd (decide_eq_true (show (6 : Int) < (r : Int) by omega)) h3
        · exact h
      refine ⟨_, rfl, _, _, rfl, rfl, ⟨by decide, by decide, by decide⟩, p, _, rfl, hp1, by show (0 : Int) < 26 ^ 6; decide, by show ((26 : Int) ^ 6).natAbs.log2 < 9000; decide +kernel, fun n H2 n1 hp2 k2 => ?_⟩
      refine ⟨_, rfl, n, r, rfl, by omega, ?_⟩
      refine ⟨_, rfl, _, rfl, _, _, rfl, rfl, p, _, rfl, hp2, by omega, log_small (by omega), fun a H3 a1 hp3 k3 => ?_⟩
      refine ⟨_, rfl, p, _, rfl, hp3, by decide, by decide +kernel, fun f H4 f1 hp4 k4 => ?_⟩
      refine ⟨_, rfl, p, _, rfl, hp4, by decide, by decide +kernel, fun tl H5 tl1 hp5 k5 => ?_⟩
      have k15 : KeepBut p H1 H5 := ((k2.trans k3).trans k4).trans k5
      have k05 : KeepBut p H H5 := k01.trans k15
      have l5 : H5 l = some (.lst (([] : List Str).map V.str)) := k15 l _ l1 (Ne.symm hpl)
      have htk5 : H5 tk = some (.lst (taken.map V.str)) := k05 _ _ htk (Ne.symm hpt)
      have hbl : (spelt n r).length = r := spelt_len r n
      refine ⟨_, rfl, _, rfl, by omega, by omega, ?_⟩
      refine for_range (lo := 0) (n := ((m : Int)).toNat) (fun i σ H' => (∃ v w : Option V, σ = [some (.ref p), some (.int m), some (.ref tk), some (.ref l), some (.int r), some (.str (ofL (spelt n r))), some (.int a), some (.int f), some (.int tl), v, w]) ∧
          H' = upd H5 l (.lst (((List.range i).map fun k => ofL (nameL (spelt n r) a f (fun k => (decide (tl = 1) && decide (k % 2 = 1)) || decide (ofL (midL (spelt n r) a (f + 5 * k)) ∈ taken)) k)).map V.str)))
        ⟨⟨none, none, rfl⟩, (upd_self l5).symm⟩ ?_ ?_
      · rintro i σ H6 hi ⟨⟨v, w, rfl⟩, rfl⟩
        have tk6 : ∀ o, (upd H5 l o) tk = some (.lst (taken.map V.str)) := fun o => by rw [upd_ne htl]; exact htk5
        have h0i : (0 : Int) + (i : Int) = (i : Int) := Int.zero_add _
        rw [h0i]
        refine ⟨_, rfl, _, rfl, _, rfl, _, rfl, by rw [ofL_length, hbl]; exact small (m := 10) (by omega), ?_⟩
        rw [cut_head]
        refine ⟨_, rfl, _, rfl, _, _, rfl, rfl, .inl ⟨by decide, by decide⟩, _, _, rfl, rfl, f + 5 * i, 1, ?_, by decide, ?_⟩
        · show [V.int ((f : Int) + 5 * (i : Int)), V.int 1] ++ [] = _
          rw [show (f : Int) + 5 * (i : Int) = ((f + 5 * i : Nat) : Int) by omega]
          rfl
        refine ⟨_, _, rfl, rfl, ?_, ?_⟩
        · rw [ofL_length, ofL_length, List.length_take, spelt_len, spelt_len]
          exact small (m := 20) (by omega)
        refine ⟨_, rfl, _, rfl, _, rfl, _, rfl, by rw [ofL_length, hbl]; exact small (m := 10) (by omega), ?_⟩
        rw [cut_tail, ofL_append]
        refine ⟨_, _, rfl, rfl, ?_, ?_⟩
        · rw [ofL_length, ofL_length, List.length_append, List.length_take, List.length_drop, spelt_len, spelt_len]
          exact small (m := 20) (by omega)
        rw [ofL_append, spelt_one]
        have em : (spelt n r).take a ++ [97 + (f + 5 * i) % 26] ++ (spelt n r).drop a = midL (spelt n r) a (f + 5 * i) := rfl
        rw [em]
        have hpart : nameL (spelt n r) a f (fun k => (decide (tl = 1) && decide (k % 2 = 1)) || decide (ofL (midL (spelt n r) a (f + 5 * k)) ∈ taken)) i = midL (spelt n r) a (f + 5 * i) ++ (if ((decide (tl = 1) && decide (i % 2 = 1)) || decide (ofL (midL (spelt n r) a (f + 5 * i)) ∈ taken)) = true then [98] else []) := rfl
        dsimp only [gName, tSeq, tIfS]
        refine test_or_and (a := decide (tl = 1)) (b := decide (i % 2 = 1)) (c := decide (ofL (midL (spelt n r) a (f + 5 * i)) ∈ taken)) (fun Q q => ⟨_, rfl, rfl, _, rfl, ?_⟩) (fun Q q => ⟨_, rfl, _, _, rfl, rfl, (by show (0 : Int) < 2; decide), rfl, _, rfl, ?_⟩) (fun Q q => ⟨_, rfl, _, rfl, tk, _, rfl, .inl (SqL.of (tk6 _)), rfl, flat_strs _, _, rfl, ?_⟩) ?_
        · show Q (decide (V.int (tl : Int) = V.int ((1 : Nat) : Int))) _
          rw [dec_nat]
          exact q
        · show Q (decide (V.int ((i : Int) % 2) = V.int ((1 : Nat) : Int))) _
          rw [show (i : Int) % 2 = ((i % 2 : Nat) : Int) by omega, dec_nat]
          exact q
        · show Q (if false = true then _ else _) _
          rw [if_neg Bool.false_ne_true, inV_str]
          exact q
        cases htail : ((decide (tl = 1) && decide (i % 2 = 1)) || decide (ofL (midL (spelt n r) a (f + 5 * i)) ∈ taken)) with
        | true =>
          rw [htail, if_pos rfl] at hpart
          refine iteT ⟨_, rfl, _, _, rfl, rfl, ?_, ?_⟩
          · rw [ofL_length, midL_len, spelt_len]
            exact small (m := 20) (by show r + 1 + 1 ≤ 20; omega)
          refine ⟨_, rfl, .inl ⟨rfl, _, SqL.of upd_same⟩, _, rfl, l, _, _, rfl, rfl, upd_same, ?_, ?_⟩
          · simp only [List.length_map, List.length_range]
            exact small1000 (by omega)
          refine ⟨⟨_, _, rfl⟩, ?_⟩
          rw [upd_upd, List.range_succ, List.map_append, List.map_append]
          show upd H5 l (.lst (_ ++ [V.str (ofL (midL (spelt n r) a (f + 5 * i)) ++ "b")])) = upd H5 l (.lst (_ ++ [V.str (ofL (nameL _ _ _ _ i))]))
          rw [hpart, ← ofL_append]
          rfl
        | false =>
          rw [htail, if_neg Bool.false_ne_true, List.append_nil] at hpart
          refine iteF ?_
          refine ⟨_, rfl, .inl ⟨rfl, _, SqL.of upd_same⟩, _, rfl, l, _, _, rfl, rfl, upd_same, ?_, ?_⟩
          · simp only [List.length_map, List.length_range]
            exact small1000 (by omega)
          refine ⟨⟨_, _, rfl⟩, ?_⟩
          rw [upd_upd, List.range_succ, List.map_append, List.map_append]
          show upd H5 l (.lst (_ ++ [V.str (ofL (midL (spelt n r) a (f + 5 * i)))])) = upd H5 l (.lst (_ ++ [V.str (ofL (nameL _ _ _ _ i))]))
          rw [hpart]
      · rintro σ H6 ⟨⟨v, w, rfl⟩, rfl⟩
        refine ⟨_, rfl, q l _ _ hl upd_same ?_ (hp5.other hpl) fun b o e n => ?_⟩
        · rw [show ((m : Int)).toNat = m by omega]
          exact names_apart (by rw [hbl]; exact hr6) (fun c hc => spelt_low r n c hc) (fun k => name_out ht k) m hm26
        · rw [upd_ne (ne_of_none e hl)]
          exact k05 b o e n

end
end My

set_option Elab.async false
set_option linter.all false
set_option maxRecDepth 100000
set_option maxHeartbeats 4000000
namespace My
open PySem PySem.Spec PyProof.Rows L2 Bk Nm
section
variable {P : Program} {w : World} {K : PySem.W.Frag} {mg : Str → Option Value} {base : Heap} {t : Adr}
def spBook : Sp := fun vs H Q _ => ∃ p, vs = [.ref p] ∧ PoolAt H p ∧ ∀ (v : V) (b : BookD) (H' : Hp), BookAt H' v b → Wf b → PoolAt H' p → KeepBut p H H' → Q v H'
abbrev menu1 : List Nat := [1, 2, 2, 3, 3, 4, 4, 6]
abbrev menu2 : List Nat := [1, 2, 2, 3, 3, 2, 4, 6]
abbrev menu3 : List Nat := [0, 0, 1, 1, 2, 2, 3, 4]
theorem menu1_ok : ∀ x ∈ menu1, 1 ≤ x ∧ x ≤ 6 := by decide
theorem menu2_ok : ∀ x ∈ menu2, 1 ≤ x ∧ x ≤ 6 := by decide
theorem menu3_ok : ∀ x ∈ menu3, x ≤ 4 := by decide
theorem menu1_at {r : Nat} (h : (r : Int) < 8) : ∃ m : Nat, 1 ≤ m ∧ m ≤ 6 ∧ atI [V.int 1, .int 2, .int 2, .int 3, .int 3, .int 4, .int 4, .int 6] (r : Int) = some (.int (m : Int)) := by
  have hl : r < menu1.length := by show r < 8; omega
  have := menu1_ok _ (List.getElem_mem hl)
  exact ⟨menu1[r], this.1, this.2, at_nats (l := menu1) hl⟩
theorem menu2_at {r : Nat} (h : (r : Int) < 8) : ∃ m : Nat, 1 ≤ m ∧ m ≤ 6 ∧ atI [V.int 1, .int 2, .int 2, .int 3, .int 3, .int 2, .int 4, .int 6] (r : Int) = some (.int (m : Int)) := by
  have hl : r < menu2.length := by show r < 8; omega
  have := menu2_ok _ (List.getElem_mem hl)
  exact ⟨menu2[r], this.1, this.2, at_nats (l := menu2) hl⟩
theorem menu3_at {r : Nat} (h : (r : Int) < 8) : ∃ m : Nat, m ≤ 4 ∧ atI [V.int 0, .int 0, .int 1, .int 1, .int 2, .int 2, .int 3, .int 4] (r : Int) = some (.int (m : Int)) := by
  have hl : r < menu3.length := by show r < 8; omega
  exact ⟨menu3[r], menu3_ok _ (List.getElem_mem hl), at_nats (l := menu3) hl⟩
/-- what the outer loop keeps -/
structure Out (H : Hp) (p kd mk bk : Addr) (ks ns : List Str) (m i : Nat) (H' : Hp) : Prop where
  ex : ∃ (rest : List Str) (vs : List V) (B : BookD), Ls H p [(bk, .lst vs), (mk, .lst (rest.map V.str)), (kd, .lst (ks.map V.str))] H' ∧ Pd (KindAt H') vs B ∧ kindsD B = ks.take i ∧ (makesD B).map (·.1) ++ rest = ns ∧ m - i ≤ rest.length ∧
    (∀ k ∈ B, 1 ≤ k.2.length ∧ k.2.length ≤ 6) ∧ ∀ x ∈ makesD B, x.2.length ≤ 4 ∧ ∀ f ∈ x.2, f = "num" ∨ f ∈ ks
theorem ok_law_book (T : Txt K mg t) : FnOk P w K mg base CX0 8 t.f_law_book t.d_law_book ["pool"] spBook := by
  have G_law_next : FnOk P w K mg base CX0 1 t.f_law_next t.d_law_next ["pool", "base"] spNext := ok_law_next T
  have G_law_names : FnOk P w K mg base CX0 5 t.f_law_names t.d_law_names ["pool", "many", "taken"] spNames := ok_law_names T
  refine T.F_law_book.ok sc_law_book (fun vs H Q E h => ?_) (fun cdv A outer s H vs Q E hr h => ?_)
  · obtain ⟨p, rfl, _⟩ := h
    rfl
  · obtain ⟨p, rfl, hp, q⟩ := h
    refine ⟨_, (pss_cons (ps_set (i := 1) sc_law_book.nd rfl l_law_book_many (pe_ix ix_list (pe_lst (pa_ints (.cons (.cons (.cons (.cons (.cons (.cons (.cons (.cons .nil)))))))))) (pe_call G_law_next (hr.mono (by decide)) g_law_book_law_next T.m_law_next T.F_law_next.kp T.b_law_next .nil pass0 (pa_cons (pe_var (i := 0) rfl v_law_book_pool db_pool cd_pool) (pa_cons pe_int pa_nil)) db_law_next) (fun _ _ => rfl)))
  (pss_cons (ps_set (i := 2) sc_law_book.nd rfl l_law_book_chain (pe_cmpR op_eq (pe_call G_law_next (hr.mono (by decide)) g_law_book_law_next T.m_law_next T.F_law_next.kp T.b_law_next .nil pass0 (pa_cons (pe_var (i := 0) rfl v_law_book_pool db_pool cd_pool) (pa_cons pe_int pa_nil)) db_law_next) pe_int (nomark _)))
  (pss_cons (ps_if (pt_val (pe_var (i := 2) rfl v_law_book_chain db_chain cd_chain)) (pss_one (ps_set (i := 1) sc_law_book.nd rfl l_law_book_many (pe_op op_add pe_int (pe_call G_law_next (hr.mono (by decide)) g_law_book_law_next T.m_law_next T.F_law_next.kp T.b_law_next .nil pass0 (pa_cons (pe_var (i := 0) rfl v_law_book_pool db_pool cd_pool) (pa_cons pe_int pa_nil)) db_law_next)))) pss_nil)
  (pss_cons (ps_set (i := 3) sc_law_book.nd rfl l_law_book_kinds (pe_call G_law_names (hr.mono (by decide)) g_law_book_law_names T.m_law_names T.F_law_names.kp T.b_law_names .nil pass0 (pa_cons (pe_var (i := 0) rfl v_law_book_pool db_pool cd_pool) (pa_cons (pe_var (i := 1) rfl v_law_book_many db_many cd_many) (pa_cons (pe_lst (pa_cons pe_str pa_nil)) pa_nil))) db_law_names))
  (pss_cons (ps_set (i := 4) sc_law_book.nd rfl l_law_book_makes (pe_call G_law_names (hr.mono (by decide)) g_law_book_law_names T.m_law_names T.F_law_names.kp T.b_law_names .nil pass0 (pa_cons (pe_var (i := 0) rfl v_law_book_pool db_pool cd_pool) (pa_cons pe_int (pa_cons (pe_lst pa_nil) pa_nil))) db_law_names))
  (pss_cons (ps_set (i := 5) sc_law_book.nd rfl l_law_book_book (pe_lst pa_nil))
  (pss_cons (ps_for PassesOwn.never rfl (pi_range1 g_law_book_range T.z_range (pa_cons (pe_var (i := 1) rfl v_law_book_many db_many cd_many) pa_nil)) (pg_name (i := 6) sc_law_book.nd rfl l_law_book_at (.inl rfl)) (pss_cons (ps_set (i := 8) sc_law_book.nd rfl l_law_book_some (pe_lst pa_nil))
  (pss_cons (ps_set (i := 9) sc_law_book.nd rfl l_law_book_among (pe_ix ix_list (pe_lst (pa_cons (pe_op op_catS (pe_var (i := 3) rfl v_law_book_kinds db_kinds cd_kinds) (pe_lst (pa_cons pe_str (pa_cons pe_str pa_nil)))) (pa_cons (pe_op op_catS (pe_slice sl_list (pe_var (i := 3) rfl v_law_book_kinds db_kinds cd_kinds) (po_some (pe_op op_add (pe_var (i := 6) rfl v_law_book_at db_at cd_at) pe_int)) po_none) (pe_lst (pa_cons pe_str pa_nil))) pa_nil))) (pe_callTy call_int1 g_law_book_int T.z_int bt_int (pa_cons (pe_var (i := 2) rfl v_law_book_chain db_chain cd_chain) pa_nil) nn_int db_int) (fun _ _ => rfl)))
  (pss_cons (ps_set (i := 10) sc_law_book.nd rfl l_law_book_count (pe_callB (call_min2 rfl) g_law_book_min T.z_min bt_min (pa_cons (pe_ix ix_list (pe_lst (pa_ints (.cons (.cons (.cons (.cons (.cons (.cons (.cons (.cons .nil)))))))))) (pe_call G_law_next (hr.mono (by decide)) g_law_book_law_next T.m_law_next T.F_law_next.kp T.b_law_next .nil pass0 (pa_cons (pe_var (i := 0) rfl v_law_book_pool db_pool cd_pool) (pa_cons pe_int pa_nil)) db_law_next) (fun _ _ => rfl)) (pa_cons (pe_op op_sub (pe_op op_add (pe_op op_add (pe_callB call_len_seq g_law_book_len T.z_len bt_len (pa_cons (pe_var (i := 4) rfl v_law_book_makes db_makes cd_makes) pa_nil) nn_len db_len) (pe_var (i := 6) rfl v_law_book_at db_at cd_at)) pe_int) (pe_var (i := 1) rfl v_law_book_many db_many cd_many)) pa_nil)) nn_min db_min))
  (pss_cons (ps_for PassesOwn.never rfl (pi_range1 g_law_book_range T.z_range (pa_cons (pe_var (i := 10) rfl v_law_book_count db_count cd_count) pa_nil)) (pg_name (i := 11) sc_law_book.nd rfl l_law_book_k (.inl rfl)) (pss_cons (ps_set (i := 12) sc_law_book.nd rfl l_law_book_size (pe_ix ix_list (pe_lst (pa_ints (.cons (.cons (.cons (.cons (.cons (.cons (.cons (.cons .nil)))))))))) (pe_call G_law_next (hr.mono (by decide)) g_law_book_law_next T.m_law_next T.F_law_next.kp T.b_law_next .nil pass0 (pa_cons (pe_var (i := 0) rfl v_law_book_pool db_pool cd_pool) (pa_cons pe_int pa_nil)) db_law_next) (fun _ _ => rfl)))
  (pss_cons (ps_setLc (i := 13) (own := [("place", 14)]) (by rfl) sc_law_book.nd rfl rfl (sw_true rfl rfl rfl (by decide +kernel)) (pi_range1 g_law_book_range T.z_range (pa_cons (pe_var (i := 12) rfl v_law_book_size db_size cd_size) pa_nil)) (blkOk_by (own := [("place", 14)]) (N := ["pool", "many", "chain", "kinds", "makes", "book", "at", "first", "some", "among", "count", "k", "size", "fields", "place"]) (sc := defScope s_law_book) (by decide +kernel)) (fun _ _ _ _ _ => (pg_name (i := 14) sc_law_book.nd rfl (by first | exact Or.inl rfl | exact Or.inr rfl))) (fun _ _ _ _ _ => pts_nil) (fun _ _ _ _ _ => (pe_ix (ix_listK (K := K) rfl) (pv 9) (pe_call G_law_next (hr.mono (by decide)) rfl T.m_law_next T.F_law_next.kp T.b_law_next .nil pass0 (pa_cons (pv 0) (pa_cons (pe_callB (id := "len") (r := rLenS K) call_len_sq rfl T.z_len bt_len (pa_cons (pv 9) pa_nil) nn_len db_len) pa_nil)) db_law_next) (fun _ _ => rfl))))
  (pss_cons (ps_if (pt_val (pe_var (i := 2) rfl v_law_book_chain db_chain cd_chain)) (pss_one (ps_set (i := 13) sc_law_book.nd rfl l_law_book_fields (pe_op op_catS (pe_slice sl_list (pe_var (i := 13) rfl v_law_book_fields db_fields cd_fields) po_none (po_some pe_int)) (pe_slice sl_list (pe_var (i := 9) rfl v_law_book_among db_among cd_among) po_none (po_some pe_int))))) pss_nil)
  (pss_one (ps_expr (pe_bm PySem.F.plainAttrs_list PySem.F.slot_list_append PySem.F.type_list_append mt_append (pe_var (i := 8) rfl v_law_book_some db_some cd_some) (pa_cons (pe_tup (pa_cons (pe_bm PySem.F.plainAttrs_list PySem.F.slot_list_pop PySem.F.type_list_pop mt_popAt (pe_var (i := 4) rfl v_law_book_makes db_makes cd_makes) (pa_cons pe_int pa_nil)) (pa_cons (pe_callTy call_tuple_of g_law_book_tuple T.z_tuple bt_tuple (pa_cons (pe_var (i := 13) rfl v_law_book_fields db_fields cd_fields) pa_nil) nn_tuple db_tuple) pa_nil))) pa_nil))))))))
  (pss_one (ps_expr (pe_bm PySem.F.plainAttrs_list PySem.F.slot_list_append PySem.F.type_list_append mt_append (pe_var (i := 5) rfl v_law_book_book db_book cd_book) (pa_cons (pe_tup (pa_cons (pe_ix ix_list (pe_var (i := 3) rfl v_law_book_kinds db_kinds cd_kinds) (pe_var (i := 6) rfl v_law_book_at db_at cd_at) (fun _ _ => rfl)) (pa_cons (pe_callTy call_tuple_of g_law_book_tuple T.z_tuple bt_tuple (pa_cons (pe_var (i := 8) rfl v_law_book_some db_some cd_some) pa_nil) nn_tuple db_tuple) pa_nil))) pa_nil)))))))))
  (pss_cons (ps_set (i := 7) sc_law_book.nd rfl l_law_book_first (pe_call G_law_next (hr.mono (by decide)) g_law_book_law_next T.m_law_next T.F_law_next.kp T.b_law_next .nil pass0 (pa_cons (pe_var (i := 0) rfl v_law_book_pool db_pool cd_pool) (pa_cons (pe_var (i := 1) rfl v_law_book_many db_many cd_many) pa_nil)) db_law_next))
  (pss_one (ps_ret (pe_callTy call_tuple_of g_law_book_tuple T.z_tuple bt_tuple (pa_cons (pe_op op_catS (pe_slice sl_list (pe_var (i := 5) rfl v_law_book_book db_book cd_book) (po_some (pe_var (i := 7) rfl v_law_book_first db_first cd_first)) po_none) (pe_slice sl_list (pe_var (i := 5) rfl v_law_book_book db_book cd_book) po_none (po_some (pe_var (i := 7) rfl v_law_book_first db_first cd_first)))) pa_nil) nn_tuple db_tuple))))))))))), ?_⟩
    -- many
    refine ⟨by show 8 ≤ sizeLine; decide, fun l0 hl0 => ⟨_, rfl, p, _, rfl, hp.keep rfl hl0, by decide, by decide +kernel, fun r H1 r1 hp1 k1 => ?_⟩⟩
    obtain ⟨m0, m01, m06, hm0⟩ := menu1_at r1
    have L1 : Ls H p [(l0, _)] H1 := ((Ls.start hp).new _ hl0).next hp1 k1
    refine ⟨l0, _, _, _, rfl, rfl, SqL.of (L1.get (i := 0) rfl), hm0, ?_⟩
    -- chain
    refine ⟨_, rfl, p, _, rfl, hp1, by decide, by decide +kernel, fun r2 H2 r21 hp2 k2 => ⟨rfl, ?_⟩⟩
    have L2' : Ls H p [] H2 := (L1.next hp2 k2).tail
    generalize hch : decide (V.int (r2 : Int) = V.int 0) = ch
    refine ⟨_, rfl, _, rfl, ?_⟩
    refine if_set (m0 := .int (m0 : Int)) (fun v H' => ∃ m : Nat, v = .int (m : Int) ∧ 1 ≤ m ∧ m ≤ 6 ∧ Ls H p [] H') rfl (fun _ k hk => ?_) (fun _ => ⟨m0, rfl, m01, m06, L2'⟩) ?_
    · refine ⟨_, rfl, p, _, rfl, L2'.pool, by decide, by decide +kernel, fun r3 H3 r31 hp3 k3 => ⟨_, _, rfl, rfl, ?_⟩⟩
      exact hk _ _ ⟨4 + r3, by show V.int (4 + (r3 : Int)) = _; rw [show (4 : Int) + (r3 : Int) = ((4 + r3 : Nat) : Int) by omega], by omega, by omega, L2'.next hp3 k3⟩
    rintro _ H3 ⟨m, rfl, m1, m6, L3⟩
    -- kinds
    refine ⟨_, rfl, _, rfl, by show 1 ≤ sizeLine; decide, fun tk htk => ⟨p, tk, m, [("num" : Str)], rfl, L3.pool.keep rfl htk, upd_same, by show m + 1 ≤ 26; omega, .inr rfl, fun kd ks H4 nkd hkd ak hp4 k4 => ?_⟩⟩
    have L3' := L3.pass (.lst [.str "num"]) htk
    have L4 : Ls H p [(kd, .lst (ks.map V.str))] H4 := by
      have M := L3'.next hp4 k4
      exact ⟨M.pool, M.keep, fun x hx => by rw [List.mem_singleton.mp hx]; exact ⟨hkd, L3'.free nkd, fun e => L3'.pool.ne nkd e.symm⟩, List.nodup_cons.mpr ⟨fun z => (nomatch z), List.nodup_nil⟩⟩
    -- makes
    refine ⟨_, rfl, by show 0 ≤ sizeLine; decide, fun tk2 htk2 => ⟨p, tk2, 26, [], rfl, L4.pool.keep rfl htk2, upd_same, by decide, .inl rfl, fun mk ns H5 nmk hmk an hp5 k5 => ?_⟩⟩
    have L4' := L4.pass (.lst []) htk2
    have L5 : Ls H p [(mk, .lst (ns.map V.str)), (kd, .lst (ks.map V.str))] H5 := by
      have M := L4'.next hp5 k5
      refine ⟨M.pool, M.keep, fun x hx => ?_, ?_⟩
      · rcases List.mem_cons.mp hx with rfl | hx
        · exact ⟨hmk, L4'.free nmk, fun e => L4'.pool.ne nmk e.symm⟩
        · exact M.own x hx
      · refine List.nodup_cons.mpr ⟨fun z => ?_, M.nd⟩
        have z : mk = kd := List.mem_singleton.mp z
        have := L4'.get (i := 0) rfl
        rw [← z, nmk] at this; cases this
    -- book
    refine ⟨by show 0 ≤ sizeLine; decide, fun bk nbk => ?_⟩
    have L6 := L5.new (.lst []) nbk
    refine ⟨_, rfl, _, rfl, by omega, by omega, ?_⟩
    refine for_range (lo := 0) (n := ((m : Int)).toNat) (fun i σ H' => (∃ u : Nat → Option V, σ = [some (.ref p), some (.int m), some (.bl ch), some (.ref kd), some (.ref mk), some (.ref bk), u 6, u 7, u 8, u 9, u 10, u 11, u 12, u 13, u 14]) ∧ Out H p kd mk bk ks ns m i H')
      ⟨⟨fun _ => none, rfl⟩, ns, [], [], L6, .nil, by simp [kindsD], by simp [makesD], by rw [an.len]; omega, fun _ h => (nomatch h), fun _ h => (nomatch h)⟩ ?_ ?_
    · rintro i σ H7 hi ⟨⟨u, rfl⟩, rest, vs, B, L7, hB, hk7, hm7, hr7, hc7, hf7⟩
      have hi' : i < m := by omega
      have hik : i < ks.length := by rw [ak.len]; exact hi'
      rw [Int.zero_add]
      -- some = []
      refine ⟨by show 0 ≤ sizeLine; decide, fun sm nsm => ?_⟩
      have La := L7.new (.lst []) nsm
      -- among
      refine ⟨_, rfl, by show 2 ≤ sizeLine; decide, fun c1 n1 => ⟨kd, c1, ks.map V.str, _, rfl, rfl, SqL.of ((La.new (.lst [.str "num", .str "num"]) n1).get (i := 4) rfl), SqL.of upd_same, ?_, fun c2 n2 => ?_⟩⟩
      · rw [List.length_map, ak.len]
        exact small (m := 20) (by show m + 2 ≤ 20; omega)
      have Lc := (La.new (.lst [.str "num", .str "num"]) n1).new (.lst (ks.map V.str ++ [.str "num", .str "num"])) n2
      refine ⟨_, rfl, _, rfl, _, _, rfl, rfl, _, rfl, kd, _, rfl, SqL.of (Lc.get (i := 5) rfl), fun c3 n3 => ?_⟩
      have Ld := Lc.new (.lst (cutV (ks.map V.str) (some ((i : Int) + 1)) none)) n3
      have ecut : cutV (ks.map V.str) (some ((i : Int) + 1)) none = (ks.drop (i + 1)).map V.str := by
        rw [show (i : Int) + 1 = ((i + 1 : Nat) : Int) by omega, cutV_drop, List.map_drop]
      refine ⟨by show 1 ≤ sizeLine; decide, fun c4 n4 => ⟨c3, c4, _, _, rfl, rfl, SqL.of ((Ld.new (.lst [.str "num"]) n4).get (i := 1) rfl), SqL.of upd_same, ?_, fun c5 n5 => ?_⟩⟩
      · rw [ecut, List.length_map, List.length_drop, ak.len]
        exact small (m := 20) (by show m - (i + 1) + 1 ≤ 20; omega)
      have Le := (Ld.new (.lst [.str "num"]) n4).new (.lst (cutV (ks.map V.str) (some ((i : Int) + 1)) none ++ [.str "num"])) n5
      refine ⟨by show 2 ≤ sizeLine; decide, fun c6 n6 => ?_⟩
      have Lf := Le.new (.lst [.ref c2, .ref c5]) n6
      refine ⟨_, rfl, .inr ⟨ch, rfl, ?_⟩⟩
      obtain ⟨am, as, Lg, ham, has1, has2, has3⟩ : ∃ (am : Addr) (as : List Str), Ls H p [(am, .lst (as.map V.str)), (sm, .lst []), (bk, .lst vs), (mk, .lst (rest.map V.str)), (kd, .lst (ks.map V.str))] (upd (upd (upd (upd (upd (upd (upd H7 sm (.lst [])) c1 (.lst [.str "num", .str "num"])) c2 (.lst (ks.map V.str ++ [.str "num", .str "num"]))) c3 (.lst (cutV (ks.map V.str) (some ((i : Int) + 1)) none))) c4 (.lst [.str "num"])) c5 (.lst (cutV (ks.map V.str) (some ((i : Int) + 1)) none ++ [.str "num"]))) c6 (.lst [.ref c2, .ref c5])) ∧
          atI [V.ref c2, V.ref c5] (if ch = true then 1 else 0) = some (.ref am) ∧ 1 ≤ as.length ∧ as.length ≤ 8 ∧ ∀ f ∈ as, f = "num" ∨ f ∈ ks := by
        cases ch with
        | false =>
          refine ⟨c2, ks ++ [("num" : Str), "num"], ?_, rfl, by simp, by rw [List.length_append, ak.len]; show m + 2 ≤ 8; omega, fun f hf => ?_⟩
          · have e : (ks ++ [("num" : Str), "num"]).map V.str = ks.map V.str ++ [.str "num", .str "num"] := by rw [List.map_append]; rfl
            rw [e]
            exact Lf.sub (.cons _ (.cons _ (.cons _ (.cons _ (.cons₂ _ (.cons _ (List.Sublist.refl _)))))))
          · rcases List.mem_append.mp hf with h | h
            · exact .inr h
            · left
              simpa using h
        | true =>
          refine ⟨c5, ks.drop (i + 1) ++ [("num" : Str)], ?_, rfl, by simp, by rw [List.length_append, List.length_drop, ak.len]; show m - (i + 1) + 1 ≤ 8; omega, fun f hf => ?_⟩
          · have e : (ks.drop (i + 1) ++ [("num" : Str)]).map V.str = cutV (ks.map V.str) (some ((i : Int) + 1)) none ++ [.str "num"] := by rw [List.map_append, ecut]; rfl
            rw [e]
            exact Lf.sub (.cons _ (.cons₂ _ (.cons _ (.cons _ (.cons _ (.cons _ (List.Sublist.refl _)))))))
          · rcases List.mem_append.mp hf with h | h
            · exact .inr (List.mem_of_mem_drop h)
            · left
              simpa using h
      refine ⟨c6, _, _, _, rfl, rfl, SqL.of (Lf.get (i := 0) rfl), ham, ?_⟩
      have kT1 : KeepT H7 _ := ((((((Ls.keepT_new nsm).trans (Ls.keepT_new n1)).trans (Ls.keepT_new n2)).trans (Ls.keepT_new n3)).trans (Ls.keepT_new n4)).trans (Ls.keepT_new n5)).trans (Ls.keepT_new (o := .lst [.ref c2, .ref c5]) n6)
      have hB1 := hB.mono fun _ _ z => KindAt.keep kT1 z
      generalize hHa : upd (upd (upd (upd (upd (upd (upd H7 sm (.lst [])) c1 (.lst [.str "num", .str "num"])) c2 (.lst (ks.map V.str ++ [.str "num", .str "num"]))) c3 (.lst (cutV (ks.map V.str) (some ((i : Int) + 1)) none))) c4 (.lst [.str "num"])) c5 (.lst (cutV (ks.map V.str) (some ((i : Int) + 1)) none ++ [.str "num"]))) c6 (.lst [.ref c2, .ref c5]) = Ha at Lg hB1 ⊢
      -- count
      refine ⟨by show 8 ≤ sizeLine; decide, fun c7 n7 => ⟨_, rfl, p, _, rfl, Lg.pool.keep rfl n7, by decide, by decide +kernel, fun r7 H8 r71 hp8 k8 => ?_⟩⟩
      obtain ⟨x, x1, x6, hx⟩ := menu2_at r71
      have Lh := (Lg.new _ n7).next hp8 k8
      have hB2 := hB1.mono fun _ _ z => KindAt.keep ((Ls.keepT_new n7).trans ((Lg.new _ n7).pool.keepT k8)) z
      refine ⟨c7, _, _, _, rfl, rfl, SqL.of (Lh.get (i := 0) rfl), hx, ?_⟩
      refine ⟨_, rfl, mk, _, rfl, .inl (SqL.of (Lh.get (i := 4) rfl)), _, rfl, _, _, rfl, rfl, _, _, rfl, rfl, _, rfl, _, _, rfl, rfl, _, _, rfl, ?_⟩
      rw [List.length_map]
      obtain ⟨cnt, hcnt, cnt1, cnt6, cntr⟩ : ∃ cnt : Nat, (if ((rest.length : Int) + (i : Int) + 1 - (m : Int)) < (x : Int) then ((rest.length : Int) + (i : Int) + 1 - (m : Int)) else (x : Int)) = (cnt : Int) ∧ 1 ≤ cnt ∧ cnt ≤ 6 ∧ cnt + m ≤ rest.length + i + 1 := by
        by_cases h : ((rest.length : Int) + (i : Int) + 1 - (m : Int)) < (x : Int)
        · rw [if_pos h]
          exact ⟨rest.length + i + 1 - m, by omega, by omega, by omega, by omega⟩
        · rw [if_neg h]
          exact ⟨x, rfl, x1, x6, by omega⟩
      show tSeq _ _ _ (List.set _ 10 (some (V.int (if ((rest.length : Int) + (i : Int) + 1 - (m : Int)) < (x : Int) then ((rest.length : Int) + (i : Int) + 1 - (m : Int)) else (x : Int))))) _
      rw [hcnt]
      have Li := Lh.tail
      refine ⟨_, rfl, _, rfl, by omega, by omega, ?_⟩
      refine for_range (lo := 0) (n := ((cnt : Int)).toNat) (fun j σ H' => (∃ u11 u12 u13 : Option V, σ = [some (.ref p), some (.int m), some (.bl ch), some (.ref kd), some (.ref mk), some (.ref bk), some (.int i), u 7, some (.ref sm), some (.ref am), some (.int cnt), u11, u12, u13, u 14]) ∧
          ∃ (rest' : List Str) (ms : List V) (M : List MakeD), Ls H p [(am, .lst (as.map V.str)), (sm, .lst ms), (bk, .lst vs), (mk, .lst (rest'.map V.str)), (kd, .lst (ks.map V.str))] H' ∧ Pd (KindAt H') vs B ∧ Pd (MakeAt H') ms M ∧ M.length = j ∧ M.map (·.1) ++ rest' = rest ∧ ∀ x ∈ M, x.2.length ≤ 4 ∧ ∀ f ∈ x.2, f = "num" ∨ f ∈ ks)
        ⟨⟨u 11, u 12, u 13, rfl⟩, rest, [], [], Li, hB2, .nil, rfl, rfl, fun _ h => (nomatch h)⟩ ?_ ?_
      · rintro j σ H9 hj ⟨⟨u11, u12, u13, rfl⟩, rest', ms, M, L9, hB9, hM9, hl9, hr9, hf9⟩
        have hjc : j < cnt := by omega
        have hrl : rest'.length + j = rest.length := by
          have := congrArg List.length hr9
          rw [List.length_append, List.length_map, hl9] at this
          omega
        rw [Int.zero_add]
        -- size
        refine ⟨by show 8 ≤ sizeLine; decide, fun d1 e1 => ⟨_, rfl, p, _, rfl, L9.pool.keep rfl e1, by decide, by decide +kernel, fun r9 H10 r91 hp10 k10 => ?_⟩⟩
        obtain ⟨sz, sz4, hsz⟩ := menu3_at r91
        have L10 := (L9.new _ e1).next hp10 k10
        have kT10 := (Ls.keepT_new e1).trans ((L9.new _ e1).pool.keepT k10)
        refine ⟨d1, _, _, _, rfl, rfl, SqL.of (L10.get (i := 0) rfl), hsz, ?_⟩
        have L11 := L10.tail
        have hB11 := hB9.mono fun _ _ z => KindAt.keep kT10 z
        have hM11 := hM9.mono fun _ _ z => MakeAt.keep kT10 z
        -- fields
        refine ⟨_, rfl, _, rfl, by omega, by omega, fun D hD => ?_⟩
        have L12 := L11.new (.lst []) hD
        have kT12 : KeepT H10 _ := Ls.keepT_new (o := .lst []) hD
        refine lc_range (lo := 0) (n := ((sz : Int)).toNat) (fun a H' => ∃ fs : List Str, Ls H p [(D, .lst (fs.map V.str)), (am, .lst (as.map V.str)), (sm, .lst ms), (bk, .lst vs), (mk, .lst (rest'.map V.str)), (kd, .lst (ks.map V.str))] H' ∧ Pd (KindAt H') vs B ∧ Pd (MakeAt H') ms M ∧ fs.length = a ∧ ∀ f ∈ fs, f = "num" ∨ f ∈ ks)
          ⟨[], L12, hB11.mono fun _ _ z => KindAt.keep kT12 z, hM11.mono fun _ _ z => MakeAt.keep kT12 z, rfl, fun _ h => (nomatch h)⟩ ?_ ?_
        · rintro a Hb ha ⟨fs, Lb, hBb, hMb, hlb, hfb⟩
          refine ⟨rfl, yes ⟨_, rfl, _, rfl, _, rfl, am, _, rfl, .inl (SqL.of (Lb.get (i := 1) rfl)), p, _, rfl, Lb.pool, ?_, ?_, fun y Hc y1 hpc kc => ?_⟩⟩
          · rw [List.length_map]; omega
          · rw [List.length_map]; exact log_small (by omega)
          rw [List.length_map] at y1
          have hy : y < as.length := by omega
          have Lc' := Lb.next hpc kc
          have kTc := Lb.pool.keepT kc
          refine ⟨am, _, _, _, rfl, rfl, SqL.of (Lc'.get (i := 1) rfl), at_strs hy, _, Lc'.get (i := 0) rfl, ?_, fs ++ [as[y]], ?_, ?_, ?_, ?_, ?_⟩
          · rw [List.length_map]; exact small1000 (by omega)
          · rw [List.map_append]
            exact Lc'.set 0 _ rfl
          · exact hBb.mono fun _ _ z => KindAt.keep (kTc.trans (Lc'.keepT_set (i := 0) rfl)) z
          · exact hMb.mono fun _ _ z => MakeAt.keep (kTc.trans (Lc'.keepT_set (i := 0) rfl)) z
          · rw [List.length_append, hlb]; rfl
          · intro f hf
            rcases List.mem_append.mp hf with h | h
            · exact hfb f h
            · rw [List.mem_singleton.mp h]
              exact has3 _ (List.getElem_mem hy)
        · rintro Hb ⟨fs, Lb, hBb, hMb, hlb, hfb⟩
          rw [show ((sz : Int)).toNat = sz by omega] at hlb
          refine ⟨_, rfl, _, rfl, ?_⟩
          refine if_set (m0 := .ref D) (fun v H' => ∃ (fl : Addr) (fs' : List Str), v = .ref fl ∧ Ls H p [(fl, .lst (fs'.map V.str)), (am, .lst (as.map V.str)), (sm, .lst ms), (bk, .lst vs), (mk, .lst (rest'.map V.str)), (kd, .lst (ks.map V.str))] H' ∧ Pd (KindAt H') vs B ∧ Pd (MakeAt H') ms M ∧ fs'.length ≤ 4 ∧ ∀ f ∈ fs', f = "num" ∨ f ∈ ks) rfl
            (fun _ k hk => ?_) (fun _ => ⟨D, fs, rfl, Lb, hBb, hMb, by omega, hfb⟩) ?_
          · refine ⟨_, rfl, _, rfl, D, _, rfl, SqL.of (Lb.get (i := 0) rfl), fun d2 e2 => ?_⟩
            have Ld' := Lb.new (.lst (cutV (fs.map V.str) none (some 3))) e2
            refine ⟨_, rfl, _, rfl, am, _, rfl, SqL.of (Ld'.get (i := 2) rfl), fun d3 e3 => ?_⟩
            have Le' := Ld'.new (.lst (cutV (as.map V.str) none (some 1))) e3
            have ec1 : cutV (fs.map V.str) none (some 3) = (fs.take 3).map V.str := by rw [show (3 : Int) = ((3 : Nat) : Int) from rfl, cutV_take, List.map_take]
            have ec2 : cutV (as.map V.str) none (some 1) = (as.take 1).map V.str := by rw [show (1 : Int) = ((1 : Nat) : Int) from rfl, cutV_take, List.map_take]
            refine ⟨d2, d3, _, _, rfl, rfl, SqL.of (Le'.get (i := 1) rfl), SqL.of (Le'.get (i := 0) rfl), ?_, fun d4 e4 => ?_⟩
            · rw [ec1, ec2, List.length_map, List.length_map, List.length_take, List.length_take]
              exact small (m := 20) (by omega)
            have Lf' := Le'.new (.lst (cutV (fs.map V.str) none (some 3) ++ cutV (as.map V.str) none (some 1))) e4
            have kTf : KeepT Hb _ := ((Ls.keepT_new e2).trans (Ls.keepT_new e3)).trans (Ls.keepT_new (o := .lst (cutV (fs.map V.str) none (some 3) ++ cutV (as.map V.str) none (some 1))) e4)
            have ec : cutV (fs.map V.str) none (some 3) ++ cutV (as.map V.str) none (some 1) = (fs.take 3 ++ as.take 1).map V.str := by rw [ec1, ec2, List.map_append]
            refine hk _ _ ⟨d4, fs.take 3 ++ as.take 1, rfl, ?_, hBb.mono fun _ _ z => KindAt.keep kTf z, hMb.mono fun _ _ z => MakeAt.keep kTf z, ?_, fun f hf => ?_⟩
            · rw [← ec]
              exact Lf'.sub (.cons₂ _ (.cons _ (.cons _ (.cons _ (List.Sublist.refl _)))))
            · rw [List.length_append, List.length_take, List.length_take]
              omega
            · rcases List.mem_append.mp hf with h | h
              · exact hfb f (List.mem_of_mem_take h)
              · exact has3 f (List.mem_of_mem_take h)
          rintro _ Hg ⟨fl, fs', rfl, Lg', hBg, hMg, hlg, hfg⟩
          obtain ⟨y, rr, rfl⟩ : ∃ y rr, rest' = y :: rr := by
            cases rest' with
            | nil => exact absurd hrl (by show 0 + j ≠ rest.length; omega)
            | cons y rr => exact ⟨y, rr, rfl⟩
          refine ⟨_, rfl, .inl ⟨rfl, _, SqL.of (Lg'.get (i := 2) rfl)⟩, _, rfl, .inl ⟨rfl, _, SqL.of (Lg'.get (i := 4) rfl)⟩, mk, _, _, 0, _, rfl, rfl, Lg'.get (i := 4) rfl, by decide, by decide, seq0 _, rfl, ?_⟩
          have Lh' : Ls H p [(fl, .lst (fs'.map V.str)), (am, .lst (as.map V.str)), (sm, .lst ms), (bk, .lst vs), (mk, .lst (rr.map V.str)), (kd, .lst (ks.map V.str))] _ := Lg'.set 4 (.lst (rr.map V.str)) rfl
          have kTh : KeepT Hg _ := Lg'.keepT_set (i := 4) (o' := .lst (rr.map V.str)) rfl
          refine ⟨_, rfl, fl, _, rfl, .inl ⟨SqL.of (Lh'.get (i := 0) rfl), fun d5 e5 => ⟨by show 2 ≤ sizeLine; decide, fun d6 e6 => ?_⟩⟩⟩
          have Li' := Lh'.new (.tup (fs'.map V.str)) e5
          have Lj' := Li'.new (.tup [.str y, .ref d5]) e6
          refine ⟨sm, _, _, rfl, rfl, Lj'.get (i := 4) rfl, ?_, ?_⟩
          · rw [hMg.length, hl9]
            exact small1000 (by omega)
          have Lk' := Lj'.set 4 (.lst (ms ++ [.ref d6])) rfl
          have kTk := ((kTh.trans (Ls.keepT_new e5)).trans (Ls.keepT_new e6)).trans (Lj'.keepT_set (i := 4) (o' := .lst (ms ++ [.ref d6])) rfl)
          refine ⟨⟨_, _, _, rfl⟩, rr, ms ++ [V.ref d6], M ++ [(y, fs')], Lk'.tail.tail.tail, hBg.mono fun _ _ z => KindAt.keep kTk z, (hMg.mono fun _ _ z => MakeAt.keep kTk z).snoc ⟨d6, d5, rfl, Lk'.get (i := 0) rfl, Lk'.get (i := 1) rfl⟩, ?_, ?_, fun x hx => ?_⟩
          · rw [List.length_append, hl9]; rfl
          · rw [List.map_append, List.append_assoc]
            exact hr9
          · rcases List.mem_append.mp hx with h | h
            · exact hf9 x h
            · rw [List.mem_singleton.mp h]
              exact ⟨hlg, hfg⟩
      · rintro σ H9 ⟨⟨u11, u12, u13, rfl⟩, rest', ms, M, L9, hB9, hM9, hl9, hr9, hf9⟩
        rw [show ((cnt : Int)).toNat = cnt by omega] at hl9
        have hrl : rest'.length + cnt = rest.length := by
          have := congrArg List.length hr9
          rw [List.length_append, List.length_map, hl9] at this
          omega
        -- book.append((kinds[at], tuple(some)))
        refine ⟨_, rfl, .inl ⟨rfl, _, SqL.of (L9.get (i := 2) rfl)⟩, _, rfl, _, rfl, kd, _, _, _, rfl, rfl, SqL.of (L9.get (i := 4) rfl), at_strs hik, _, rfl, sm, _, rfl, .inl ⟨SqL.of (L9.get (i := 1) rfl), fun d5 e5 => ⟨by show 2 ≤ sizeLine; decide, fun d6 e6 => ?_⟩⟩⟩
        have Li' := L9.new (.tup ms) e5
        have Lj' := Li'.new (.tup [.str ks[i], .ref d5]) e6
        refine ⟨bk, _, _, rfl, rfl, Lj'.get (i := 4) rfl, ?_, ?_⟩
        · rw [hB9.length]
          have : B.length = i := by
            have := congrArg List.length hk7
            unfold kindsD at this
            rw [List.length_map, List.length_take, ak.len] at this
            omega
          rw [this]
          exact small1000 (by omega)
        have Lk' := Lj'.set 4 (.lst (vs ++ [.ref d6])) rfl
        have kTk := ((Ls.keepT_new e5).trans (Ls.keepT_new e6)).trans (Lj'.keepT_set (i := 4) (o' := .lst (vs ++ [.ref d6])) rfl)
        refine ⟨⟨fun n => [none, none, none, none, none, none, some (.int i), u 7, some (.ref sm), some (.ref am), some (.int cnt), u11, u12, u13, u 14].getD n none, rfl⟩, rest', vs ++ [V.ref d6], B ++ [(ks[i], M)], Lk'.tail.tail.tail.tail, (hB9.mono fun _ _ z => KindAt.keep kTk z).snoc ⟨d6, d5, ms, rfl, Lk'.get (i := 0) rfl, Lk'.get (i := 1) rfl, hM9.mono fun _ _ z => MakeAt.keep kTk z⟩, ?_, ?_, by omega, fun x hx => ?_, fun x hx => ?_⟩
        · rw [kindsD_snoc, hk7, List.take_succ_eq_append_getElem hik]
        · rw [makesD_snoc, List.map_append, List.append_assoc]
          show _ ++ (M.map (·.1) ++ rest') = ns
          rw [hr9]
          exact hm7
        · rcases List.mem_append.mp hx with h | h
          · exact hc7 x h
          · rw [List.mem_singleton.mp h]
            exact ⟨by show 1 ≤ M.length; omega, by show M.length ≤ 6; omega⟩
        · rw [makesD_snoc] at hx
          rcases List.mem_append.mp hx with h | h
          · exact hf7 x h
          · exact hf9 x h
    · rintro σ H7 ⟨⟨u, rfl⟩, rest, vs, B, L7, hB, hk7, hm7, hr7, hc7, hf7⟩
      rw [show ((m : Int)).toNat = m by omega] at hk7 hr7
      have ek : kindsD B = ks := by rw [hk7, ← ak.len, List.take_length]
      have hlB : B.length = m := by
        have := congrArg List.length ek
        unfold kindsD at this
        rw [List.length_map, ak.len] at this
        exact this
      have wf : Wf B := by
        refine ⟨by omega, by omega, by rw [ek]; exact ak.word, by rw [ek]; exact ak.nd, by rw [ek]; exact fun z => ak.out _ z (by simp), fun x hx => an.word _ ?_, ?_, ?_, hc7, fun x hx => (hf7 x hx).1, by rw [ek]; exact fun x hx => (hf7 x hx).2⟩
        · rw [← hm7]
          exact List.mem_append_left _ (List.mem_map.mpr ⟨x, hx, rfl⟩)
        · have := an.nd
          rw [← hm7] at this
          exact (List.nodup_append.mp this).1
        · have := congrArg List.length hm7
          rw [List.length_append, List.length_map, an.len] at this
          omega
      -- first
      refine ⟨_, rfl, _, rfl, p, _, rfl, L7.pool, by omega, log_small (by omega), fun f H8 f1 hp8 k8 => ?_⟩
      have L8 := L7.next hp8 k8
      have hB8 := hB.mono fun _ _ z => KindAt.keep (L7.pool.keepT k8) z
      refine ⟨_, rfl, _, rfl, _, rfl, bk, _, rfl, SqL.of (L8.get (i := 0) rfl), fun c1 n1 => ?_⟩
      have L9 := L8.new (.lst (cutV vs (some (f : Int)) none)) n1
      refine ⟨_, rfl, _, rfl, _, rfl, bk, _, rfl, SqL.of (L9.get (i := 1) rfl), fun c2 n2 => ?_⟩
      have L10 := L9.new (.lst (cutV vs none (some (f : Int)))) n2
      refine ⟨c1, c2, _, _, rfl, rfl, SqL.of (L10.get (i := 1) rfl), SqL.of (L10.get (i := 0) rfl), ?_, fun c3 n3 => ?_⟩
      · rw [cutV_drop, cutV_take, List.length_drop, List.length_take, hB.length]
        exact small (m := 20) (by omega)
      have L11 := L10.new (.lst (cutV vs (some (f : Int)) none ++ cutV vs none (some (f : Int)))) n3
      refine ⟨c3, _, rfl, .inl ⟨SqL.of upd_same, fun c4 n4 => ?_⟩⟩
      have L12 := L11.new (.tup (cutV vs (some (f : Int)) none ++ cutV vs none (some (f : Int)))) n4
      have kT : KeepT H8 _ := (((Ls.keepT_new n1).trans (Ls.keepT_new n2)).trans (Ls.keepT_new n3)).trans (Ls.keepT_new (o := .tup (cutV vs (some (f : Int)) none ++ cutV vs none (some (f : Int)))) n4)
      have hB9 := hB8.mono fun _ _ z => KindAt.keep kT z
      refine q (.ref c4) (B.drop f ++ B.take f) _ ⟨c4, _, rfl, upd_same, ?_⟩ (wf.perm (rot_perm B f)) L12.pool L12.keep
      have e : cutV vs (some (f : Int)) none ++ cutV vs none (some (f : Int)) = vs.drop f ++ vs.take f := by rw [cutV_drop, cutV_take]
      have := (hB9.drop f).append (hB9.take f)
      rw [← e] at this
      exact this

end
end My

set_option Elab.async false
set_option linter.all false
set_option maxRecDepth 100000
set_option maxHeartbeats 4000000
namespace My
open PySem PySem.Spec PyProof.Rows L2 Bk Nm
section
variable {P : Program} {w : World} {K : PySem.W.Frag} {mg : Str → Option Value} {base : Heap} {t : Adr}
abbrev MA := Addr × TH × Addr × List TH
abbrev KA := Addr × TH × Addr × List MA
def MAt (H : Hp) (m : MA) : Prop := ∃ v fvs, H m.1 = some (.lst [v, .ref m.2.2.1]) ∧ ThAt H v m.2.1 ∧ H m.2.2.1 = some (.lst fvs) ∧ ThsAt H fvs m.2.2.2
def KAt (H : Hp) (k : KA) : Prop := ∃ v, H k.1 = some (.lst [v, .ref k.2.2.1]) ∧ ThAt H v k.2.1 ∧ H k.2.2.1 = some (.lst (k.2.2.2.map fun m => .ref m.1)) ∧ ∀ m ∈ k.2.2.2, MAt H m
def RAt (H : Hp) (R : Addr) (ks : List KA) : Prop := H R = some (.lst (ks.map fun k => .ref k.1)) ∧ ∀ k ∈ ks, KAt H k
def mA (m : MA) : List Addr := [m.1, m.2.2.1]
def kA (k : KA) : List Addr := k.1 :: k.2.2.1 :: (k.2.2.2.map mA).flatten
def rA (R : Addr) (ks : List KA) : List Addr := R :: (ks.map kA).flatten
/-- what stands at those addresses stays, and the tuples do -/
def Stay (as : List Addr) (H H' : Hp) : Prop := (∀ x ∈ as, H' x = H x) ∧ KeepT H H'
theorem MAt.stay {H H' : Hp} {m : MA} (k : Stay (mA m) H H') (h : MAt H m) : MAt H' m := by
  obtain ⟨v, fvs, h1, h2, h3, h4⟩ := h
  exact ⟨v, fvs, by rw [k.1 _ (by simp [mA])]; exact h1, h2.keep k.2, by rw [k.1 _ (by simp [mA])]; exact h3, h4.keep k.2⟩
theorem KAt.stay {H H' : Hp} {x : KA} (k : Stay (kA x) H H') (h : KAt H x) : KAt H' x := by
  obtain ⟨v, h1, h2, h3, h4⟩ := h
  refine ⟨v, by rw [k.1 _ (by simp [kA])]; exact h1, h2.keep k.2, by rw [k.1 _ (by simp [kA])]; exact h3, fun m hm => (h4 m hm).stay ⟨fun a ha => k.1 a ?_, k.2⟩⟩
  unfold kA
  exact List.mem_cons_of_mem _ (List.mem_cons_of_mem _ (List.mem_flatten.mpr ⟨mA m, List.mem_map.mpr ⟨m, hm, rfl⟩, ha⟩))
theorem RAt.stay {H H' : Hp} {R : Addr} {ks : List KA} (k : Stay (rA R ks) H H') (h : RAt H R ks) : RAt H' R ks := by
  refine ⟨by rw [k.1 _ (by simp [rA])]; exact h.1, fun x hx => (h.2 x hx).stay ⟨fun a ha => k.1 a ?_, k.2⟩⟩
  unfold rA
  exact List.mem_cons_of_mem _ (List.mem_flatten.mpr ⟨kA x, List.mem_map.mpr ⟨x, hx, rfl⟩, ha⟩)
def mNT (m : MA) : NT := .lst [.th m.2.1, .lst (m.2.2.2.map NT.th)]
def kNT (k : KA) : NT := .lst [.th k.2.1, .lst (k.2.2.2.map mNT)]
theorem nts_th {H : Hp} : ∀ {vs : List V} {ts : List TH}, ThsAt H vs ts → NtsAt H vs (ts.map NT.th)
  | _, _, .nil => .nil
  | _, _, .cons h t => .cons (.th h) (nts_th t)
theorem MAt.nt {H : Hp} {m : MA} (h : MAt H m) : NtAt H (.ref m.1) (mNT m) := by
  obtain ⟨v, fvs, h1, h2, h3, h4⟩ := h
  exact .lst h1 (.cons (.th h2) (.cons (.lst h3 (nts_th h4)) .nil))
theorem nts_ms {H : Hp} : ∀ {ms : List MA}, (∀ m ∈ ms, MAt H m) → NtsAt H (ms.map fun m => .ref m.1) (ms.map mNT)
  | [], _ => .nil
  | m :: r, h => .cons (h m List.mem_cons_self).nt (nts_ms fun x hx => h x (List.mem_cons_of_mem _ hx))
theorem KAt.nt {H : Hp} {k : KA} (h : KAt H k) : NtAt H (.ref k.1) (kNT k) := by
  obtain ⟨v, h1, h2, h3, h4⟩ := h
  exact .lst h1 (.cons (.th h2) (.cons (.lst h3 (nts_ms h4)) .nil))
theorem nts_ks {H : Hp} : ∀ {ks : List KA}, (∀ k ∈ ks, KAt H k) → NtsAt H (ks.map fun k => .ref k.1) (ks.map kNT)
  | [], _ => .nil
  | k :: r, h => .cons (h k List.mem_cons_self).nt (nts_ks fun x hx => h x (List.mem_cons_of_mem _ hx))
theorem RAt.nt {H : Hp} {R : Addr} {ks : List KA} (h : RAt H R ks) : NtAt H (.ref R) (.lst (ks.map kNT)) := .lst h.1 (nts_ks h.2)

end
end My

set_option Elab.async false
set_option linter.all false
set_option maxRecDepth 100000
set_option maxHeartbeats 4000000
namespace My
open PySem PySem.Spec PyProof.Rows L2 Bk Nm
section
variable {P : Program} {w : World} {K : PySem.W.Frag} {mg : Str → Option Value} {base : Heap} {t : Adr}
theorem call_list_ofK {X : Cx} {K : PySem.W.Frag} (hK : X.K = K) : CallR X (.type "list") (fun xs H Q => ∃ p ys, xs = [.ref p] ∧ (SqL K H p ys ∨ SqT K H p ys) ∧ ∀ l, H l = none → Q (.ref l) (upd H l (.lst ys))) := by subst hK; exact call_list_of
theorem MAt.up {H H' : Hp} {L : Addr} {o : HO} {m : MA} (s : Same H H') (kT : KeepT H' (upd H' L o)) (hn : ∀ x ∈ mA m, x ≠ L) (h : MAt H m) : MAt (upd H' L o) m := by
  obtain ⟨v, fvs, h1, h2, h3, h4⟩ := h
  exact ⟨v, fvs, by rw [upd_ne (hn _ (by simp [mA]))]; exact s _ _ h1, (h2.keep s.keepT).keep kT, by rw [upd_ne (hn _ (by simp [mA]))]; exact s _ _ h3, (h4.keep s.keepT).keep kT⟩
theorem MAt.there {H : Hp} {m : MA} (h : MAt H m) : ∀ x ∈ mA m, ∃ o, H x = some o := by
  obtain ⟨v, fvs, h1, _, h3, _⟩ := h
  intro x hx
  simp only [mA, List.mem_cons, List.not_mem_nil, or_false] at hx
  rcases hx with rfl | rfl
  · exact ⟨_, h1⟩
  · exact ⟨_, h3⟩
theorem ms_there {H : Hp} {ms : List MA} (h : ∀ m ∈ ms, MAt H m) : ∀ x ∈ (ms.map mA).flatten, ∃ o, H x = some o := by
  intro x hx
  obtain ⟨l, hl, hxl⟩ := List.mem_flatten.mp hx
  obtain ⟨m, hm, rfl⟩ := List.mem_map.mp hl
  exact (h m hm).there x hxl
theorem KAt.up {H H' : Hp} {L : Addr} {o : HO} {k : KA} (s : Same H H') (kT : KeepT H' (upd H' L o)) (hn : ∀ x ∈ kA k, x ≠ L) (h : KAt H k) : KAt (upd H' L o) k := by
  obtain ⟨v, h1, h2, h3, h4⟩ := h
  refine ⟨v, by rw [upd_ne (hn _ (by simp [kA]))]; exact s _ _ h1, (h2.keep s.keepT).keep kT, by rw [upd_ne (hn _ (by simp [kA]))]; exact s _ _ h3, fun m hm => (h4 m hm).up s kT fun x hx => hn x ?_⟩
  unfold kA
  exact List.mem_cons_of_mem _ (List.mem_cons_of_mem _ (List.mem_flatten.mpr ⟨mA m, List.mem_map.mpr ⟨m, hm, rfl⟩, hx⟩))
theorem KAt.there {H : Hp} {k : KA} (h : KAt H k) : ∀ x ∈ kA k, ∃ o, H x = some o := by
  obtain ⟨v, h1, _, h3, h4⟩ := h
  intro x hx
  unfold kA at hx
  rcases List.mem_cons.mp hx with rfl | hx
  · exact ⟨_, h1⟩
  · rcases List.mem_cons.mp hx with rfl | hx
    · exact ⟨_, h3⟩
    · exact ms_there h4 x hx
theorem ks_there {H : Hp} {R : Addr} {ks : List KA} (h : RAt H R ks) : ∀ x ∈ rA R ks, ∃ o, H x = some o := by
  intro x hx
  unfold rA at hx
  rcases List.mem_cons.mp hx with rfl | hx
  · exact ⟨_, h.1⟩
  · obtain ⟨l, hl, hxl⟩ := List.mem_flatten.mp hx
    obtain ⟨k, hk, rfl⟩ := List.mem_map.mp hl
    exact (h.2 k hk).there x hxl
def mData (m : MakeD) (x : MA) : Prop := x.2.1 = .str m.1 ∧ x.2.2.2 = m.2.map TH.str
def kData (k : KindD) (x : KA) : Prop := x.2.1 = .str k.1 ∧ Pd mData k.2 x.2.2.2
def spOpen : Sp := fun vs H Q _ => ∃ (bv : V) (B : BookD), vs = [bv] ∧ BookAt H bv B ∧ Wf B ∧ ∀ (R : Addr) (ks : List KA) H', RAt H' R ks → (rA R ks).Nodup → (∀ x ∈ rA R ks, H x = none) → Pd kData B ks → Same H H' → Q (.ref R) H'
theorem ok_law_open (T : Txt K mg t) : FnOk P w K mg base CX0 2 t.f_law_open t.d_law_open ["book"] spOpen := by
  refine T.F_law_open.ok sc_law_open (fun vs H Q E h => ?_) (fun cdv A outer s H vs Q E hr h => ?_)
  · obtain ⟨_, _, rfl, _⟩ := h
    rfl
  · obtain ⟨bv, B, rfl, ⟨ba, us, rfl, hba, hBk⟩, wf, q⟩ := h
    refine ⟨_, (pss_cons (ps_set (i := 1) sc_law_open.nd rfl l_law_open_rows (pe_lst pa_nil))
  (pss_cons (ps_for PassesOwn.never rfl (pi_tup (pe_var (i := 0) rfl v_law_open_book db_book cd_book)) (pg_tup (by rfl) (pgs_cons (pg_name (i := 2) sc_law_open.nd rfl l_law_open_kind (.inl rfl)) (pgs_cons (pg_name (i := 3) sc_law_open.nd rfl l_law_open_makes (.inl rfl)) pgs_nil))) (pss_one (ps_expr (pe_bm PySem.F.plainAttrs_list PySem.F.slot_list_append PySem.F.type_list_append mt_append (pe_var (i := 1) rfl v_law_open_rows db_rows cd_rows) (pa_cons (pe_lst (pa_cons (pe_var (i := 2) rfl v_law_open_kind db_kind cd_kind) (pa_cons (pe_lc (own := [("make", 4), ("fields", 5)]) (g := gTup K 2 (gCons (gName 4) (gCons (gName 5) gNil))) (by rfl) sc_law_open.nd (pi_tup (pe_var (i := 3) rfl v_law_open_makes db_makes cd_makes)) (blkOk_by (own := [("make", 4), ("fields", 5)]) (N := ["book", "rows", "kind", "makes", "make", "fields"]) (sc := defScope s_law_open) (by decide +kernel)) (fun _ _ _ _ _ => (pg_tup (by rfl) (pgs_cons (pg_name (i := 4) sc_law_open.nd rfl (by first | exact Or.inl rfl | exact Or.inr rfl)) (pgs_cons (pg_name (i := 5) sc_law_open.nd rfl (by first | exact Or.inl rfl | exact Or.inr rfl)) pgs_nil)))) (fun _ _ _ _ _ => pts_nil) (fun _ _ _ _ _ => (pe_lst (pa_cons (pv 4) (pa_cons (pe_callTy (call_list_ofK (K := K) rfl) rfl T.z_list bt_list (pa_cons (pv 5) pa_nil) nn_list db_list) pa_nil))))) pa_nil))) pa_nil)))))
  (pss_one (ps_ret (pe_var (i := 1) rfl v_law_open_rows db_rows cd_rows))))), ?_⟩
    refine ⟨by show 0 ≤ sizeLine; decide, fun R hR => ?_⟩
    have s0 : Same H (upd H R (.lst [])) := Same.new (Same.refl _) hR
    have e0 : upd H R (.lst []) R = some (.lst []) := upd_same
    generalize upd H R (.lst []) = H0 at s0 e0
    have h6 := wf.len6
    have hul := hBk.length
    refine ⟨_, rfl, ba, rfl, ⟨_, SqT.of (s0 _ _ hba)⟩, for_tup (K := K) (a := ba) (xs := us) (fun i σ H' => Same H H' ∧ (∃ w : Nat → Option V, σ = [some (.ref ba), some (.ref R), w 2, w 3, w 4, w 5]) ∧ ∃ ks : List KA, RAt H' R ks ∧ (rA R ks).Nodup ∧ (∀ x ∈ rA R ks, H x = none) ∧ Pd kData (B.take i) ks) ⟨s0, ⟨fun _ => none, rfl⟩, [], ⟨e0, fun _ h => (nomatch h)⟩, by simp [rA], fun x hx => by rw [List.mem_singleton.mp (show x ∈ [R] from hx)]; exact hR, .nil⟩ (fun i σ H' _ ⟨s1, _⟩ => SqT.of (s1 _ _ hba)) ?_ ?_⟩
    · rintro i x σ H1 hx ⟨s1, ⟨w1, rfl⟩, ks, hRA, hnd, hfr, hkd⟩
      obtain ⟨k, hk, a, b, vm, rfl, h2, h3, hM⟩ := hBk.get hx
      obtain ⟨hi, ek⟩ := List.getElem?_eq_some_iff.mp hk
      have hkB : k ∈ B := List.mem_of_getElem? hk
      have hvl := hM.length
      have hk6 := (wf.ms k hkB).2
      refine ⟨a, _, rfl, SqT.of (s1 _ _ h2), rfl, _, _, rfl, _, _, rfl, rfl, ?_⟩
      refine ⟨_, rfl, .inl ⟨rfl, _, SqL.of hRA.1⟩, _, rfl, _, rfl, b, rfl, ⟨_, SqT.of (s1 _ _ h3)⟩, fun L hL => ?_⟩
      refine lc_tup (K := K) (a := b) (xs := vm) (fun j H2 => Same H1 H2 ∧ ∃ ms : List MA, H2 L = some (.lst (ms.map fun m => .ref m.1)) ∧ (∀ m ∈ ms, MAt H2 m) ∧ (L :: (ms.map mA).flatten).Nodup ∧ (∀ x ∈ L :: (ms.map mA).flatten, H1 x = none) ∧ Pd mData (k.2.take j) ms) ⟨Same.new (Same.refl _) hL, [], upd_same, fun _ h => (nomatch h), by simp, fun x hx => by rw [List.mem_singleton.mp (show x ∈ [L] from hx)]; exact hL, .nil⟩ (fun j H2 _ ⟨s2, _⟩ => SqT.of ((s1.trans s2) _ _ h3)) ?_ ?_
      · rintro j y H2 hy ⟨s2, ms, hL2, hms, hnd2, hfr2, hmd⟩
        obtain ⟨m, hm, ma, mb, rfl, hma, hmb⟩ := hM.get hy
        obtain ⟨hj, em⟩ := List.getElem?_eq_some_iff.mp hm
        have s02 := s1.trans s2
        refine ⟨ma, _, rfl, SqT.of (s02 _ _ hma), rfl, _, _, rfl, _, _, rfl, rfl, rfl, yes ?_⟩
        refine ⟨_, rfl, _, rfl, mb, _, rfl, .inr (SqT.of (s02 _ _ hmb)), fun fa hfa => ?_⟩
        have s3 : Same H2 (upd H2 fa (.lst (m.2.map V.str))) := Same.new (Same.refl _) hfa
        have e3 : upd H2 fa (.lst (m.2.map V.str)) fa = some (.lst (m.2.map V.str)) := upd_same
        generalize upd H2 fa (.lst (m.2.map V.str)) = H3 at s3 e3
        refine ⟨by show 2 ≤ sizeLine; decide, fun ad had => ?_⟩
        have s4 : Same H3 (upd H3 ad (.lst [.str m.1, .ref fa])) := Same.new (Same.refl _) had
        have e4 : upd H3 ad (.lst [.str m.1, .ref fa]) ad = some (.lst [.str m.1, .ref fa]) := upd_same
        generalize upd H3 ad (.lst [.str m.1, .ref fa]) = H4 at s4 e4
        have s24 := s3.trans s4
        have hL4 := s24 _ _ hL2
        have kT : KeepT H4 (upd H4 L (.lst ((ms.map fun m => V.ref m.1) ++ [.ref ad]))) := keepT_lst hL4
        have nad : ad ≠ fa := (ne_of_none e3 had).symm
        have nLf : L ≠ fa := ne_of_none hL2 hfa
        have nLa : L ≠ ad := ne_of_none (s3 _ _ hL2) had
        have hthere : ∀ x ∈ L :: (ms.map mA).flatten, ∃ o, H2 x = some o := fun x hx => by
          rcases List.mem_cons.mp hx with rfl | hx
          · exact ⟨_, hL2⟩
          · exact ms_there hms x hx
        have hmsl : ms.length ≤ j := by
          have := hmd.length
          rw [List.length_take] at this
          omega
        have efl : L :: ((ms ++ [(ad, TH.str m.1, fa, m.2.map TH.str)]).map mA).flatten = (L :: (ms.map mA).flatten) ++ [ad, fa] := by
          rw [List.map_append, List.flatten_append]; simp [mA]
        refine ⟨_, hL4, small1000 (by rw [List.length_map]; omega), same_upd (s2.trans s24) hL, ms ++ [(ad, .str m.1, fa, m.2.map TH.str)], by rw [upd_same, List.map_append]; rfl, fun m' hm' => ?_, ?_, fun x hx => ?_, ?_⟩
        · rcases List.mem_append.mp hm' with h | h
          · refine (hms m' h).up s24 kT fun x hx e => ?_
            rw [List.nodup_cons] at hnd2
            exact hnd2.1 (List.mem_flatten.mpr ⟨mA m', List.mem_map.mpr ⟨m', h, rfl⟩, e ▸ hx⟩)
          · rw [List.mem_singleton.mp h]
            exact ⟨.str m.1, m.2.map V.str, by rw [upd_ne nLa.symm]; exact e4, .str _, by rw [upd_ne nLf.symm]; exact s4 _ _ e3, strs_th _⟩
        · rw [efl, List.nodup_append]
          refine ⟨hnd2, by simp [nad], fun x hx y hy => ?_⟩
          obtain ⟨o, ho⟩ := hthere x hx
          simp only [List.mem_cons, List.not_mem_nil, or_false] at hy
          rcases hy with rfl | rfl
          · exact ne_of_none (s3 _ _ ho) had
          · exact ne_of_none ho hfa
        · rw [efl] at hx
          rcases List.mem_append.mp hx with h | h
          · exact hfr2 x h
          · simp only [List.mem_cons, List.not_mem_nil, or_false] at h
            rcases h with rfl | rfl
            · exact (s2.trans s3).free had
            · exact s2.free hfa
        · rw [List.take_succ_eq_append_getElem hj, em]
          exact Pd.append hmd (.cons ⟨rfl, rfl⟩ .nil)
      · rintro H2 ⟨s2, ms, hL2, hms, hnd2, hfr2, hmd⟩
        rw [hvl, List.take_length] at hmd
        refine ⟨by show 2 ≤ sizeLine; decide, fun ad had => ?_⟩
        have s3 : Same H2 (upd H2 ad (.lst [.str k.1, .ref L])) := Same.new (Same.refl _) had
        have e3 : upd H2 ad (.lst [.str k.1, .ref L]) ad = some (.lst [.str k.1, .ref L]) := upd_same
        generalize upd H2 ad (.lst [.str k.1, .ref L]) = H3 at s3 e3
        have s13 := s2.trans s3
        have hR3 := s13 _ _ hRA.1
        have kT : KeepT H3 (upd H3 R (.lst ((ks.map fun k => V.ref k.1) ++ [.ref ad]))) := keepT_lst hR3
        have hthere := ks_there hRA
        have hnew : ∀ x ∈ ad :: L :: (ms.map mA).flatten, ∀ y ∈ rA R ks, y ≠ x := fun x hx y hy => by
          obtain ⟨o, ho⟩ := hthere y hy
          rcases List.mem_cons.mp hx with rfl | hx
          · exact ne_of_none (s2 _ _ ho) had
          · exact ne_of_none ho (hfr2 x hx)
        have hadn : ad ∉ L :: (ms.map mA).flatten := fun hx => by
          have : ∃ o, H2 ad = some o := by
            rcases List.mem_cons.mp hx with e | hx
            · rw [e]; exact ⟨_, hL2⟩
            · exact ms_there hms ad hx
          obtain ⟨o, ho⟩ := this
          rw [had] at ho
          cases ho
        have hksl : ks.length ≤ i := by
          have := hkd.length
          rw [List.length_take] at this
          omega
        have erA : rA R (ks ++ [(ad, TH.str k.1, L, ms)]) = rA R ks ++ (ad :: L :: (ms.map mA).flatten) := by
          unfold rA
          rw [List.map_append, List.flatten_append]; simp [kA]
        have hRin : R ∈ rA R ks := by unfold rA; exact List.mem_cons_self
        refine ⟨R, _, _, rfl, rfl, hR3, small1000 (by rw [List.length_map]; omega), same_upd (s1.trans s13) hR, ⟨fun n => [none, none, some (.str k.1), some (.ref b), w1 4, w1 5].getD n none, rfl⟩, ks ++ [(ad, .str k.1, L, ms)], ⟨by rw [upd_same, List.map_append]; rfl, fun k' hk' => ?_⟩, ?_, fun x hx => ?_, ?_⟩
        · rcases List.mem_append.mp hk' with h | h
          · refine (hRA.2 k' h).up s13 kT fun x hx e => ?_
            have hnd' := hnd
            unfold rA at hnd'
            rw [List.nodup_cons] at hnd'
            exact hnd'.1 (List.mem_flatten.mpr ⟨kA k', List.mem_map.mpr ⟨k', h, rfl⟩, e ▸ hx⟩)
          · rw [List.mem_singleton.mp h]
            have hne : ∀ x ∈ ad :: L :: (ms.map mA).flatten, x ≠ R := fun x hx e => hnew x hx R hRin e.symm
            refine ⟨.str k.1, by rw [upd_ne (hne _ (by simp))]; exact e3, .str _, by rw [upd_ne (hne _ (by simp))]; exact s3 _ _ hL2, fun m hm => (hms m hm).up s3 kT fun x hx => hne x ?_⟩
            exact List.mem_cons_of_mem _ (List.mem_cons_of_mem _ (List.mem_flatten.mpr ⟨mA m, List.mem_map.mpr ⟨m, hm, rfl⟩, hx⟩))
        · rw [erA, List.nodup_append]
          exact ⟨hnd, List.nodup_cons.mpr ⟨hadn, hnd2⟩, fun x hx y hy => hnew y hy x hx⟩
        · rw [erA] at hx
          rcases List.mem_append.mp hx with h | h
          · exact hfr x h
          · rcases List.mem_cons.mp h with rfl | h
            · exact (s1.trans s2).free had
            · exact s1.free (hfr2 x h)
        · rw [List.take_succ_eq_append_getElem hi, ek]
          exact Pd.append hkd (.cons ⟨rfl, hmd⟩ .nil)
    · rintro σ H1 ⟨s1, ⟨w1, rfl⟩, ks, hRA, hnd, hfr, hkd⟩
      rw [hul, List.take_length] at hkd
      exact ⟨_, rfl, q R ks H1 hRA hnd hfr hkd s1⟩

end
end My

set_option Elab.async false
set_option linter.all false
set_option maxRecDepth 100000
set_option maxHeartbeats 4000000
namespace My
open PySem PySem.Spec PyProof.Rows L2 Bk Nm
section
variable {P : Program} {w : World} {K : PySem.W.Frag} {mg : Str → Option Value} {base : Heap} {t : Adr}
def Od (t : TH) : Prop := Sm t ∧ Lay 3 (thData t)
theorem thDatas_is : ∀ ts : List TH, thDatas ts = ts.map thData
  | [] => by rw [thDatas]; rfl
  | t :: r => by rw [thDatas, thDatas_is r]; rfl
theorem od_str {z : Str} (h : z.length ≤ 1000) (h2 : PyData.strOk z = true) : Od (.str z) := ⟨by rw [Sm]; exact h, by rw [thData]; exact Lay.str h2⟩
theorem od_word {z : Str} (h : Nm.Word z) : Od (.str z) := od_str (by have := h.2.1; omega) (strOk_word h)
theorem od_num (n : Int) : Od (.num n) := ⟨by simp [Sm], by rw [thData]; exact Lay.int _⟩
theorem od_tup {ts : List TH} (hl : ts.length ≤ 1000) (h : ∀ t ∈ ts, Sm t ∧ Lay 2 (thData t)) : Od (.tup ts) := ⟨by rw [Sm]; exact ⟨hl, sms_of fun t ht => (h t ht).1⟩, by
  rw [thData, thDatas_is]
  refine Lay.tup fun d hd => ?_
  obtain ⟨t, ht, rfl⟩ := List.mem_map.mp hd
  exact (h t ht).2⟩
def MOk (n : Nat) (m : MA) : Prop := Od m.2.1 ∧ m.2.2.2.length ≤ n ∧ ∀ f ∈ m.2.2.2, Od f
def KOk (n : Nat) (k : KA) : Prop := Od k.2.1 ∧ 1 ≤ k.2.2.2.length ∧ k.2.2.2.length ≤ 7 ∧ ∀ m ∈ k.2.2.2, MOk n m
def ROk (n : Nat) (ks : List KA) : Prop := 1 ≤ ks.length ∧ ks.length ≤ 7 ∧ ∀ k ∈ ks, KOk n k
theorem MOk.mono {n n' : Nat} (hn : n ≤ n') {m : MA} (h : MOk n m) : MOk n' m := ⟨h.1, Nat.le_trans h.2.1 hn, h.2.2⟩
theorem KOk.mono {n n' : Nat} (hn : n ≤ n') {k : KA} (h : KOk n k) : KOk n' k := ⟨h.1, h.2.1, h.2.2.1, fun m hm => (h.2.2.2 m hm).mono hn⟩
theorem ok_ms {ms : List MakeD} {xs : List MA} (h : Pd mData ms xs) (hm : ∀ m ∈ ms, Nm.Word m.1 ∧ m.2.length ≤ 4 ∧ ∀ f ∈ m.2, Nm.Word f) : ∀ x ∈ xs, MOk 4 x := by
  induction h with
  | nil => exact fun _ h => (nomatch h)
  | cons e _ ih =>
    intro x hx
    rcases List.mem_cons.mp hx with rfl | hx
    · obtain ⟨h1, h2, h3⟩ := hm _ List.mem_cons_self
      refine ⟨by rw [e.1]; exact od_word h1, by rw [e.2, List.length_map]; exact h2, fun f hf => ?_⟩
      rw [e.2] at hf
      obtain ⟨z, hz, rfl⟩ := List.mem_map.mp hf
      exact od_word (h3 z hz)
    · exact ih (fun m hm' => hm m (List.mem_cons_of_mem _ hm')) x hx
theorem word_num : Nm.Word ("num" : Str) := by
  refine ⟨by decide +kernel, by decide +kernel, ?_⟩
  decide +kernel
theorem ok_rows {B : BookD} (w : Wf B) {ks : List KA} (h : Pd kData B ks) : ROk 4 ks := by
  have hl := h.length
  refine ⟨by have := w.len1; omega, by have := w.len6; omega, ?_⟩
  have hB : ∀ k ∈ B, Nm.Word k.1 ∧ 1 ≤ k.2.length ∧ k.2.length ≤ 6 ∧ ∀ m ∈ k.2, Nm.Word m.1 ∧ m.2.length ≤ 4 ∧ ∀ f ∈ m.2, Nm.Word f := fun k hk => by
    refine ⟨w.kw _ (List.mem_map.mpr ⟨k, hk, rfl⟩), (w.ms k hk).1, (w.ms k hk).2, fun m hm => ?_⟩
    have hmm : m ∈ makesD B := mem_makesD.mpr ⟨k, hk, hm⟩
    refine ⟨w.mw m hmm, w.fs m hmm, fun f hf => ?_⟩
    rcases w.fk m hmm f hf with e | e
    · rw [e]; exact word_num
    · exact w.kw f e
  clear w hl
  induction h with
  | nil => exact fun _ h => (nomatch h)
  | cons e _ ih =>
    intro x hx
    rcases List.mem_cons.mp hx with rfl | hx
    · obtain ⟨h1, h2, h3, h4⟩ := hB _ List.mem_cons_self
      have hl := e.2.length
      exact ⟨by rw [e.1]; exact od_word h1, by omega, by omega, ok_ms e.2 h4⟩
    · exact ih (fun m hm' => hB m (List.mem_cons_of_mem _ hm')) x hx
def Off (as : List Addr) (H H' : Hp) : Prop := (∀ x o, H x = some o → x ∉ as → H' x = some o) ∧ KeepT H H'
theorem Off.refl (as : List Addr) (H : Hp) : Off as H H := ⟨fun _ _ h _ => h, KeepT.refl _⟩
theorem Off.trans {as : List Addr} {H H1 H2 : Hp} (a : Off as H H1) (b : Off as H1 H2) : Off as H H2 := ⟨fun x o h n => b.1 x o (a.1 x o h n) n, a.2.trans b.2⟩
theorem Off.grow {as as' : List Addr} {H H1 H2 : Hp} (a : Off as H H1) (b : Off as' H1 H2) (h : ∀ x ∈ as', x ∉ as → H x = none) : Off as H H2 := ⟨fun x o hx n => b.1 x o (a.1 x o hx n) (fun c => by rw [h x c n] at hx; cases hx), a.2.trans b.2⟩
theorem Off.of_same {as : List Addr} {H H' : Hp} (s : Same H H') : Off as H H' := ⟨fun x o h _ => s x o h, s.keepT⟩
theorem Off.of_but {as : List Addr} {p : Addr} {H H' : Hp} (hp : PoolAt H p) (h : p ∈ as) (k : KeepBut p H H') : Off as H H' := ⟨fun x o hx n => k x o hx fun e => n (e ▸ h), hp.keepT k⟩
theorem Off.of_upd {as : List Addr} {a : Addr} {H : Hp} {l : List V} {o : HO} (h : a ∈ as) (ha : H a = some (.lst l)) : Off as H (upd H a o) := ⟨fun x u hx n => by rw [upd_ne (fun e : x = a => n (e ▸ h))]; exact hx, keepT_lst ha⟩
theorem Off.free {as : List Addr} {H H' : Hp} (e : Off as H H') {l : Addr} (hl : l ∉ as) (h : H' l = none) : H l = none := by
  cases h2 : H l with
  | none => rfl
  | some o => rw [e.1 l o h2 hl] at h; cases h
/-- the pool and the rows -/
structure RS (n : Nat) (H : Hp) (p R : Addr) (ks : List KA) : Prop where
  pl : PoolAt H p
  rt : RAt H R ks
  nd : (p :: rA R ks).Nodup
  ok : ROk n ks
theorem RS.pn {n : Nat} {H : Hp} {p R : Addr} {ks : List KA} (h : RS n H p R ks) : p ∉ rA R ks := (List.nodup_cons.mp h.nd).1
theorem RS.rn {n : Nat} {H : Hp} {p R : Addr} {ks : List KA} (h : RS n H p R ks) : (rA R ks).Nodup := (List.nodup_cons.mp h.nd).2
theorem RS.next {n : Nat} {H H' : Hp} {p R : Addr} {ks : List KA} (h : RS n H p R ks) (hp : PoolAt H' p) (k : KeepBut p H H') : RS n H' p R ks := by
  refine ⟨hp, h.rt.stay ⟨fun x hx => ?_, h.pl.keepT k⟩, h.nd, h.ok⟩
  obtain ⟨o, ho⟩ := ks_there h.rt x hx
  rw [ho]
  exact k x o ho fun e => h.pn (e ▸ hx)
theorem RS.same {n : Nat} {H H' : Hp} {p R : Addr} {ks : List KA} (h : RS n H p R ks) (s : Same H H') : RS n H' p R ks := by
  obtain ⟨a, b, c, hp⟩ := h.pl
  refine ⟨⟨a, b, c, s _ _ hp⟩, h.rt.stay ⟨fun x hx => ?_, s.keepT⟩, h.nd, h.ok⟩
  obtain ⟨o, ho⟩ := ks_there h.rt x hx
  rw [ho]
  exact s x o ho
theorem pool_up {H : Hp} {p a : Addr} {o : HO} (h : PoolAt H p) (n : p ≠ a) : PoolAt (upd H a o) p := by
  obtain ⟨x, y, z, hp⟩ := h
  exact ⟨x, y, z, by rw [upd_ne n]; exact hp⟩
theorem rA_split (R : Addr) (l1 l2 : List KA) (k : KA) : rA R (l1 ++ k :: l2) = R :: ((l1.map kA).flatten ++ (kA k ++ (l2.map kA).flatten)) := by
  unfold rA
  rw [List.map_append, List.flatten_append, List.map_cons, List.flatten_cons]
theorem kA_split (a : Addr) (nm : TH) (L : Addr) (m1 m2 : List MA) (m : MA) : kA (a, nm, L, m1 ++ m :: m2) = a :: L :: ((m1.map mA).flatten ++ (mA m ++ (m2.map mA).flatten)) := by
  unfold kA
  rw [List.map_append, List.flatten_append, List.map_cons, List.flatten_cons]
theorem in_flat {α : Type} {f : α → List Addr} {l : List α} {k : α} {x : Addr} (hk : k ∈ l) (hx : x ∈ f k) : x ∈ (l.map f).flatten := List.mem_flatten.mpr ⟨f k, List.mem_map.mpr ⟨k, hk, rfl⟩, hx⟩
theorem RAt.others {H H' : Hp} {R : Addr} {l1 l2 : List KA} {k : KA} (h : RAt H R (l1 ++ k :: l2)) (nd : (rA R (l1 ++ k :: l2)).Nodup) (st : ∀ x o, H x = some o → x ∉ kA k → H' x = some o) (kT : KeepT H H') :
    H' R = some (.lst ((l1.map fun k => V.ref k.1) ++ .ref k.1 :: l2.map fun k => V.ref k.1)) ∧ (∀ k0 ∈ l1, KAt H' k0) ∧ ∀ k0 ∈ l2, KAt H' k0 := by
  rw [rA_split, List.nodup_cons, List.nodup_append] at nd
  obtain ⟨nR, _, nd2, nd3⟩ := nd
  rw [List.nodup_append] at nd2
  refine ⟨?_, fun k0 hk => ?_, fun k0 hk => ?_⟩
  · have := st _ _ h.1 fun c => nR (List.mem_append_right _ (List.mem_append_left _ c))
    rw [List.map_append, List.map_cons] at this
    exact this
  · have h0 := h.2 k0 (List.mem_append_left _ hk)
    refine h0.stay ⟨fun x hx => ?_, kT⟩
    obtain ⟨o, ho⟩ := h0.there x hx
    rw [ho]
    exact st x o ho fun c => nd3 x (in_flat hk hx) x (List.mem_append_left _ c) rfl
  · have h0 := h.2 k0 (List.mem_append_right _ (List.mem_cons_of_mem _ hk))
    refine h0.stay ⟨fun x hx => ?_, kT⟩
    obtain ⟨o, ho⟩ := h0.there x hx
    rw [ho]
    exact st x o ho fun c => nd2.2.2 x c x (in_flat hk hx) rfl
theorem KAt.others {H H' : Hp} {a L : Addr} {nm : TH} {m1 m2 : List MA} {m : MA} (h : KAt H (a, nm, L, m1 ++ m :: m2)) (nd : (kA (a, nm, L, m1 ++ m :: m2)).Nodup) (st : ∀ x o, H x = some o → x ∉ mA m → H' x = some o) (kT : KeepT H H') :
    ∃ v, H' a = some (.lst [v, .ref L]) ∧ ThAt H' v nm ∧ H' L = some (.lst ((m1.map fun k => V.ref k.1) ++ .ref m.1 :: m2.map fun k => V.ref k.1)) ∧ (∀ k0 ∈ m1, MAt H' k0) ∧ ∀ k0 ∈ m2, MAt H' k0 := by
  rw [kA_split, List.nodup_cons, List.nodup_cons, List.nodup_append] at nd
  obtain ⟨na, nL, _, nd2, nd3⟩ := nd
  rw [List.nodup_append] at nd2
  obtain ⟨v, h1, h2, h3, h4⟩ := h
  refine ⟨v, st _ _ h1 fun c => na (List.mem_cons_of_mem _ (List.mem_append_right _ (List.mem_append_left _ c))), h2.keep kT, ?_, fun k0 hk => ?_, fun k0 hk => ?_⟩
  · have := st _ _ h3 fun c => nL (List.mem_append_right _ (List.mem_append_left _ c))
    rw [show (a, nm, L, m1 ++ m :: m2).2.2.2 = m1 ++ m :: m2 from rfl, List.map_append, List.map_cons] at this
    exact this
  · have h0 := h4 k0 (List.mem_append_left _ hk)
    refine h0.stay ⟨fun x hx => ?_, kT⟩
    obtain ⟨o, ho⟩ := h0.there x hx
    rw [ho]
    exact st x o ho fun c => nd3 x (in_flat hk hx) x (List.mem_append_left _ c) rfl
  · have h0 := h4 k0 (List.mem_append_right _ (List.mem_cons_of_mem _ hk))
    refine h0.stay ⟨fun x hx => ?_, kT⟩
    obtain ⟨o, ho⟩ := h0.there x hx
    rw [ho]
    exact st x o ho fun c => nd2.2.2 x c x (in_flat hk hx) rfl
theorem nd_k {R : Addr} {l1 l2 : List KA} {k : KA} (nd : (rA R (l1 ++ k :: l2)).Nodup) : (kA k).Nodup := by
  rw [rA_split, List.nodup_cons, List.nodup_append] at nd
  have := nd.2.2.1
  rw [List.nodup_append] at this
  exact this.1
theorem kA_in {R : Addr} {l1 l2 : List KA} {k : KA} : ∀ x ∈ kA k, x ∈ rA R (l1 ++ k :: l2) := fun x hx => by
  rw [rA_split]
  exact List.mem_cons_of_mem _ (List.mem_append_right _ (List.mem_append_left _ hx))
theorem mA_in {a L : Addr} {nm : TH} {m1 m2 : List MA} {m : MA} : ∀ x ∈ mA m, x ∈ kA (a, nm, L, m1 ++ m :: m2) := fun x hx => by
  rw [kA_split]
  exact List.mem_cons_of_mem _ (List.mem_cons_of_mem _ (List.mem_append_right _ (List.mem_append_left _ hx)))
/-- another row in its place -/
theorem RAt.rep {H H' : Hp} {R : Addr} {l1 l2 : List KA} {k k' : KA} (h : RAt H R (l1 ++ k :: l2)) (nd : (rA R (l1 ++ k :: l2)).Nodup) (st : ∀ x o, H x = some o → x ∉ kA k → H' x = some o) (kT : KeepT H H') (e : k'.1 = k.1) (hk : KAt H' k') : RAt H' R (l1 ++ k' :: l2) := by
  obtain ⟨h1, h2, h3⟩ := h.others nd st kT
  refine ⟨by rw [h1, List.map_append, List.map_cons, e], fun k0 h0 => ?_⟩
  rcases List.mem_append.mp h0 with h | h
  · exact h2 k0 h
  · rcases List.mem_cons.mp h with rfl | h
    · exact hk
    · exact h3 k0 h
theorem KAt.rep {H H' : Hp} {a L : Addr} {nm : TH} {m1 m2 : List MA} {m m' : MA} (h : KAt H (a, nm, L, m1 ++ m :: m2)) (nd : (kA (a, nm, L, m1 ++ m :: m2)).Nodup) (st : ∀ x o, H x = some o → x ∉ mA m → H' x = some o) (kT : KeepT H H') (e : m'.1 = m.1) (hk : MAt H' m') : KAt H' (a, nm, L, m1 ++ m' :: m2) := by
  obtain ⟨v, h1, h2, h3, h4, h5⟩ := h.others nd st kT
  refine ⟨v, h1, h2, by rw [show (a, nm, L, m1 ++ m' :: m2).2.2.2 = m1 ++ m' :: m2 from rfl, List.map_append, List.map_cons, e]; exact h3, fun k0 h0 => ?_⟩
  rcases List.mem_append.mp h0 with h | h
  · exact h4 k0 h
  · rcases List.mem_cons.mp h with rfl | h
    · exact hk
    · exact h5 k0 h
theorem NtsAt.append {H : Hp} : ∀ {vs us : List V} {ps qs : List NT}, NtsAt H vs ps → NtsAt H us qs → NtsAt H (vs ++ us) (ps ++ qs)
  | _, _, _, _, .nil, h => h
  | _, _, _, _, .cons h t, h2 => .cons h (NtsAt.append t h2)
theorem RAt.repN {H H' : Hp} {R : Addr} {l1 l2 : List KA} {k : KA} {nt : NT} (h : RAt H R (l1 ++ k :: l2)) (nd : (rA R (l1 ++ k :: l2)).Nodup) (st : ∀ x o, H x = some o → x ∉ kA k → H' x = some o) (kT : KeepT H H') (hk : NtAt H' (.ref k.1) nt) : NtAt H' (.ref R) (.lst (l1.map kNT ++ nt :: l2.map kNT)) := by
  obtain ⟨h1, h2, h3⟩ := h.others nd st kT
  exact .lst h1 ((nts_ks h2).append (.cons hk (nts_ks h3)))
theorem KAt.repN {H H' : Hp} {a L : Addr} {nm : TH} {m1 m2 : List MA} {m : MA} {nt : NT} (h : KAt H (a, nm, L, m1 ++ m :: m2)) (nd : (kA (a, nm, L, m1 ++ m :: m2)).Nodup) (st : ∀ x o, H x = some o → x ∉ mA m → H' x = some o) (kT : KeepT H H') (hk : NtAt H' (.ref m.1) nt) : NtAt H' (.ref a) (.lst [.th nm, .lst (m1.map mNT ++ nt :: m2.map mNT)]) := by
  obtain ⟨v, h1, h2, h3, h4, h5⟩ := h.others nd st kT
  exact .lst h1 (.cons (.th h2) (.cons (.lst h3 ((nts_ms h4).append (.cons hk (nts_ms h5)))) .nil))
def NtFin : Nat → NT → Prop
  | 0, _ => False
  | _ + 1, .th t => Od t
  | n + 1, .lst ns => ns.length ≤ 50 ∧ ∀ x ∈ ns, NtFin n x
theorem NtFin.ok : ∀ {n : Nat} {x : NT}, NtFin n x → NtOk n x ∧ Sm (shutD x) ∧ Lay (n + 3) (thData (shutD x))
  | 0, _, h => h.elim
  | n + 1, .th t, h => by
    have h : Od t := h
    rw [shutD]
    exact ⟨trivial, h.1, h.2.mono (by omega)⟩
  | n + 1, .lst ns, h => by
    have h : ns.length ≤ 50 ∧ ∀ x ∈ ns, NtFin n x := h
    have ih := fun x hx => (h.2 x hx).ok
    rw [shutD, shutDs_map]
    refine ⟨⟨by omega, fun x hx => (ih x hx).1⟩, ?_, ?_⟩
    · rw [Sm]
      refine ⟨by rw [List.length_map]; omega, sms_of fun t ht => ?_⟩
      obtain ⟨x, hx, rfl⟩ := List.mem_map.mp ht
      exact (ih x hx).2.1
    · rw [thData, thDatas_is]
      refine (Lay.tup (n := n + 3) fun d hd => ?_).mono (by omega)
      obtain ⟨t, ht, rfl⟩ := List.mem_map.mp hd
      obtain ⟨x, hx, rfl⟩ := List.mem_map.mp ht
      exact (ih x hx).2.2
theorem fin_fs {n k : Nat} {fs : List TH} (hn : n ≤ 50) (h : fs.length ≤ n) (ho : ∀ f ∈ fs, Od f) : NtFin (k + 2) (.lst (fs.map NT.th)) := by
  refine ⟨by rw [List.length_map]; omega, fun x hx => ?_⟩
  obtain ⟨f, hf, rfl⟩ := List.mem_map.mp hx
  exact ho f hf
theorem fin2 {k : Nat} {x y : NT} (hx : NtFin k x) (hy : NtFin k y) : NtFin (k + 1) (.lst [x, y]) := by
  refine ⟨by show 2 ≤ 50; decide, fun z hz => ?_⟩
  simp only [List.mem_cons, List.not_mem_nil, or_false] at hz
  rcases hz with rfl | rfl
  · exact hx
  · exact hy
theorem fin3 {k : Nat} {x y u : NT} (hx : NtFin k x) (hy : NtFin k y) (hu : NtFin k u) : NtFin (k + 1) (.lst [x, y, u]) := by
  refine ⟨by show 3 ≤ 50; decide, fun z hz => ?_⟩
  simp only [List.mem_cons, List.not_mem_nil, or_false] at hz
  rcases hz with rfl | rfl | rfl
  · exact hx
  · exact hy
  · exact hu
theorem fin_m {n : Nat} (hn : n ≤ 50) {m : MA} (h : MOk n m) : NtFin 3 (mNT m) := fin2 (k := 2) h.1 (fin_fs hn h.2.1 h.2.2)
theorem fin_k {n : Nat} (hn : n ≤ 50) {k : KA} (h : KOk n k) : NtFin 5 (kNT k) := by
  refine fin2 (k := 4) h.1 ⟨by rw [List.length_map]; have := h.2.2.1; omega, fun x hx => ?_⟩
  obtain ⟨m, hm, rfl⟩ := List.mem_map.mp hx
  exact fin_m hn (h.2.2.2 m hm)
theorem fin_r {n : Nat} (hn : n ≤ 50) {ks : List KA} (h : ROk n ks) : NtFin 6 (.lst (ks.map kNT)) := by
  refine ⟨by rw [List.length_map]; have := h.2.1; omega, fun x hx => ?_⟩
  obtain ⟨k, hk, rfl⟩ := List.mem_map.mp hx
  exact fin_k hn (h.2.2 k hk)
theorem fin_at {l1 l2 : List NT} {k : Nat} {x : NT} (hl : l1.length + l2.length ≤ 40) (h1 : ∀ y ∈ l1, NtFin k y) (h2 : ∀ y ∈ l2, NtFin k y) (hx : NtFin k x) : NtFin (k + 1) (.lst (l1 ++ x :: l2)) := by
  refine ⟨by rw [List.length_append, List.length_cons]; omega, fun y hy => ?_⟩
  rcases List.mem_append.mp hy with h | h
  · exact h1 y h
  · rcases List.mem_cons.mp h with rfl | h
    · exact hx
    · exact h2 y h
theorem fin_rAt {n : Nat} (hn : n ≤ 50) {l1 l2 : List KA} {k : KA} {x : NT} (h : ROk n (l1 ++ k :: l2)) (hx : NtFin 5 x) : NtFin 6 (.lst (l1.map kNT ++ x :: l2.map kNT)) := by
  have hl := h.2.1
  rw [List.length_append, List.length_cons] at hl
  refine fin_at (by rw [List.length_map, List.length_map]; omega) (fun y hy => ?_) (fun y hy => ?_) hx
  · obtain ⟨k0, hk, rfl⟩ := List.mem_map.mp hy
    exact fin_k hn (h.2.2 k0 (List.mem_append_left _ hk))
  · obtain ⟨k0, hk, rfl⟩ := List.mem_map.mp hy
    exact fin_k hn (h.2.2 k0 (List.mem_append_right _ (List.mem_cons_of_mem _ hk)))
theorem fin_kAt {n : Nat} (hn : n ≤ 50) {a L : Addr} {nm : TH} {l1 l2 : List MA} {k : MA} {x : NT} (h : KOk n (a, nm, L, l1 ++ k :: l2)) (hx : NtFin 3 x) : NtFin 5 (.lst [.th nm, .lst (l1.map mNT ++ x :: l2.map mNT)]) := by
  have hl := h.2.2.1
  rw [show (a, nm, L, l1 ++ k :: l2).2.2.2 = l1 ++ k :: l2 from rfl, List.length_append, List.length_cons] at hl
  refine fin2 (k := 4) h.1 (fin_at (by rw [List.length_map, List.length_map]; omega) (fun y hy => ?_) (fun y hy => ?_) hx)
  · obtain ⟨k0, hk, rfl⟩ := List.mem_map.mp hy
    exact fin_m hn (h.2.2.2 k0 (List.mem_append_left _ hk))
  · obtain ⟨k0, hk, rfl⟩ := List.mem_map.mp hy
    exact fin_m hn (h.2.2.2 k0 (List.mem_append_right _ (List.mem_cons_of_mem _ hk)))

end
end My

set_option Elab.async false
set_option linter.all false
set_option maxRecDepth 100000
set_option maxHeartbeats 4000000
namespace My
open PySem PySem.Spec PyProof.Rows L2 Bk Nm
section
variable {P : Program} {w : World} {K : PySem.W.Frag} {mg : Str → Option Value} {base : Heap} {t : Adr}
def spOdd (n : Nat) : Sp := fun vs H Q _ => ∃ (p R : Addr) (ks : List KA), vs = [.ref p, .ref R] ∧ RS n H p R ks ∧ ∀ v t H', ThAt H' v t → Od t → PoolAt H' p → KeepBut p H H' → Q v H'
set_option maxHeartbeats 0 in
theorem ok_law_odd (T : Txt K mg t) (n : Nat) : FnOk P w K mg base CX0 4 t.f_law_odd t.d_law_odd ["pool", "rows"] (spOdd n) := by
  have G_law_next : FnOk P w K mg base CX0 1 t.f_law_next t.d_law_next ["pool", "base"] spNext := ok_law_next T
  have G_law_any_name : FnOk P w K mg base CX0 3 t.f_law_any_name t.d_law_any_name ["pool", "taken"] (spAny K) := ok_law_any_name T
  refine T.F_law_odd.ok sc_law_odd (fun vs H Q E h => ?_) (fun cdv A outer s H vs Q E hr h => ?_)
  · obtain ⟨_, _, _, rfl, _⟩ := h
    rfl
  · obtain ⟨p, R, ks, rfl, hs, q⟩ := h
    refine ⟨_, (pss_cons (ps_asg (pe_ix ix_list (pe_var (i := 1) rfl v_law_odd_rows db_rows cd_rows) (pe_call G_law_next (hr.mono (by omega)) g_law_odd_law_next T.m_law_next T.F_law_next.kp T.b_law_next .nil pass0 (pa_cons (pe_var (i := 0) rfl v_law_odd_pool db_pool cd_pool) (pa_cons (pe_callB call_len_seq g_law_odd_len T.z_len bt_len (pa_cons (pe_var (i := 1) rfl v_law_odd_rows db_rows cd_rows) pa_nil) nn_len db_len) pa_nil)) db_law_next) (fun _ _ => rfl)) (pg_tupL (K := K) rfl (by rfl) (pgs_cons (pg_name (i := 3) sc_law_odd.nd rfl l_law_odd_kind (.inl rfl)) (pgs_cons (pg_name (i := 4) sc_law_odd.nd rfl l_law_odd_makes (.inl rfl)) pgs_nil))))
  (pss_cons (ps_set (i := 2) sc_law_odd.nd rfl l_law_odd_some (pe_lst (pa_cons pe_str (pa_cons pe_str (pa_cons pe_str (pa_cons pe_str (pa_cons pe_str (pa_cons pe_int (pa_cons (pe_tup pa_nil) (pa_cons (pe_tup (pa_cons pe_str pa_nil)) (pa_cons pe_str pa_nil)))))))))))
  (pss_cons (ps_expr (pe_bm PySem.F.plainAttrs_list PySem.F.slot_list_extend PySem.F.type_list_extend mt_extend (pe_var (i := 2) rfl v_law_odd_some db_some cd_some) (pa_cons (pe_lst (pa_cons (pe_var (i := 3) rfl v_law_odd_kind db_kind cd_kind) (pa_cons (pe_ix ix_list (pe_ix ix_list (pe_var (i := 4) rfl v_law_odd_makes db_makes cd_makes) (pe_call G_law_next (hr.mono (by omega)) g_law_odd_law_next T.m_law_next T.F_law_next.kp T.b_law_next .nil pass0 (pa_cons (pe_var (i := 0) rfl v_law_odd_pool db_pool cd_pool) (pa_cons (pe_callB call_len_seq g_law_odd_len T.z_len bt_len (pa_cons (pe_var (i := 4) rfl v_law_odd_makes db_makes cd_makes) pa_nil) nn_len db_len) pa_nil)) db_law_next) (fun _ _ => rfl)) pe_int (fun _ _ => rfl)) (pa_cons (pe_call G_law_any_name (hr.mono (by omega)) g_law_odd_law_any_name T.m_law_any_name T.F_law_any_name.kp T.b_law_any_name .nil pass0 (pa_cons (pe_var (i := 0) rfl v_law_odd_pool db_pool cd_pool) (pa_cons (pe_lst pa_nil) pa_nil)) db_law_any_name) pa_nil)))) pa_nil)))
  (pss_one (ps_ret (pe_ix ix_list (pe_var (i := 2) rfl v_law_odd_some db_some cd_some) (pe_call G_law_next (hr.mono (by omega)) g_law_odd_law_next T.m_law_next T.F_law_next.kp T.b_law_next .nil pass0 (pa_cons (pe_var (i := 0) rfl v_law_odd_pool db_pool cd_pool) (pa_cons (pe_callB call_len_seq g_law_odd_len T.z_len bt_len (pa_cons (pe_var (i := 2) rfl v_law_odd_some db_some cd_some) pa_nil) nn_len db_len) pa_nil)) db_law_next) (fun _ _ => rfl))))))), ?_⟩
    have hR := hs.rt.1
    have hl := hs.ok
    refine ⟨_, rfl, _, rfl, _, rfl, R, _, rfl, .inl (SqL.of hR), p, _, rfl, hs.pl, ?_, ?_, fun r H1 r1 hp1 k1 => ?_⟩
    · rw [List.length_map]; have := hl.1; omega
    · exact log_small (by rw [List.length_map]; have := hl.2.1; omega)
    rw [List.length_map] at r1
    have hr2 : r < ks.length := by omega
    have hs1 := hs.next hp1 k1
    have hkg : ks[r]? = some ks[r] := List.getElem?_eq_getElem hr2
    generalize ks[r] = k at hkg
    have hkm : k ∈ ks := List.mem_of_getElem? hkg
    obtain ⟨v, u1, u2, u3, u4⟩ := hs1.rt.2 k hkm
    have hko := hs.ok.2.2 k hkm
    refine ⟨R, _, _, _, rfl, rfl, SqL.of hs1.rt.1, atI_nat (by rw [List.getElem?_map, hkg]; rfl), ?_⟩
    refine ⟨k.1, _, rfl, SqL.of u1, rfl, _, _, rfl, _, _, rfl, rfl, ?_⟩
    refine ⟨by show 0 ≤ sizeLine; decide, fun a0 ha0 => ⟨by show 1 ≤ sizeLine; decide, fun a1 ha1 => ⟨by show 9 ≤ sizeLine; decide, fun S hS => ?_⟩⟩⟩
    have s2 := Same.new (o := .lst [V.str "", V.str "num", V.str "abcdefghi", V.str "Ab", V.str "a1", V.int 7, V.ref a0, V.ref a1, V.str "a b"]) (Same.new (o := .tup [V.str "a"]) (Same.new (o := .tup []) (Same.refl H1) ha0) ha1) hS
    have e0 : upd (upd H1 a0 (.tup [])) a1 (.tup [V.str "a"]) a0 = some (.tup []) := by rw [upd_ne (ne_of_none upd_same ha1)]; exact upd_same
    have t0 : upd (upd (upd H1 a0 (.tup [])) a1 (.tup [V.str "a"])) S (.lst [V.str "", V.str "num", V.str "abcdefghi", V.str "Ab", V.str "a1", V.int 7, V.ref a0, V.ref a1, V.str "a b"]) a0 = some (.tup []) := by rw [upd_ne (ne_of_none e0 hS)]; exact e0
    have t1 : upd (upd (upd H1 a0 (.tup [])) a1 (.tup [V.str "a"])) S (.lst [V.str "", V.str "num", V.str "abcdefghi", V.str "Ab", V.str "a1", V.int 7, V.ref a0, V.ref a1, V.str "a b"]) a1 = some (.tup [V.str "a"]) := by rw [upd_ne (ne_of_none upd_same hS)]; exact upd_same
    have t2 : upd (upd (upd H1 a0 (.tup [])) a1 (.tup [V.str "a"])) S (.lst [V.str "", V.str "num", V.str "abcdefghi", V.str "Ab", V.str "a1", V.int 7, V.ref a0, V.ref a1, V.str "a b"]) S = some (.lst [V.str "", V.str "num", V.str "abcdefghi", V.str "Ab", V.str "a1", V.int 7, V.ref a0, V.ref a1, V.str "a b"]) := upd_same
    have hS1 : H1 S = none := (Same.new (o := .tup [V.str "a"]) (Same.new (o := .tup []) (Same.refl H1) ha0) ha1).free hS
    have hSf : H S = none := keepBut_none k1 hs.pl hS1 hp1
    generalize upd (upd (upd H1 a0 (.tup [])) a1 (.tup [V.str "a"])) S (.lst [V.str "", V.str "num", V.str "abcdefghi", V.str "Ab", V.str "a1", V.int 7, V.ref a0, V.ref a1, V.str "a b"]) = H2 at s2 t0 t1 t2
    have hs2 := hs1.same s2
    obtain ⟨w2, g1, g2, g3, g4⟩ := hs2.rt.2 k hkm
    have hml := hko.2.1
    have hml7 := hko.2.2.1
    refine ⟨_, rfl, .inl ⟨rfl, _, SqL.of t2⟩, _, rfl, _, rfl, _, rfl, _, rfl, k.2.2.1, _, rfl, .inl (SqL.of g3), p, _, rfl, hs2.pl, ?_, ?_, fun r3 H3 r3l hp3 k3 => ?_⟩
    · rw [List.length_map]; omega
    · exact log_small (by rw [List.length_map]; omega)
    rw [List.length_map] at r3l
    have hr3 : r3 < k.2.2.2.length := by omega
    have hs3 := hs2.next hp3 k3
    have hmg : k.2.2.2[r3]? = some k.2.2.2[r3] := List.getElem?_eq_getElem hr3
    generalize k.2.2.2[r3] = m at hmg
    have hmm : m ∈ k.2.2.2 := List.mem_of_getElem? hmg
    obtain ⟨w3, f1, f2, f3, f4⟩ := hs3.rt.2 k hkm
    obtain ⟨mv, fvs, m1, m2, m3, m4⟩ := f4 m hmm
    refine ⟨k.2.2.1, _, _, _, rfl, rfl, SqL.of f3, atI_nat (by rw [List.getElem?_map, hmg]; rfl), ?_⟩
    refine ⟨m.1, _, _, _, rfl, rfl, SqL.of m1, rfl, ?_⟩
    refine ⟨_, rfl, by show 0 ≤ sizeLine; decide, fun tk htk => ⟨p, tk, [], rfl, ?_, SqL.of upd_same, ?_, by decide, fun z H4 wz _ hp4 k4 => ?_⟩⟩
    · exact (hs3.same (Same.new (Same.refl H3) htk)).pl
    · obtain ⟨_, _, _, e⟩ := hp3
      exact ne_of_none e htk
    have k34 : KeepBut p H3 H4 := ((KeepBut.refl p H3).new htk).trans k4
    have T34 : KeepT H3 H4 := (Same.new (o := .lst []) (Same.refl H3) htk).keepT.trans ((hs3.same (Same.new (Same.refl H3) htk)).pl.keepT k4)
    refine ⟨by show 3 ≤ sizeLine; decide, fun D hD => ?_⟩
    have s45 := Same.new (o := .lst [v, mv, V.str z]) (Same.refl H4) hD
    have eD : upd H4 D (.lst [v, mv, V.str z]) D = some (.lst [v, mv, V.str z]) := upd_same
    generalize upd H4 D (.lst [v, mv, V.str z]) = H5 at s45 eD
    have npS : S ≠ p := by
      obtain ⟨_, _, _, e⟩ := hs.pl
      exact (ne_of_none e hSf).symm
    have t5 := s45 _ _ (k34 _ _ (k3 _ _ t2 npS) npS)
    have k05 : KeepBut p H H5 := fun b o h n => s45 _ _ (k34 _ _ (k3 _ _ (s2 _ _ (k1 b o h n)) n) n)
    have T25 : KeepT H2 H5 := (hs2.pl.keepT k3).trans (T34.trans s45.keepT)
    refine ⟨S, D, _, _, rfl, rfl, t5, eD, by show 9 + 3 ≤ sizeLine; decide, ?_⟩
    have T56 : KeepT H5 (upd H5 S (.lst ([V.str "", V.str "num", V.str "abcdefghi", V.str "Ab", V.str "a1", V.int 7, V.ref a0, V.ref a1, V.str "a b"] ++ [v, mv, V.str z]))) := keepT_lst t5
    have k06 : KeepBut p H (upd H5 S (.lst ([V.str "", V.str "num", V.str "abcdefghi", V.str "Ab", V.str "a1", V.int 7, V.ref a0, V.ref a1, V.str "a b"] ++ [v, mv, V.str z]))) := k05.updN hSf
    have hp6 : PoolAt (upd H5 S (.lst ([V.str "", V.str "num", V.str "abcdefghi", V.str "Ab", V.str "a1", V.int 7, V.ref a0, V.ref a1, V.str "a b"] ++ [v, mv, V.str z]))) p := by
      obtain ⟨x, y, u, e⟩ := hp4
      exact ⟨x, y, u, by rw [upd_ne npS.symm]; exact s45 _ _ e⟩
    have t6 : upd H5 S (.lst ([V.str "", V.str "num", V.str "abcdefghi", V.str "Ab", V.str "a1", V.int 7, V.ref a0, V.ref a1, V.str "a b"] ++ [v, mv, V.str z])) S = some (.lst ([V.str "", V.str "num", V.str "abcdefghi", V.str "Ab", V.str "a1", V.int 7, V.ref a0, V.ref a1, V.str "a b"] ++ [v, mv, V.str z])) := upd_same
    generalize upd H5 S (.lst ([V.str "", V.str "num", V.str "abcdefghi", V.str "Ab", V.str "a1", V.int 7, V.ref a0, V.ref a1, V.str "a b"] ++ [v, mv, V.str z])) = H6 at T56 k06 hp6 t6
    refine ⟨_, rfl, _, rfl, _, rfl, S, _, rfl, .inl (SqL.of t6), p, _, rfl, hp6, by show (0 : Int) < 12; decide, by show (12 : Int).natAbs.log2 < 9000; decide, fun r7 H7 r7l hp7 k7 => ?_⟩
    have T67 := hp6.keepT k7
    have t7 := k7 _ _ t6 npS
    have T27 := T25.trans (T56.trans T67)
    have hts : ThsAt H7 ([V.str "", V.str "num", V.str "abcdefghi", V.str "Ab", V.str "a1", V.int 7, V.ref a0, V.ref a1, V.str "a b"] ++ [v, mv, V.str z]) [.str "", .str "num", .str "abcdefghi", .str "Ab", .str "a1", .num 7, .tup [], .tup [.str "a"], .str "a b", k.2.1, m.2.1, .str z] :=
      .cons (.str _) (.cons (.str _) (.cons (.str _) (.cons (.str _) (.cons (.str _) (.cons (.num _) (.cons (.tup (T27 _ _ t0) .nil) (.cons (.tup (T27 _ _ t1) (.cons (.str _) .nil)) (.cons (.str _) (.cons ((u2.keep s2.keepT).keep T27) (.cons (m2.keep (T34.trans (s45.keepT.trans (T56.trans T67)))) (.cons (.str _) .nil)))))))))))
    have r12 : r7 < 12 := by have : (r7 : Int) < 12 := r7l; omega
    have hvx : ([V.str "", V.str "num", V.str "abcdefghi", V.str "Ab", V.str "a1", V.int 7, V.ref a0, V.ref a1, V.str "a b"] ++ [v, mv, V.str z])[r7]? = some (([V.str "", V.str "num", V.str "abcdefghi", V.str "Ab", V.str "a1", V.int 7, V.ref a0, V.ref a1, V.str "a b"] ++ [v, mv, V.str z])[r7]'r12) := List.getElem?_eq_getElem r12
    generalize ([V.str "", V.str "num", V.str "abcdefghi", V.str "Ab", V.str "a1", V.int 7, V.ref a0, V.ref a1, V.str "a b"] ++ [v, mv, V.str z])[r7]'r12 = vx at hvx
    obtain ⟨tx, htx, hvt⟩ := hts.get hvx
    refine ⟨S, _, _, _, rfl, rfl, SqL.of t7, atI_nat hvx, ?_⟩
    refine q vx tx H7 hvt ?_ hp7 (k06.trans k7)
    have hmem := List.mem_of_getElem? htx
    simp only [List.mem_cons, List.not_mem_nil, or_false] at hmem
    rcases hmem with rfl | rfl | rfl | rfl | rfl | rfl | rfl | rfl | rfl | rfl | rfl | rfl
    · exact od_str (by decide) (by decide +kernel)
    · exact od_str (by decide) (by decide +kernel)
    · exact od_str (by decide) (by decide +kernel)
    · exact od_str (by decide) (by decide +kernel)
    · exact od_str (by decide) (by decide +kernel)
    · exact od_num _
    · exact od_tup (by decide) fun _ h => (nomatch h)
    · refine od_tup (by decide) fun t ht => ?_
      rw [List.mem_singleton.mp ht]
      exact ⟨(od_str (z := "a") (by decide) (by decide +kernel)).1, by rw [thData]; exact Lay.str (by decide +kernel)⟩
    · exact od_str (by decide) (by decide +kernel)
    · exact hko.1
    · exact (hko.2.2.2 m hmm).1
    · exact od_word wz

end
end My

set_option Elab.async false
set_option linter.all false
set_option maxRecDepth 100000
set_option maxHeartbeats 4000000
namespace My
open PySem PySem.Spec PyProof.Rows L2 Bk Nm
section
variable {P : Program} {w : World} {K : PySem.W.Frag} {mg : Str → Option Value} {base : Heap} {t : Adr}
def spFresh (n : Nat) : Sp := fun vs H Q _ => ∃ (p R : Addr) (ks : List KA), vs = [.ref p, .ref R] ∧ RS n H p R ks ∧ ∀ z H', Word z → PoolAt H' p → KeepBut p H H' → Q (.str z) H'
theorem ok_law_fresh (T : Txt K mg t) (n : Nat) : FnOk P w K mg base CX0 3 t.f_law_fresh t.d_law_fresh ["pool", "rows"] (spFresh n) := by
  have G_law_next : FnOk P w K mg base CX0 1 t.f_law_next t.d_law_next ["pool", "base"] spNext := ok_law_next T
  have G_law_spelt : FnOk P w K mg base CX0 1 t.f_law_spelt t.d_law_spelt ["number", "size"] spSpelt := ok_law_spelt T
  refine T.F_law_fresh.ok sc_law_fresh (fun vs H Q E h => ?_) (fun cdv A outer s H vs Q E hr h => ?_)
  · obtain ⟨_, _, _, rfl, _⟩ := h
    rfl
  · obtain ⟨p, R, ks, rfl, hs, q⟩ := h
    refine ⟨_, (pss_cons (ps_set (i := 2) sc_law_fresh.nd rfl l_law_fresh_taken (pe_lst pa_nil))
  (pss_cons (ps_for PassesOwn.never rfl (pi_list (pe_var (i := 1) rfl v_law_fresh_rows db_rows cd_rows)) (pg_tupL (K := K) rfl (by rfl) (pgs_cons (pg_name (i := 5) sc_law_fresh.nd rfl l_law_fresh_kind (.inl rfl)) (pgs_cons (pg_name (i := 6) sc_law_fresh.nd rfl l_law_fresh_makes (.inl rfl)) pgs_nil))) (pss_cons (ps_expr (pe_bm PySem.F.plainAttrs_list PySem.F.slot_list_append PySem.F.type_list_append mt_append (pe_var (i := 2) rfl v_law_fresh_taken db_taken cd_taken) (pa_cons (pe_var (i := 5) rfl v_law_fresh_kind db_kind cd_kind) pa_nil)))
  (pss_one (ps_expr (pe_bm PySem.F.plainAttrs_list PySem.F.slot_list_extend PySem.F.type_list_extend mt_extend (pe_var (i := 2) rfl v_law_fresh_taken db_taken cd_taken) (pa_cons (pe_lc (own := [("make", 7)]) (by rfl) sc_law_fresh.nd (pi_list (pe_var (i := 6) rfl v_law_fresh_makes db_makes cd_makes)) (blkOk_by (own := [("make", 7)]) (N := ["pool", "rows", "taken", "number", "turn", "kind", "makes", "make"]) (sc := defScope s_law_fresh) (by decide +kernel)) (fun _ _ _ _ _ => (pg_name (i := 7) sc_law_fresh.nd rfl (by first | exact Or.inl rfl | exact Or.inr rfl))) (fun _ _ _ _ _ => pts_nil) (fun _ _ _ _ _ => (pe_ix (ix_listK (K := K) rfl) (pv 7) pe_int (fun _ _ => rfl)))) pa_nil))))))
  (pss_cons (ps_set (i := 3) sc_law_fresh.nd rfl l_law_fresh_number (pe_call G_law_next (hr.mono (by omega)) g_law_fresh_law_next T.m_law_next T.F_law_next.kp T.b_law_next .nil pass0 (pa_cons (pe_var (i := 0) rfl v_law_fresh_pool db_pool cd_pool) (pa_cons (pe_op op_pow pe_int pe_int) pa_nil)) db_law_next))
  (pss_cons (ps_for PassesOwn.never rfl (pi_range1 g_law_fresh_range T.z_range (pa_cons (pe_callB call_len_seq g_law_fresh_len T.z_len bt_len (pa_cons (pe_var (i := 2) rfl v_law_fresh_taken db_taken cd_taken) pa_nil) nn_len db_len) pa_nil)) (pg_name (i := 4) sc_law_fresh.nd rfl l_law_fresh_turn (.inl rfl)) (pss_one (ps_if (pt_cmpR (op_inD (hu65 hr)) (pe_call G_law_spelt (hr.mono (by omega)) g_law_fresh_law_spelt T.m_law_spelt T.F_law_spelt.kp T.b_law_spelt .nil pass0 (pa_cons (pe_var (i := 3) rfl v_law_fresh_number db_number cd_number) (pa_cons pe_int pa_nil)) db_law_spelt) (pe_var (i := 2) rfl v_law_fresh_taken db_taken cd_taken) (by rfl)) (pss_one (ps_set (i := 3) sc_law_fresh.nd rfl l_law_fresh_number (pe_op op_add (pe_var (i := 3) rfl v_law_fresh_number db_number cd_number) pe_int))) pss_nil)))
  (pss_one (ps_ret (pe_call G_law_spelt (hr.mono (by omega)) g_law_fresh_law_spelt T.m_law_spelt T.F_law_spelt.kp T.b_law_spelt .nil pass0 (pa_cons (pe_var (i := 3) rfl v_law_fresh_number db_number cd_number) (pa_cons pe_int pa_nil)) db_law_spelt))))))), ?_⟩
    refine ⟨by show 0 ≤ sizeLine; decide, fun tk htk => ?_⟩
    have s0 : Same H (upd H tk (.lst [])) := Same.new (Same.refl _) htk
    have e0 : upd H tk (.lst []) tk = some (.lst []) := upd_same
    generalize upd H tk (.lst []) = H0 at s0 e0
    have hR := hs.rt.1
    have hl7 := hs.ok.2.1
    refine ⟨_, rfl, R, rfl, ⟨_, SqL.of (s0 _ _ hR)⟩, for_list (K := K) (a := R) (xs := ks.map fun k => V.ref k.1) (fun i σ H' => Same H H' ∧ (∃ w : Nat → Option V, σ = [some (.ref p), some (.ref R), some (.ref tk), w 3, w 4, w 5, w 6, w 7]) ∧ ∃ vs ts, H' tk = some (.lst vs) ∧ ThsAt H' vs ts ∧ (∀ t ∈ ts, Od t) ∧ ts.length ≤ 8 * i) ⟨s0, ⟨fun _ => none, rfl⟩, [], [], e0, .nil, fun _ h => (nomatch h), by simp⟩ (fun i σ H' _ ⟨s1, _⟩ => SqL.of (s1 _ _ hR)) ?_ ?_⟩
    · rintro i x σ H1 hx ⟨s1, ⟨w1, rfl⟩, vs, ts, ht1, hts, hod, hln⟩
      rw [List.getElem?_map] at hx
      obtain ⟨k, hk, rfl⟩ := Option.map_eq_some_iff.mp hx
      obtain ⟨hi, _⟩ := List.getElem?_eq_some_iff.mp hk
      have hkm : k ∈ ks := List.mem_of_getElem? hk
      have hko := hs.ok.2.2 k hkm
      have hk7 := hko.2.2.1
      have hvl := hts.length
      obtain ⟨v, u1, u2, u3, u4⟩ := (hs.same s1).rt.2 k hkm
      refine ⟨k.1, _, rfl, SqL.of u1, rfl, _, _, rfl, _, _, rfl, rfl, ?_⟩
      refine ⟨_, rfl, .inl ⟨rfl, _, SqL.of ht1⟩, _, rfl, tk, _, _, rfl, rfl, ht1, small1000 (by omega), ?_⟩
      have s2 : Same H (upd H1 tk (.lst (vs ++ [v]))) := same_upd s1 htk
      have e2 : upd H1 tk (.lst (vs ++ [v])) tk = some (.lst (vs ++ [v])) := upd_same
      have T2 : KeepT H1 (upd H1 tk (.lst (vs ++ [v]))) := keepT_lst ht1
      generalize upd H1 tk (.lst (vs ++ [v])) = H2 at s2 e2 T2
      obtain ⟨v', u1', u2', u3', u4'⟩ := (hs.same s2).rt.2 k hkm
      refine ⟨_, rfl, .inl ⟨rfl, _, SqL.of e2⟩, _, rfl, k.2.2.1, rfl, ⟨_, SqL.of u3'⟩, fun L hL => ?_⟩
      refine lc_list (K := K) (a := k.2.2.1) (xs := k.2.2.2.map fun m => V.ref m.1) (fun j H' => Same H2 H' ∧ ∃ acc ats, H' L = some (.lst acc) ∧ ThsAt H' acc ats ∧ (∀ t ∈ ats, Od t) ∧ ats.length = j) ⟨Same.new (Same.refl _) hL, [], [], upd_same, .nil, fun _ h => (nomatch h), rfl⟩ (fun j H' _ ⟨s3, _⟩ => SqL.of (s3 _ _ u3')) ?_ ?_
      · rintro j y H3 hy ⟨s3, acc, ats, ha, hta, hao, hal⟩
        rw [List.getElem?_map] at hy
        obtain ⟨m, hm, rfl⟩ := Option.map_eq_some_iff.mp hy
        obtain ⟨hj, _⟩ := List.getElem?_eq_some_iff.mp hm
        have hmm : m ∈ k.2.2.2 := List.mem_of_getElem? hm
        obtain ⟨_, _, _, _, f4⟩ := (hs.same (s2.trans s3)).rt.2 k hkm
        obtain ⟨mv, fvs, m1, m2, m3, m4⟩ := f4 m hmm
        have hacl := hta.length
        have T3 : KeepT H3 (upd H3 L (.lst (acc ++ [mv]))) := keepT_lst ha
        refine ⟨rfl, yes ⟨_, rfl, m.1, _, _, _, rfl, rfl, SqL.of m1, rfl, _, ha, small1000 (by omega), same_upd s3 hL, acc ++ [mv], ats ++ [m.2.1], upd_same, (hta.keep T3).append (.cons (m2.keep T3) .nil), fun t ht => ?_, by rw [List.length_append, hal]; rfl⟩⟩
        rcases List.mem_append.mp ht with h | h
        · exact hao t h
        · rw [List.mem_singleton.mp h]
          exact (hko.2.2.2 m hmm).1
      · rintro H3 ⟨s3, acc, ats, ha, hta, hao, hal⟩
        rw [List.length_map] at hal
        have hacl := hta.length
        have e3 := s3 _ _ e2
        have T3 : KeepT H3 (upd H3 tk (.lst ((vs ++ [v]) ++ acc))) := keepT_lst e3
        refine ⟨tk, L, _, _, rfl, rfl, e3, ha, Nat.le_of_lt (small1000 (by rw [List.length_append, List.length_singleton]; omega)), same_upd (s2.trans s3) htk, ⟨fun n => [none, none, none, w1 3, w1 4, some v, some (.ref k.2.2.1), w1 7].getD n none, rfl⟩, (vs ++ [v]) ++ acc, (ts ++ [k.2.1]) ++ ats, upd_same, ((((hts.keep T2).append (.cons (u2.keep T2) .nil)).keep s3.keepT).append hta).keep T3, fun t ht => ?_, by rw [List.length_append, List.length_append, List.length_singleton]; omega⟩
        rcases List.mem_append.mp ht with h | h
        · rcases List.mem_append.mp h with h | h
          · exact hod t h
          · rw [List.mem_singleton.mp h]
            exact hko.1
        · exact hao t h
    · rintro σ H1 ⟨s1, ⟨w1, rfl⟩, vs, ts, ht1, hts, hod, hln⟩
      rw [List.length_map] at hln
      have hvl := hts.length
      have hs1 := hs.same s1
      refine ⟨_, rfl, _, _, rfl, rfl, ⟨by decide, by decide, by decide⟩, p, _, rfl, hs1.pl, by show (0 : Int) < 26 ^ 8; decide, by show ((26 : Int) ^ 8).natAbs.log2 < 9000; decide +kernel, fun n H2 n1 hp2 k2 => ?_⟩
      have ntp : tk ≠ p := by
        obtain ⟨_, _, _, e⟩ := hs.pl
        exact (ne_of_none e htk).symm
      have ht2 := k2 _ _ ht1 ntp
      have hts2 := hts.keep (hs1.pl.keepT k2)
      have hd : Dp K H2 (.ref tk) (.list (thDatas ts)) := .lst (SqL.of ht2) hts2.dp
      refine ⟨_, rfl, tk, _, rfl, .inl (SqL.of ht2), ?_⟩
      refine ⟨_, rfl, by omega, by omega, ?_⟩
      refine for_range (lo := 0) (n := vs.length) (fun i σ H' => H' = H2 ∧ ∃ (m : Nat) (u : Nat → Option V), σ = [some (.ref p), some (.ref R), some (.ref tk), some (.int m), u 4, u 5, u 6, u 7]) ⟨rfl, n, fun n => [none, none, none, none, w1 4, w1 5, w1 6, w1 7].getD n none, rfl⟩ ?_ ?_
      · rintro i σ H3 hi ⟨rfl, m, u, rfl⟩
        refine ⟨_, rfl, m, 8, rfl, by decide, _, rfl, .str _, _, .str _, hd, ?_, ?_, ?_⟩
        · exact Lay.shaped (n := 3) (Lay.str (strOk_word (word_spelt (by decide) (by decide)))) (by decide)
        · intro e he
          rw [thDatas_is] at he
          obtain ⟨t, ht, rfl⟩ := List.mem_map.mp he
          exact (hod t ht).2.shaped (by decide)
        · refine ⟨_, rfl, ?_⟩
          generalize ((thDatas ts).any _) = b
          cases b
          · exact iteF ⟨rfl, m, fun n => [none, none, none, none, some (.int (0 + (i : Int))), u 5, u 6, u 7].getD n none, rfl⟩
          · exact iteT ⟨_, rfl, _, _, rfl, rfl, rfl, m + 1, fun n => [none, none, none, none, some (.int (0 + (i : Int))), u 5, u 6, u 7].getD n none, rfl⟩
      · rintro σ H3 ⟨rfl, m, u, rfl⟩
        refine ⟨_, rfl, m, 8, rfl, by decide, ?_⟩
        exact q _ _ (word_spelt (by decide) (by decide)) hp2 fun b o h hb => k2 b o (s1 b o h) hb

end
end My

set_option Elab.async false
set_option linter.all false
set_option maxRecDepth 100000
set_option maxHeartbeats 4000000
namespace My
open PySem PySem.Spec PyProof.Rows L2 Bk Nm
section
variable {P : Program} {w : World} {K : PySem.W.Frag} {mg : Str → Option Value} {base : Heap} {t : Adr}
theorem kA_head {k k' : KA} (h : kA k' = kA k) : k'.1 = k.1 := by
  unfold kA at h
  injection h
theorem RS.setK {n : Nat} {H : Hp} {p R a : Addr} {l1 l2 : List KA} {k k' : KA} {o : HO} {ls : List V} (hs : RS n H p R (l1 ++ k :: l2)) (ha : a ∈ kA k) (hl : H a = some (.lst ls)) (hA : kA k' = kA k) (hk : KAt (upd H a o) k') (ok : KOk (n + 1) k') : RS (n + 1) (upd H a o) p R (l1 ++ k' :: l2) ∧ rA R (l1 ++ k' :: l2) = rA R (l1 ++ k :: l2) := by
  have e : rA R (l1 ++ k' :: l2) = rA R (l1 ++ k :: l2) := by rw [rA_split, rA_split, hA]
  refine ⟨⟨pool_up hs.pl fun c => hs.pn (c ▸ kA_in a ha), hs.rt.rep hs.rn (fun x u hx nx => ?_) (keepT_lst hl) (kA_head hA) hk, by rw [e]; exact hs.nd, ?_⟩, e⟩
  · rw [upd_ne (fun c : x = a => nx (c ▸ ha))]
    exact hx
  · obtain ⟨o1, o2, o3⟩ := hs.ok
    rw [List.length_append, List.length_cons] at o1 o2
    refine ⟨by rw [List.length_append, List.length_cons]; exact o1, by rw [List.length_append, List.length_cons]; exact o2, fun k0 h0 => ?_⟩
    rcases List.mem_append.mp h0 with h | h
    · exact (o3 k0 (List.mem_append_left _ h)).mono (by omega)
    · rcases List.mem_cons.mp h with rfl | h
      · exact ok
      · exact (o3 k0 (List.mem_append_right _ (List.mem_cons_of_mem _ h))).mono (by omega)
theorem RS.setM {n : Nat} {H : Hp} {p R a ka L : Addr} {nm : TH} {l1 l2 : List KA} {m1 m2 : List MA} {m m' : MA} {o : HO} {ls : List V} (hs : RS n H p R (l1 ++ (ka, nm, L, m1 ++ m :: m2) :: l2)) (ha : a ∈ mA m) (hl : H a = some (.lst ls)) (hA : mA m' = mA m) (hk : MAt (upd H a o) m') (ok : MOk (n + 1) m') : RS (n + 1) (upd H a o) p R (l1 ++ (ka, nm, L, m1 ++ m' :: m2) :: l2) ∧ rA R (l1 ++ (ka, nm, L, m1 ++ m' :: m2) :: l2) = rA R (l1 ++ (ka, nm, L, m1 ++ m :: m2) :: l2) := by
  have hkk := hs.rt.2 (ka, nm, L, m1 ++ m :: m2) (List.mem_append_right _ List.mem_cons_self)
  refine hs.setK (mA_in a ha) hl (by rw [kA_split, kA_split, hA]) (hkk.rep (nd_k hs.rn) (fun x u hx nx => ?_) (keepT_lst hl) ?_ hk) ?_
  · rw [upd_ne (fun c : x = a => nx (c ▸ ha))]
    exact hx
  · unfold mA at hA
    injection hA
  · obtain ⟨o1, o2, o3, o4⟩ := hs.ok.2.2 _ (List.mem_append_right _ List.mem_cons_self)
    have o2 : 1 ≤ (m1 ++ m :: m2).length := o2
    have o3 : (m1 ++ m :: m2).length ≤ 7 := o3
    rw [List.length_append, List.length_cons] at o2 o3
    refine ⟨o1, by show 1 ≤ (m1 ++ m' :: m2).length; rw [List.length_append, List.length_cons]; exact o2, by show (m1 ++ m' :: m2).length ≤ 7; rw [List.length_append, List.length_cons]; exact o3, fun k0 h0 => ?_⟩
    rcases List.mem_append.mp h0 with h | h
    · exact (o4 k0 (List.mem_append_left _ h)).mono (by omega)
    · rcases List.mem_cons.mp h with rfl | h
      · exact ok
      · exact (o4 k0 (List.mem_append_right _ (List.mem_cons_of_mem _ h))).mono (by omega)
theorem ths_set {H : Hp} : ∀ {vs : List V} {ts : List TH} (i : Nat) {v : V} {t : TH}, ThsAt H vs ts → ThAt H v t → ThsAt H (vs.set i v) (ts.set i t)
  | _, _, _, _, _, .nil, _ => .nil
  | _, _, 0, _, _, .cons _ r, h => .cons h r
  | _, _, i + 1, _, _, .cons a r, h => .cons a (ths_set i r h)
def spNamed (n : Nat) : Sp := fun vs H Q _ => ∃ (p R : Addr) (ks : List KA) (k : KA) (m : MA) (ov : V) (t : TH) (way : Int), vs = [.ref p, .ref k.1, .ref m.1, ov, .int way] ∧ RS n H p R ks ∧ n < 50 ∧ k ∈ ks ∧ m ∈ k.2.2.2 ∧ ThAt H ov t ∧ Od t ∧ ∀ ks' H', RS (n + 1) H' p R ks' → rA R ks' = rA R ks → Off (p :: rA R ks) H H' → Q .non H'
theorem ok_law_named (T : Txt K mg t) (n : Nat) : FnOk P w K mg base CX0 2 t.f_law_named t.d_law_named ["pool", "row", "one", "odd", "way"] (spNamed n) := by
  have G_law_next : FnOk P w K mg base CX0 1 t.f_law_next t.d_law_next ["pool", "base"] spNext := ok_law_next T
  refine T.F_law_named.ok sc_law_named (fun vs H Q E h => ?_) (fun cdv A outer s H vs Q E hr h => ?_)
  · obtain ⟨_, _, _, _, _, _, _, _, rfl, _⟩ := h
    rfl
  · obtain ⟨p, R, ks, k, m, ov, tt, way, rfl, hs, hn, hk, hm, ho, od, q⟩ := h
    refine ⟨_, (pss_one (ps_if (pt_cmpR op_eq (pe_var (i := 4) rfl v_law_named_way db_way cd_way) pe_int (nomark _)) (pss_one (ps_asg (pe_var (i := 3) rfl v_law_named_odd db_odd cd_odd) (pg_sub (pe_var (i := 1) rfl v_law_named_row db_row cd_row) pe_int set_list))) (pss_one (ps_if (pt_cmpR op_eq (pe_var (i := 4) rfl v_law_named_way db_way cd_way) pe_int (nomark _)) (pss_one (ps_asg (pe_var (i := 3) rfl v_law_named_odd db_odd cd_odd) (pg_sub (pe_var (i := 2) rfl v_law_named_one db_one cd_one) pe_int set_list))) (pss_one (ps_if (pt_cmpR op_eq (pe_var (i := 4) rfl v_law_named_way db_way cd_way) pe_int (nomark _)) (pss_one (ps_expr (pe_bm PySem.F.plainAttrs_list PySem.F.slot_list_insert PySem.F.type_list_insert mt_insert (pe_ix ix_list (pe_var (i := 2) rfl v_law_named_one db_one cd_one) pe_int (fun _ _ => rfl)) (pa_cons (pe_call G_law_next (hr.mono (by omega)) g_law_named_law_next T.m_law_next T.F_law_next.kp T.b_law_next .nil pass0 (pa_cons (pe_var (i := 0) rfl v_law_named_pool db_pool cd_pool) (pa_cons (pe_op op_add (pe_callB call_len_seq g_law_named_len T.z_len bt_len (pa_cons (pe_ix ix_list (pe_var (i := 2) rfl v_law_named_one db_one cd_one) pe_int (fun _ _ => rfl)) pa_nil) nn_len db_len) pe_int) pa_nil)) db_law_next) (pa_cons (pe_var (i := 3) rfl v_law_named_odd db_odd cd_odd) pa_nil))))) (pss_one (ps_if (pt_cmpR op_gt (pe_callB call_len_seq g_law_named_len T.z_len bt_len (pa_cons (pe_ix ix_list (pe_var (i := 2) rfl v_law_named_one db_one cd_one) pe_int (fun _ _ => rfl)) pa_nil) nn_len db_len) pe_int (nomark _)) (pss_one (ps_asg (pe_var (i := 3) rfl v_law_named_odd db_odd cd_odd) (pg_sub (pe_ix ix_list (pe_var (i := 2) rfl v_law_named_one db_one cd_one) pe_int (fun _ _ => rfl)) (pe_call G_law_next (hr.mono (by omega)) g_law_named_law_next T.m_law_next T.F_law_next.kp T.b_law_next .nil pass0 (pa_cons (pe_var (i := 0) rfl v_law_named_pool db_pool cd_pool) (pa_cons (pe_callB call_len_seq g_law_named_len T.z_len bt_len (pa_cons (pe_ix ix_list (pe_var (i := 2) rfl v_law_named_one db_one cd_one) pe_int (fun _ _ => rfl)) pa_nil) nn_len db_len) pa_nil)) db_law_next) set_list))) pss_nil)))))))), ?_⟩
    obtain ⟨l1, l2, rfl⟩ := List.append_of_mem hk
    obtain ⟨ka, nm, L, ms⟩ := k
    have hm : m ∈ ms := hm
    obtain ⟨m1, m2, rfl⟩ := List.append_of_mem hm
    obtain ⟨ma, mn, fa, fs⟩ := m
    have ndk := nd_k hs.rn
    have hmo := (hs.ok.2.2 _ hk).2.2.2 _ hm
    have hko := hs.ok.2.2 _ hk
    have hfl : fs.length ≤ n := hmo.2.1
    have nfm : fa ≠ ma := by
      rw [kA_split, List.nodup_cons, List.nodup_cons, List.nodup_append] at ndk
      have h2 := ndk.2.2.2.1
      rw [List.nodup_append] at h2
      have h3 := h2.1
      unfold mA at h3
      rw [List.nodup_cons] at h3
      exact fun c => h3.1 (by rw [← c]; exact List.mem_singleton_self _)
    refine ⟨_, rfl, rfl, _, rfl, ite2 (fun _ => ?_) (fun _ => ⟨_, rfl, rfl, _, rfl, ite2 (fun _ => ?_) (fun _ => ⟨_, rfl, rfl, _, rfl, ite2 (fun _ => ?_) (fun _ => ?_)⟩)⟩)⟩
    · obtain ⟨v, h1, h2, h3, h4⟩ := hs.rt.2 _ hk
      refine ⟨_, rfl, _, rfl, ka, _, _, 0, rfl, rfl, h1, rfl, ?_⟩
      have kT : KeepT H (upd H ka (.lst [ov, .ref L])) := keepT_lst h1
      have ndk' := ndk
      unfold kA at ndk'
      rw [List.nodup_cons] at ndk'
      obtain ⟨r1, r2⟩ := hs.setK (a := ka) (k' := (ka, tt, L, m1 ++ (ma, mn, fa, fs) :: m2)) (o := .lst [ov, .ref L]) (by unfold kA; exact List.mem_cons_self) h1 rfl ⟨ov, upd_same, ho.keep kT, by rw [upd_ne (fun c : L = ka => ndk'.1 (by rw [← c]; exact List.mem_cons_self))]; exact h3, fun m0 hm0 => (h4 m0 hm0).up (Same.refl _) kT fun x hx c => ndk'.1 (by rw [← c]; exact List.mem_cons_of_mem _ (in_flat hm0 hx))⟩ ⟨od, hko.2.1, hko.2.2.1, fun m0 h0 => (hko.2.2.2 m0 h0).mono (by omega)⟩
      exact q _ _ r1 r2 (Off.of_upd (List.mem_cons_of_mem _ (kA_in _ (by unfold kA; exact List.mem_cons_self))) h1)
    · obtain ⟨_, _, _, _, h4⟩ := hs.rt.2 _ hk
      obtain ⟨v, fvs, g1, g2, g3, g4⟩ := h4 _ hm
      refine ⟨_, rfl, _, rfl, ma, _, _, 0, rfl, rfl, g1, rfl, ?_⟩
      have kT : KeepT H (upd H ma (.lst [ov, .ref fa])) := keepT_lst g1
      obtain ⟨r1, r2⟩ := hs.setM (a := ma) (m' := (ma, tt, fa, fs)) (o := .lst [ov, .ref fa]) (by unfold mA; exact List.mem_cons_self) g1 rfl ⟨ov, fvs, upd_same, ho.keep kT, by rw [upd_ne nfm]; exact g3, g4.keep kT⟩ ⟨od, by show fs.length ≤ n + 1; omega, hmo.2.2⟩
      exact q _ _ r1 r2 (Off.of_upd (List.mem_cons_of_mem _ (kA_in _ (mA_in _ (by unfold mA; exact List.mem_cons_self)))) g1)
    · obtain ⟨_, _, _, _, h4⟩ := hs.rt.2 _ hk
      obtain ⟨v, fvs, g1, g2, g3, g4⟩ := h4 _ hm
      have hvl := g4.length
      have hvl : fvs.length = fs.length := hvl
      refine ⟨_, rfl, ma, _, _, _, rfl, rfl, SqL.of g1, rfl, .inl ⟨rfl, _, SqL.of g3⟩, _, rfl, _, rfl, ma, _, _, _, rfl, rfl, SqL.of g1, rfl, fa, _, rfl, .inl (SqL.of g3), _, _, rfl, rfl, p, _, rfl, hs.pl, by omega, log_small (by omega), fun r H1 rl hp1 k1 => ?_⟩
      have hs1 := hs.next hp1 k1
      obtain ⟨_, _, _, _, h4'⟩ := hs1.rt.2 _ hk
      have nfp : fa ≠ p := fun c => hs.pn (by rw [← c]; exact kA_in _ (mA_in _ (by simp [mA])))
      have nmp : ma ≠ p := fun c => hs.pn (by rw [← c]; exact kA_in _ (mA_in _ (by simp [mA])))
      have g1' := k1 _ _ g1 nmp
      have g3' := k1 _ _ g3 nfp
      have T1 := hs.pl.keepT k1
      refine ⟨_, rfl, fa, _, r, _, rfl, rfl, g3', by omega, small1000 (by omega), ?_⟩
      have hof : ∀ f ∈ (fs.take r ++ [tt]) ++ fs.drop r, Od f := fun f hf => by
        rcases List.mem_append.mp hf with h | h
        · rcases List.mem_append.mp h with h | h
          · exact hmo.2.2 f (List.mem_of_mem_take h)
          · rw [List.mem_singleton.mp h]; exact od
        · exact hmo.2.2 f (List.mem_of_mem_drop h)
      have kT : KeepT H1 (upd H1 fa (.lst ((fvs.take r ++ [ov]) ++ fvs.drop r))) := keepT_lst g3'
      obtain ⟨r1, r2⟩ := hs1.setM (a := fa) (m' := (ma, mn, fa, (fs.take r ++ [tt]) ++ fs.drop r)) (o := .lst ((fvs.take r ++ [ov]) ++ fvs.drop r)) (by simp [mA]) g3' rfl ⟨v, _, by rw [upd_ne nfm.symm]; exact g1', (g2.keep T1).keep kT, upd_same, (((g4.take r).append (.cons (ho) .nil)).append (g4.drop r) |>.keep T1).keep kT⟩ ⟨hmo.1, by show ((fs.take r ++ [tt]) ++ fs.drop r).length ≤ n + 1; rw [List.length_append, List.length_append, List.length_take, List.length_drop, List.length_singleton]; omega, hof⟩
      exact q _ _ r1 r2 ((Off.of_but hs.pl List.mem_cons_self k1).trans (Off.of_upd (List.mem_cons_of_mem _ (kA_in _ (mA_in _ (by simp [mA])))) g3'))
    · obtain ⟨_, _, _, _, h4⟩ := hs.rt.2 _ hk
      obtain ⟨v, fvs, g1, g2, g3, g4⟩ := h4 _ hm
      have hvl : fvs.length = fs.length := g4.length
      refine ⟨_, rfl, ma, _, _, _, rfl, rfl, SqL.of g1, rfl, fa, _, rfl, .inl (SqL.of g3), _, _, rfl, rfl, _, rfl, ite2 (fun hc => ?_) (fun _ => ?_)⟩
      · have hpos : 0 < fvs.length := by have := of_decide_eq_true hc; omega
        refine ⟨_, rfl, _, rfl, ma, _, _, _, rfl, rfl, SqL.of g1, rfl, _, rfl, _, rfl, ma, _, _, _, rfl, rfl, SqL.of g1, rfl, fa, _, rfl, .inl (SqL.of g3), p, _, rfl, hs.pl, by omega, log_small (by omega), fun r H1 rl hp1 k1 => ?_⟩
        have hs1 := hs.next hp1 k1
        have nfp : fa ≠ p := fun c => hs.pn (by rw [← c]; exact kA_in _ (mA_in _ (by simp [mA])))
        have nmp : ma ≠ p := fun c => hs.pn (by rw [← c]; exact kA_in _ (mA_in _ (by simp [mA])))
        have g1' := k1 _ _ g1 nmp
        have g3' := k1 _ _ g3 nfp
        have T1 := hs.pl.keepT k1
        refine ⟨fa, _, _, r, rfl, rfl, g3', by unfold ixN; rw [if_pos (by omega), if_pos rl]; rfl, ?_⟩
        have hof : ∀ f ∈ fs.set r tt, Od f := fun f hf => by
          rcases List.mem_or_eq_of_mem_set hf with h | h
          · exact hmo.2.2 f h
          · rw [h]; exact od
        have kT : KeepT H1 (upd H1 fa (.lst (fvs.set r ov))) := keepT_lst g3'
        obtain ⟨r1, r2⟩ := hs1.setM (a := fa) (m' := (ma, mn, fa, fs.set r tt)) (o := .lst (fvs.set r ov)) (by simp [mA]) g3' rfl ⟨v, _, by rw [upd_ne nfm.symm]; exact g1', (g2.keep T1).keep kT, upd_same, ((ths_set r g4 ho).keep T1).keep kT⟩ ⟨hmo.1, by show (fs.set r tt).length ≤ n + 1; rw [List.length_set]; omega, hof⟩
        exact q _ _ r1 r2 ((Off.of_but hs.pl List.mem_cons_self k1).trans (Off.of_upd (List.mem_cons_of_mem _ (kA_in _ (mA_in _ (by simp [mA])))) g3'))
      · exact q _ _ ⟨hs.pl, hs.rt, hs.nd, hs.ok.1, hs.ok.2.1, fun k0 h0 => (hs.ok.2.2 k0 h0).mono (by omega)⟩ rfl (Off.refl _ _)

end
end My

set_option Elab.async false
set_option linter.all false
set_option maxRecDepth 100000
set_option maxHeartbeats 4000000
namespace My
open PySem PySem.Spec PyProof.Rows L2 Bk Nm
section
variable {P : Program} {w : World} {K : PySem.W.Frag} {mg : Str → Option Value} {base : Heap} {t : Adr}
theorem KAt.inner {H : Hp} {ka L : Addr} {nm : TH} {ms : List MA} {o : HO} {ls : List V} (h : KAt H (ka, nm, L, ms)) (nd : (kA (ka, nm, L, ms)).Nodup) (ha : H ka = some (.lst ls)) : NtAt (upd H ka o) (.ref L) (.lst (ms.map mNT)) := by
  obtain ⟨v, h1, h2, h3, h4⟩ := h
  unfold kA at nd
  rw [List.nodup_cons] at nd
  exact .lst (by rw [upd_ne (fun c : L = ka => nd.1 (by rw [← c]; exact List.mem_cons_self))]; exact h3) (nts_ms fun m0 hm0 => (h4 m0 hm0).up (Same.refl _) (keepT_lst ha) fun x hx c => nd.1 (by rw [← c]; exact List.mem_cons_of_mem _ (in_flat hm0 hx)))
theorem nts_set {H : Hp} : ∀ {vs : List V} {ts : List NT} (i : Nat) {v : V} {t : NT}, NtsAt H vs ts → NtAt H v t → NtsAt H (vs.set i v) (ts.set i t)
  | _, _, _, _, _, .nil, _ => .nil
  | _, _, 0, _, _, .cons _ r, h => .cons h r
  | _, _, i + 1, _, _, .cons a r, h => .cons a (nts_set i r h)
theorem fin1 {k : Nat} {x : NT} (hx : NtFin k x) : NtFin (k + 1) (.lst [x]) := by
  refine ⟨by show 1 ≤ 50; decide, fun z hz => ?_⟩
  rw [List.mem_singleton.mp hz]
  exact hx
theorem fin_ms {n : Nat} (hn : n ≤ 50) {k : KA} (h : KOk n k) : NtFin 4 (.lst (k.2.2.2.map mNT)) := by
  refine ⟨by rw [List.length_map]; have := h.2.2.1; omega, fun x hx => ?_⟩
  obtain ⟨m, hm, rfl⟩ := List.mem_map.mp hx
  exact fin_m hn (h.2.2.2 m hm)
theorem ix_row {ks : List KA} {i : Nat} {k : KA} (h : ks[i]? = some k) : (ks.map fun k => V.ref k.1)[i]? = some (.ref k.1) := by rw [List.getElem?_map, h]; rfl
def spBroken (n : Nat) : Sp := fun vs H Q _ => ∃ (p R : Addr) (ks : List KA) (at' : Nat) (k : KA) (m : MA) (ov : V) (t : TH) (way : Int), vs = [.ref R, .int at', .ref m.1, ov, .int way] ∧ RS n H p R ks ∧ n ≤ 50 ∧ ks[at']? = some k ∧ m ∈ k.2.2.2 ∧ ThAt H ov t ∧ Od t ∧ ∀ nt H', NtAt H' (.ref R) nt → NtFin 6 nt → Off (p :: rA R ks) H H' → Q .non H'
theorem ok_law_broken (T : Txt K mg t) (n : Nat) : FnOk P w K mg base CX0 2 t.f_law_broken t.d_law_broken ["rows", "at", "one", "odd", "way"] (spBroken n) := by
  refine T.F_law_broken.ok sc_law_broken (fun vs H Q E h => ?_) (fun cdv A outer s H vs Q E hr h => ?_)
  · obtain ⟨_, _, _, _, _, _, _, _, _, rfl, _⟩ := h
    rfl
  · obtain ⟨p, R, ks, at', k, m, ov, tt, way, rfl, hs, hn, hk, hm, ho, od, q⟩ := h
    refine ⟨_, (pss_one (ps_if (pt_cmpR op_eq (pe_var (i := 4) rfl v_law_broken_way db_way cd_way) pe_int (nomark _)) (pss_one (ps_expr (pe_bm PySem.F.plainAttrs_list PySem.F.slot_list_append PySem.F.type_list_append mt_append (pe_ix ix_list (pe_var (i := 0) rfl v_law_broken_rows db_rows cd_rows) (pe_var (i := 1) rfl v_law_broken_at db_at cd_at) (fun _ _ => rfl)) (pa_cons (pe_var (i := 3) rfl v_law_broken_odd db_odd cd_odd) pa_nil)))) (pss_one (ps_if (pt_cmpR op_eq (pe_var (i := 4) rfl v_law_broken_way db_way cd_way) pe_int (nomark _)) (pss_one (ps_expr (pe_bm0 PySem.F.plainAttrs_list PySem.F.slot_list_pop PySem.F.type_list_pop mt_pop (pe_ix ix_list (pe_var (i := 0) rfl v_law_broken_rows db_rows cd_rows) (pe_var (i := 1) rfl v_law_broken_at db_at cd_at) (fun _ _ => rfl))))) (pss_one (ps_if (pt_cmpR op_eq (pe_var (i := 4) rfl v_law_broken_way db_way cd_way) pe_int (nomark _)) (pss_one (ps_expr (pe_bm PySem.F.plainAttrs_list PySem.F.slot_list_append PySem.F.type_list_append mt_append (pe_var (i := 2) rfl v_law_broken_one db_one cd_one) (pa_cons (pe_var (i := 3) rfl v_law_broken_odd db_odd cd_odd) pa_nil)))) (pss_one (ps_if (pt_cmpR op_eq (pe_var (i := 4) rfl v_law_broken_way db_way cd_way) pe_int (nomark _)) (pss_one (ps_asg (pe_var (i := 3) rfl v_law_broken_odd db_odd cd_odd) (pg_sub (pe_var (i := 2) rfl v_law_broken_one db_one cd_one) pe_int set_list))) (pss_one (ps_if (pt_cmpR op_eq (pe_var (i := 4) rfl v_law_broken_way db_way cd_way) pe_int (nomark _)) (pss_one (ps_asg (pe_var (i := 3) rfl v_law_broken_odd db_odd cd_odd) (pg_sub (pe_ix ix_list (pe_var (i := 0) rfl v_law_broken_rows db_rows cd_rows) (pe_var (i := 1) rfl v_law_broken_at db_at cd_at) (fun _ _ => rfl)) pe_int set_list))) (pss_one (ps_if (pt_cmpR op_eq (pe_var (i := 4) rfl v_law_broken_way db_way cd_way) pe_int (nomark _)) (pss_one (ps_asg (pe_lst pa_nil) (pg_sub (pe_ix ix_list (pe_var (i := 0) rfl v_law_broken_rows db_rows cd_rows) (pe_var (i := 1) rfl v_law_broken_at db_at cd_at) (fun _ _ => rfl)) pe_int set_list))) (pss_one (ps_asg (pe_var (i := 3) rfl v_law_broken_odd db_odd cd_odd) (pg_sub (pe_var (i := 0) rfl v_law_broken_rows db_rows cd_rows) (pe_var (i := 1) rfl v_law_broken_at db_at cd_at) set_list))))))))))))))), ?_⟩
    have hkm : k ∈ ks := List.mem_of_getElem? hk
    have hrow := ix_row hk
    have hal : at' < ks.length := (List.getElem?_eq_some_iff.mp hk).1
    have hRR := hs.rt.1
    have hfr : ∀ x ∈ (ks.map kNT).set at' (.th tt), NtFin 5 x := fun x hx => by
      rcases List.mem_or_eq_of_mem_set hx with h | h
      · obtain ⟨k0, h0, rfl⟩ := List.mem_map.mp h
        exact fin_k hn (hs.ok.2.2 k0 h0)
      · rw [h]; exact od
    have hlast : NtAt (upd H R (.lst ((ks.map fun k => V.ref k.1).set at' ov))) (.ref R) (.lst ((ks.map kNT).set at' (.th tt))) := by
      have kT : KeepT H (upd H R (.lst ((ks.map fun k => V.ref k.1).set at' ov))) := keepT_lst hRR
      refine .lst upd_same (nts_set at' (nts_ks fun k0 h0 => (hs.rt.2 k0 h0).up (Same.refl _) kT fun x hx c => ?_) (.th (ho.keep kT)))
      have := hs.rn
      unfold rA at this
      rw [List.nodup_cons] at this
      exact this.1 (by rw [← c]; exact in_flat h0 hx)
    have q13 := q _ _ hlast ⟨by rw [List.length_set, List.length_map]; have := hs.ok.2.1; omega, hfr⟩ (Off.of_upd (by unfold rA; simp) hRR)
    obtain ⟨l1, l2, rfl⟩ := List.append_of_mem hkm
    obtain ⟨ka, nm, L, ms⟩ := k
    have hm : m ∈ ms := hm
    obtain ⟨m1, m2, rfl⟩ := List.append_of_mem hm
    obtain ⟨ma, mn, fa, fs⟩ := m
    have ndk := nd_k hs.rn
    have hko := hs.ok.2.2 _ hkm
    have hmo := hko.2.2.2 _ hm
    have nfm : fa ≠ ma := by
      rw [kA_split, List.nodup_cons, List.nodup_cons, List.nodup_append] at ndk
      have h2 := ndk.2.2.2.1
      rw [List.nodup_append] at h2
      have h3 := h2.1
      unfold mA at h3
      rw [List.nodup_cons] at h3
      exact fun c => h3.1 (by rw [← c]; exact List.mem_singleton_self _)
    have hkk := hs.rt.2 _ hkm
    have hkk' := hkk
    obtain ⟨v, h1, h2, h3, h4⟩ := hkk
    obtain ⟨mv, fvs, g1, g2, g3, g4⟩ := h4 _ hm
    have hak : ka ∈ kA (ka, nm, L, m1 ++ (ma, mn, fa, fs) :: m2) := by unfold kA; exact List.mem_cons_self
    have ham : ma ∈ mA (ma, mn, fa, fs) := by unfold mA; exact List.mem_cons_self
    have hamk : ma ∈ kA (ka, nm, L, m1 ++ (ma, mn, fa, fs) :: m2) := mA_in _ ham
    -- at the row
    have atK : ∀ (xs : List V) (nt : NT), NtAt (upd H ka (.lst xs)) (.ref ka) nt → NtFin 5 nt → Q .non (upd H ka (.lst xs)) := fun xs nt h1' hf => by
      refine q _ _ (hs.rt.repN hs.rn (fun x u hx nx => ?_) (keepT_lst h1) h1') (fin_rAt hn hs.ok hf) (Off.of_upd (List.mem_cons_of_mem _ (kA_in _ hak)) h1)
      rw [upd_ne (fun c : x = ka => nx (c ▸ hak))]
      exact hx
    -- at the make
    have atM : ∀ (xs : List V) (nt : NT), NtAt (upd H ma (.lst xs)) (.ref ma) nt → NtFin 3 nt → Q .non (upd H ma (.lst xs)) := fun xs nt h1' hf => by
      have hk2 := hkk'.repN ndk (H' := upd H ma (.lst xs)) (fun x u hx nx => by rw [upd_ne (fun c : x = ma => nx (c ▸ ham))]; exact hx) (keepT_lst g1) h1'
      refine q _ _ (hs.rt.repN hs.rn (fun x u hx nx => ?_) (keepT_lst g1) hk2) (fin_rAt hn hs.ok (fin_kAt hn hko hf)) (Off.of_upd (List.mem_cons_of_mem _ (kA_in _ hamk)) g1)
      rw [upd_ne (fun c : x = ma => nx (c ▸ hamk))]
      exact hx
    have odF : ∀ k, NtFin (k + 1) (.th tt) := fun k => od
    refine ⟨_, rfl, rfl, _, rfl, ite2 (fun _ => ?_) (fun _ => ⟨_, rfl, rfl, _, rfl, ite2 (fun _ => ?_) (fun _ => ⟨_, rfl, rfl, _, rfl, ite2 (fun _ => ?_) (fun _ => ⟨_, rfl, rfl, _, rfl, ite2 (fun _ => ?_) (fun _ => ⟨_, rfl, rfl, _, rfl, ite2 (fun _ => ?_) (fun _ => ⟨_, rfl, rfl, _, rfl, ite2 (fun _ => ?_) (fun _ => ?_)⟩)⟩)⟩)⟩)⟩)⟩
    · refine ⟨_, rfl, _, rfl, R, _, _, _, rfl, rfl, SqL.of hRR, atI_nat hrow, .inl ⟨rfl, _, SqL.of h1⟩, _, rfl, ka, _, _, rfl, rfl, h1, by show 2 < sizeLine; decide, ?_⟩
      exact atK _ _ (.lst upd_same (.cons (.th (h2.keep (keepT_lst h1))) (.cons (hkk'.inner ndk h1) (.cons (.th (ho.keep (keepT_lst h1))) .nil)))) (fin3 (k := 4) hko.1 (fin_ms hn hko) (odF 3))
    · refine ⟨_, rfl, _, rfl, R, _, _, _, rfl, rfl, SqL.of hRR, atI_nat hrow, .inl ⟨rfl, _, SqL.of h1⟩, ka, _, _, rfl, rfl, h1, rfl, ?_⟩
      exact atK _ _ (.lst upd_same (.cons (.th (h2.keep (keepT_lst h1))) .nil)) (fin1 (k := 4) hko.1)
    · refine ⟨_, rfl, .inl ⟨rfl, _, SqL.of g1⟩, _, rfl, ma, _, _, rfl, rfl, g1, by show 2 < sizeLine; decide, ?_⟩
      exact atM _ _ (.lst upd_same (.cons (.th (g2.keep (keepT_lst g1))) (.cons (.lst (by rw [upd_ne nfm]; exact g3) (nts_th (g4.keep (keepT_lst g1)))) (.cons (.th (ho.keep (keepT_lst g1))) .nil)))) (fin3 (k := 2) hmo.1 (fin_fs (k := 0) hn hmo.2.1 hmo.2.2) (odF 1))
    · refine ⟨_, rfl, _, rfl, ma, _, _, 1, rfl, rfl, g1, rfl, ?_⟩
      exact atM _ _ (.lst upd_same (.cons (.th (g2.keep (keepT_lst g1))) (.cons (.th (ho.keep (keepT_lst g1))) .nil))) (fin2 (k := 2) hmo.1 (odF 1))
    · refine ⟨_, rfl, _, rfl, _, rfl, R, _, _, _, rfl, rfl, SqL.of hRR, atI_nat hrow, ka, _, _, 1, rfl, rfl, h1, rfl, ?_⟩
      exact atK _ _ (.lst upd_same (.cons (.th (h2.keep (keepT_lst h1))) (.cons (.th (ho.keep (keepT_lst h1))) .nil))) (fin2 (k := 4) hko.1 (odF 3))
    · refine ⟨by show 0 ≤ sizeLine; decide, fun e he => ?_⟩
      have s1 := Same.new (o := .lst []) (Same.refl H) he
      have e1 : upd H e (.lst []) e = some (.lst []) := upd_same
      generalize upd H e (.lst []) = H1 at s1 e1
      have h1' := s1 _ _ h1
      have kT : KeepT H1 (upd H1 ka (.lst [v, .ref e])) := keepT_lst h1'
      have nek : e ≠ ka := (ne_of_none h1 he).symm
      refine ⟨_, rfl, _, rfl, R, _, _, _, rfl, rfl, SqL.of (s1 _ _ hRR), atI_nat hrow, ka, _, _, 1, rfl, rfl, h1', rfl, ?_⟩
      refine q _ _ (hs.rt.repN hs.rn (H' := upd H1 ka (.lst [v, .ref e])) (nt := .lst [.th nm, .lst []]) (fun x u hx nx => ?_) (s1.keepT.trans kT) (.lst upd_same (.cons (.th ((h2.keep s1.keepT).keep kT)) (.cons (.lst (by rw [upd_ne nek]; exact e1) .nil) .nil)))) (fin_rAt hn hs.ok (fin2 (k := 4) hko.1 ⟨by decide, fun _ h => (nomatch h)⟩)) ((Off.of_same s1).trans (Off.of_upd (List.mem_cons_of_mem _ (kA_in _ hak)) h1'))
      rw [upd_ne (fun c : x = ka => nx (c ▸ hak))]
      exact s1 _ _ hx
    · refine ⟨_, rfl, _, rfl, _, rfl, R, _, _, at', rfl, rfl, hRR, ?_, q13⟩
      unfold ixN
      rw [if_pos (by omega), if_pos (by rw [List.length_map]; omega)]
      rfl

end
end My

set_option Elab.async false
set_option linter.all false
set_option maxRecDepth 100000
set_option maxHeartbeats 4000000
namespace My
open PySem PySem.Spec PyProof.Rows L2 Bk Nm
section
variable {P : Program} {w : World} {K : PySem.W.Frag} {mg : Str → Option Value} {base : Heap} {t : Adr}
theorem nodup_grow {p R : Addr} {xs ys new : List Addr} (nd : (p :: xs).Nodup) (pm : ys.Perm (xs ++ new)) (hn : new.Nodup) (hd : ∀ x ∈ p :: xs, x ∉ new) : (p :: ys).Nodup := by
  have h1 : (p :: ys).Perm ((p :: xs) ++ new) := pm.cons p
  rw [h1.nodup_iff, List.nodup_append]
  exact ⟨nd, hn, fun x hx y hy e => hd x hx (e ▸ hy)⟩
theorem RS.there {n : Nat} {H : Hp} {p R : Addr} {ks : List KA} (h : RS n H p R ks) : ∀ x ∈ p :: rA R ks, ∃ o, H x = some o := fun x hx => by
  rcases List.mem_cons.mp hx with rfl | hx
  · obtain ⟨_, _, _, e⟩ := h.pl
    exact ⟨_, e⟩
  · exact ks_there h.rt x hx
theorem not_new {H : Hp} {new : List Addr} {x : Addr} (h : ∃ o, H x = some o) (hn : ∀ y ∈ new, H y = none) : x ∉ new := fun c => by
  obtain ⟨o, ho⟩ := h
  rw [hn x c] at ho
  cases ho
theorem pool_same {H H' : Hp} {p a : Addr} {o : HO} (h : PoolAt H p) (s : Same H H') (n : p ≠ a) : PoolAt (upd H' a o) p := by
  obtain ⟨x, y, z, e⟩ := h
  exact ⟨x, y, z, by rw [upd_ne n]; exact s _ _ e⟩
/-- a make more in a row -/
theorem RS.addM {n : Nat} {H H4 : Hp} {p R ka L ad fa : Addr} {nm : TH} {l1 l2 : List KA} {ms : List MA} {z : Str} (hs : RS n H p R (l1 ++ (ka, nm, L, ms) :: l2)) (hl : ms.length < 7) (s : Same H H4) (e1 : H4 fa = some (.lst [])) (e2 : H4 ad = some (.lst [.str z, .ref fa])) (n1 : H fa = none) (n2 : H ad = none) (ne : ad ≠ fa) (od : Od (.str z)) :
    RS n (upd H4 L (.lst ((ms.map fun m => V.ref m.1) ++ [.ref ad]))) p R (l1 ++ (ka, nm, L, ms ++ [(ad, .str z, fa, [])]) :: l2) ∧ Off (p :: rA R (l1 ++ (ka, nm, L, ms) :: l2)) H (upd H4 L (.lst ((ms.map fun m => V.ref m.1) ++ [.ref ad]))) ∧ ∀ x ∈ p :: rA R (l1 ++ (ka, nm, L, ms ++ [(ad, .str z, fa, [])]) :: l2), x ∈ p :: rA R (l1 ++ (ka, nm, L, ms) :: l2) ∨ H x = none := by
  have hkm : (ka, nm, L, ms) ∈ l1 ++ (ka, nm, L, ms) :: l2 := List.mem_append_right _ List.mem_cons_self
  obtain ⟨v, h1, h2, h3, h4⟩ := hs.rt.2 _ hkm
  have hko := hs.ok.2.2 _ hkm
  have h1 : H ka = some (.lst [v, .ref L]) := h1
  have h2 : ThAt H v nm := h2
  have h3 : H L = some (.lst (ms.map fun m => V.ref m.1)) := h3
  have h4 : ∀ m ∈ ms, MAt H m := h4
  have hLk : L ∈ kA (ka, nm, L, ms) := by simp [kA]
  have kT : KeepT H4 (upd H4 L (.lst ((ms.map fun m => V.ref m.1) ++ [.ref ad]))) := keepT_lst (s _ _ h3)
  have ndk := nd_k hs.rn
  unfold kA at ndk
  rw [List.nodup_cons, List.nodup_cons] at ndk
  have nkL : ka ≠ L := fun c => ndk.1 (by rw [c]; exact List.mem_cons_self)
  have eA : kA (ka, nm, L, ms ++ [(ad, TH.str z, fa, [])]) = kA (ka, nm, L, ms) ++ [ad, fa] := by
    unfold kA
    rw [List.map_append, List.flatten_append]; simp [mA]
  have pm : (rA R (l1 ++ (ka, nm, L, ms ++ [(ad, TH.str z, fa, [])]) :: l2)).Perm (rA R (l1 ++ (ka, nm, L, ms) :: l2) ++ [ad, fa]) := by
    rw [rA_split, rA_split, eA, List.cons_append, List.append_assoc, List.append_assoc, List.append_assoc]
    exact ((List.perm_append_comm.append_left _).append_left _).cons _
  have hnew : ∀ y ∈ [ad, fa], H y = none := fun y hy => by
    simp only [List.mem_cons, List.not_mem_nil, or_false] at hy
    rcases hy with rfl | rfl
    · exact n2
    · exact n1
  refine ⟨⟨pool_same hs.pl s fun c => hs.pn (by rw [c]; exact kA_in L hLk), hs.rt.rep hs.rn (fun x u hx nx => ?_) (s.keepT.trans kT) rfl ⟨v, by rw [upd_ne nkL]; exact s _ _ h1, (h2.keep s.keepT).keep kT, by rw [upd_same, List.map_append]; rfl, fun m0 hm0 => ?_⟩, nodup_grow (R := R) hs.nd pm (by simp [ne]) (fun x hx => not_new (hs.there x hx) hnew), ?_⟩, ?_, fun x hx => ?_⟩
  · rw [upd_ne (fun c : x = L => nx (c ▸ hLk))]
    exact s _ _ hx
  · rcases List.mem_append.mp hm0 with h | h
    · exact (h4 m0 h).up s kT fun x hx c => ndk.2.1 (by rw [← c]; exact in_flat h hx)
    · rw [List.mem_singleton.mp h]
      exact ⟨.str z, [], by rw [upd_ne (ne_of_none h3 n2).symm]; exact e2, .str _, by rw [upd_ne (ne_of_none h3 n1).symm]; exact e1, .nil⟩
  · obtain ⟨o1, o2, o3⟩ := hs.ok
    rw [List.length_append, List.length_cons] at o1 o2
    refine ⟨by rw [List.length_append, List.length_cons]; exact o1, by rw [List.length_append, List.length_cons]; exact o2, fun k0 h0 => ?_⟩
    rcases List.mem_append.mp h0 with h | h
    · exact o3 k0 (List.mem_append_left _ h)
    · rcases List.mem_cons.mp h with rfl | h
      · refine ⟨hko.1, by show 1 ≤ (ms ++ [(ad, TH.str z, fa, [])]).length; rw [List.length_append, List.length_singleton]; omega, by show (ms ++ [(ad, TH.str z, fa, [])]).length ≤ 7; rw [List.length_append, List.length_singleton]; omega, fun m0 hm0 => ?_⟩
        rcases List.mem_append.mp hm0 with h | h
        · exact hko.2.2.2 m0 h
        · rw [List.mem_singleton.mp h]
          exact ⟨od, Nat.zero_le _, fun _ h => (nomatch h)⟩
      · exact o3 k0 (List.mem_append_right _ (List.mem_cons_of_mem _ h))
  · exact (Off.of_same s).trans (Off.of_upd (List.mem_cons_of_mem _ (kA_in _ hLk)) (s _ _ h3))
  · rcases List.mem_cons.mp hx with h | h
    · exact .inl (by rw [h]; exact List.mem_cons_self)
    · rcases List.mem_append.mp (pm.mem_iff.mp h) with h | h
      · exact .inl (List.mem_cons_of_mem _ h)
      · exact .inr (hnew x h)
/-- a row more -/
theorem RS.addK {n : Nat} {H H4 : Hp} {p R ka L ma fa : Addr} {ks : List KA} {z : Str} (hs : RS n H p R ks) (hl : ks.length < 7) (hn : 1 ≤ n) (s : Same H H4) (e1 : H4 fa = some (.lst [.str "num"])) (e2 : H4 ma = some (.lst [.str z, .ref fa])) (e3 : H4 L = some (.lst [.ref ma])) (e4 : H4 ka = some (.lst [.str z, .ref L])) (hnew : ∀ y ∈ [ka, L, ma, fa], H y = none) (ne : [ka, L, ma, fa].Nodup) (od : Od (.str z)) :
    RS n (upd H4 R (.lst ((ks.map fun m => V.ref m.1) ++ [.ref ka]))) p R (ks ++ [(ka, .str z, L, [(ma, .str z, fa, [.str "num"])])]) ∧ Off (p :: rA R ks) H (upd H4 R (.lst ((ks.map fun m => V.ref m.1) ++ [.ref ka]))) ∧ ∀ x ∈ p :: rA R (ks ++ [(ka, .str z, L, [(ma, .str z, fa, [.str "num"])])]), x ∈ p :: rA R ks ∨ H x = none := by
  have hR := hs.rt.1
  have kT : KeepT H4 (upd H4 R (.lst ((ks.map fun m => V.ref m.1) ++ [.ref ka]))) := keepT_lst (s _ _ hR)
  have nd := hs.rn
  unfold rA at nd
  rw [List.nodup_cons] at nd
  have eA : rA R (ks ++ [(ka, TH.str z, L, [(ma, TH.str z, fa, [TH.str "num"])])]) = rA R ks ++ [ka, L, ma, fa] := by
    unfold rA
    rw [List.map_append, List.flatten_append]; simp [kA, mA]
  have hRn : ∀ y ∈ [ka, L, ma, fa], y ≠ R := fun y hy => (ne_of_none hR (hnew y hy)).symm
  have hRin : R ∈ p :: rA R ks := by simp [rA]
  have od2 : Od (.str "num") := od_word word_num
  refine ⟨⟨pool_same hs.pl s fun c => hs.pn (by rw [c]; simp [rA]), ⟨by rw [upd_same, List.map_append]; rfl, fun k0 h0 => ?_⟩, nodup_grow (R := R) hs.nd (by rw [eA]) ne (fun x hx => not_new (hs.there x hx) hnew), ?_⟩, ?_, fun x hx => ?_⟩
  · rcases List.mem_append.mp h0 with h | h
    · exact (hs.rt.2 k0 h).up s kT fun x hx c => nd.1 (by rw [← c]; exact in_flat h hx)
    · rw [List.mem_singleton.mp h]
      refine ⟨.str z, by rw [upd_ne (hRn ka (by simp))]; exact e4, .str _, by rw [upd_ne (hRn L (by simp))]; exact e3, fun m0 hm0 => ?_⟩
      rw [List.mem_singleton.mp hm0]
      exact ⟨.str z, [.str "num"], by rw [upd_ne (hRn ma (by simp))]; exact e2, .str _, by rw [upd_ne (hRn fa (by simp))]; exact e1, .cons (.str _) .nil⟩
  · obtain ⟨o1, o2, o3⟩ := hs.ok
    refine ⟨by rw [List.length_append, List.length_singleton]; omega, by rw [List.length_append, List.length_singleton]; omega, fun k0 h0 => ?_⟩
    rcases List.mem_append.mp h0 with h | h
    · exact o3 k0 h
    · rw [List.mem_singleton.mp h]
      refine ⟨od, by show 1 ≤ 1; decide, by show 1 ≤ 7; decide, fun m0 hm0 => ?_⟩
      rw [List.mem_singleton.mp hm0]
      refine ⟨od, hn, fun f hf => ?_⟩
      rw [List.mem_singleton.mp hf]
      exact od2
  · exact (Off.of_same s).trans (Off.of_upd hRin (s _ _ hR))
  · rw [eA] at hx
    rcases List.mem_append.mp (show x ∈ (p :: rA R ks) ++ [ka, L, ma, fa] from hx) with h | h
    · exact .inl h
    · exact .inr (hnew x h)
def spFilled (n : Nat) : Sp := fun vs H Q _ => ∃ (p R : Addr) (ks : List KA) (k : KA) (m : MA) (way : Int), vs = [.ref p, .ref R, .ref k.1, .ref m.1, .int way] ∧ RS n H p R ks ∧ 1 ≤ n ∧ n ≤ 40 ∧ k ∈ ks ∧ m ∈ k.2.2.2 ∧ ∀ nt H', NtAt H' (.ref R) nt → NtFin 6 nt → Off (p :: rA R ks) H H' → Q .non H'
theorem ok_law_filled (T : Txt K mg t) (n : Nat) : FnOk P w K mg base CX0 4 t.f_law_filled t.d_law_filled ["pool", "rows", "row", "one", "way"] (spFilled n) := by
  have G_law_next : FnOk P w K mg base CX0 1 t.f_law_next t.d_law_next ["pool", "base"] spNext := ok_law_next T
  have G_law_fresh : FnOk P w K mg base CX0 3 t.f_law_fresh t.d_law_fresh ["pool", "rows"] (spFresh n) := ok_law_fresh T n
  refine T.F_law_filled.ok sc_law_filled (fun vs H Q E h => ?_) (fun cdv A outer s H vs Q E hr h => ?_)
  · obtain ⟨_, _, _, _, _, _, rfl, _⟩ := h
    rfl
  · obtain ⟨p, R, ks, k, m, way, rfl, hs, hn1, hn, hk, hm, q⟩ := h
    refine ⟨_, (pss_cons (ps_set (i := 5) sc_law_filled.nd rfl l_law_filled_many (pe_op op_add pe_int (pe_call G_law_next (hr.mono (by omega)) g_law_filled_law_next T.m_law_next T.F_law_next.kp T.b_law_next .nil pass0 (pa_cons (pe_var (i := 0) rfl v_law_filled_pool db_pool cd_pool) (pa_cons pe_int pa_nil)) db_law_next)))
  (pss_one (ps_if (pt_cmpR op_eq (pe_var (i := 4) rfl v_law_filled_way db_way cd_way) pe_int (nomark _)) (pss_cons (ps_for PassesOwn.never rfl (pi_range2 g_law_filled_range T.z_range (pa_cons (pe_callB call_len_seq g_law_filled_len T.z_len bt_len (pa_cons (pe_ix ix_list (pe_var (i := 2) rfl v_law_filled_row db_row cd_row) pe_int (fun _ _ => rfl)) pa_nil) nn_len db_len) (pa_cons (pe_var (i := 5) rfl v_law_filled_many db_many cd_many) pa_nil))) (pg_name (i := 6) sc_law_filled.nd rfl l_law_filled_k (.inl rfl)) (pss_one (ps_expr (pe_bm PySem.F.plainAttrs_list PySem.F.slot_list_append PySem.F.type_list_append mt_append (pe_ix ix_list (pe_var (i := 2) rfl v_law_filled_row db_row cd_row) pe_int (fun _ _ => rfl)) (pa_cons (pe_lst (pa_cons (pe_call G_law_fresh (hr.mono (by omega)) g_law_filled_law_fresh T.m_law_fresh T.F_law_fresh.kp T.b_law_fresh .nil pass0 (pa_cons (pe_var (i := 0) rfl v_law_filled_pool db_pool cd_pool) (pa_cons (pe_var (i := 1) rfl v_law_filled_rows db_rows cd_rows) pa_nil)) db_law_fresh) (pa_cons (pe_lst pa_nil) pa_nil))) pa_nil)))))
  (pss_one (ps_asg (pe_slice sl_list (pe_ix ix_list (pe_var (i := 2) rfl v_law_filled_row db_row cd_row) pe_int (fun _ _ => rfl)) po_none (po_some (pe_var (i := 5) rfl v_law_filled_many db_many cd_many))) (pg_sub (pe_var (i := 2) rfl v_law_filled_row db_row cd_row) pe_int set_list)))) (pss_one (ps_if (pt_cmpR op_eq (pe_var (i := 4) rfl v_law_filled_way db_way cd_way) pe_int (nomark _)) (pss_cons (ps_for PassesOwn.never rfl (pi_range2 g_law_filled_range T.z_range (pa_cons (pe_callB call_len_seq g_law_filled_len T.z_len bt_len (pa_cons (pe_var (i := 1) rfl v_law_filled_rows db_rows cd_rows) pa_nil) nn_len db_len) (pa_cons (pe_var (i := 5) rfl v_law_filled_many db_many cd_many) pa_nil))) (pg_name (i := 6) sc_law_filled.nd rfl l_law_filled_k (.inl rfl)) (pss_cons (ps_set (i := 7) sc_law_filled.nd rfl l_law_filled_name (pe_call G_law_fresh (hr.mono (by omega)) g_law_filled_law_fresh T.m_law_fresh T.F_law_fresh.kp T.b_law_fresh .nil pass0 (pa_cons (pe_var (i := 0) rfl v_law_filled_pool db_pool cd_pool) (pa_cons (pe_var (i := 1) rfl v_law_filled_rows db_rows cd_rows) pa_nil)) db_law_fresh))
  (pss_one (ps_expr (pe_bm PySem.F.plainAttrs_list PySem.F.slot_list_append PySem.F.type_list_append mt_append (pe_var (i := 1) rfl v_law_filled_rows db_rows cd_rows) (pa_cons (pe_lst (pa_cons (pe_var (i := 7) rfl v_law_filled_name db_name cd_name) (pa_cons (pe_lst (pa_cons (pe_lst (pa_cons (pe_var (i := 7) rfl v_law_filled_name db_name cd_name) (pa_cons (pe_lst (pa_cons pe_str pa_nil)) pa_nil))) pa_nil)) pa_nil))) pa_nil))))))
  (pss_one (ps_asg (pe_lst pa_nil) (pg_slsetE (pe_var (i := 1) rfl v_law_filled_rows db_rows cd_rows) (po_some (pe_var (i := 5) rfl v_law_filled_many db_many cd_many)) po_none)))) (pss_one (ps_for PassesOwn.never rfl (pi_range2 g_law_filled_range T.z_range (pa_cons (pe_callB call_len_seq g_law_filled_len T.z_len bt_len (pa_cons (pe_ix ix_list (pe_var (i := 3) rfl v_law_filled_one db_one cd_one) pe_int (fun _ _ => rfl)) pa_nil) nn_len db_len) (pa_cons (pe_op op_add pe_int (pe_op op_mod (pe_var (i := 5) rfl v_law_filled_many db_many cd_many) pe_int)) pa_nil))) (pg_name (i := 6) sc_law_filled.nd rfl l_law_filled_k (.inl rfl)) (pss_one (ps_expr (pe_bm PySem.F.plainAttrs_list PySem.F.slot_list_append PySem.F.type_list_append mt_append (pe_ix ix_list (pe_var (i := 3) rfl v_law_filled_one db_one cd_one) pe_int (fun _ _ => rfl)) (pa_cons pe_str pa_nil))))))))))), ?_⟩
    refine ⟨_, rfl, p, _, rfl, hs.pl, by decide, by decide, fun r0 H0 r0l hp0 k0 => ⟨_, _, rfl, rfl, ?_⟩⟩
    have hs0 := hs.next hp0 k0
    have of0 : Off (p :: rA R ks) H H0 := Off.of_but hs.pl List.mem_cons_self k0
    have hmany : (1 : Int) + (r0 : Int) = ((1 + r0 : Nat) : Int) := by omega
    have hr7 : 1 + r0 ≤ 7 := by omega
    obtain ⟨l1, l2, rfl⟩ := List.append_of_mem hk
    obtain ⟨ka, nm, L, ms⟩ := k
    have hm : m ∈ ms := hm
    have hko := hs.ok.2.2 _ hk
    refine ⟨_, rfl, rfl, _, rfl, ite2 (fun _ => ?_) (fun _ => ⟨_, rfl, rfl, _, rfl, ite2 (fun _ => ?_) (fun _ => ?_)⟩)⟩
    · obtain ⟨v, h1, h2, h3, h4⟩ := hs0.rt.2 _ hk
      have hml : ms.length ≤ 7 := hko.2.2.1
      refine ⟨_, rfl, ka, _, _, _, rfl, rfl, SqL.of h1, rfl, L, _, rfl, .inl (SqL.of h3), _, rfl, _, _, rfl, ⟨by omega, ?_, by omega, by omega⟩, ?_⟩
      · show ((List.map (fun m : MA => V.ref m.1) ms).length : Int) < _
        rw [List.length_map]; omega
      rw [List.length_map]
      refine for_range (lo := (ms.length : Int)) (n := ((1 : Int) + (r0 : Int) - (ms.length : Int)).toNat) (fun i σ H' => (∃ u : Nat → Option V, σ = [some (.ref p), some (.ref R), some (.ref ka), some (.ref m.1), some (.int way), some (.int (1 + (r0 : Int))), u 6, u 7]) ∧ ∃ ex : List MA, ex.length = i ∧ RS n H' p R (l1 ++ (ka, nm, L, ms ++ ex) :: l2) ∧ Off (p :: rA R (l1 ++ (ka, nm, L, ms) :: l2)) H H' ∧ ∀ x ∈ p :: rA R (l1 ++ (ka, nm, L, ms ++ ex) :: l2), x ∈ p :: rA R (l1 ++ (ka, nm, L, ms) :: l2) ∨ H x = none) ⟨⟨fun _ => none, rfl⟩, [], rfl, by rw [List.append_nil]; exact hs0, of0, fun x hx => .inl (by rw [List.append_nil] at hx; exact hx)⟩ ?_ ?_
      · rintro i σ H1 hi ⟨⟨u, rfl⟩, ex, hex, hs1, of1, hnw⟩
        have hk1 : (ka, nm, L, ms ++ ex) ∈ l1 ++ (ka, nm, L, ms ++ ex) :: l2 := List.mem_append_right _ List.mem_cons_self
        obtain ⟨v1, g1, g2, g3, g4⟩ := hs1.rt.2 _ hk1
        refine ⟨_, rfl, ka, _, _, _, rfl, rfl, SqL.of g1, rfl, .inl ⟨rfl, _, SqL.of g3⟩, _, rfl, _, rfl, p, R, _, rfl, hs1, fun z H2 wz hp2 k2 => ?_⟩
        have hs2 := hs1.next hp2 k2
        refine ⟨by show 0 ≤ sizeLine; decide, fun fa hfa => ⟨by show 2 ≤ sizeLine; decide, fun ad had => ?_⟩⟩
        have s3 := Same.new (o := .lst []) (Same.refl H2) hfa
        have e3 : upd H2 fa (.lst []) fa = some (.lst []) := upd_same
        generalize upd H2 fa (.lst []) = H3 at s3 e3 had
        have s4 := Same.new (o := .lst [.str z, .ref fa]) (Same.refl H3) had
        have e4 : upd H3 ad (.lst [.str z, .ref fa]) ad = some (.lst [.str z, .ref fa]) := upd_same
        have e5 := s4 _ _ e3
        have nad : ad ≠ fa := (ne_of_none e3 had).symm
        generalize upd H3 ad (.lst [.str z, .ref fa]) = H4 at s4 e4 e5
        have s24 := s3.trans s4
        obtain ⟨_, _, _, g3', _⟩ := hs2.rt.2 _ hk1
        have hml2 : (ms ++ ex).length < 7 := by rw [List.length_append]; omega
        refine ⟨L, _, _, rfl, rfl, s24 _ _ g3', small1000 (by rw [List.length_map]; exact Nat.le_of_lt (Nat.lt_of_lt_of_le hml2 (by decide))), ?_⟩
        obtain ⟨a1, a2, a3⟩ := hs2.addM hml2 s24 e5 e4 hfa (s3.free had) nad (od_word wz)
        have of2 : Off (p :: rA R (l1 ++ (ka, nm, L, ms) :: l2)) H H2 := of1.trans (Off.of_but hs1.pl List.mem_cons_self k2)
        refine ⟨⟨fun n => [none, none, none, none, none, none, some (.int ((ms.length : Int) + (i : Int))), u 7].getD n none, rfl⟩, ex ++ [(ad, .str z, fa, [])], by rw [List.length_append, hex]; rfl, by rw [← List.append_assoc]; exact a1, of2.grow a2 (fun x hx nx => ?_), fun x hx => ?_⟩
        · rcases hnw x hx with h | h
          · exact absurd h nx
          · exact h
        · rw [← List.append_assoc] at hx
          rcases a3 x hx with h | h
          · exact hnw x h
          · by_cases c : x ∈ p :: rA R (l1 ++ (ka, nm, L, ms) :: l2)
            · exact .inl c
            · exact .inr (of2.free c h)
      · rintro σ H1 ⟨⟨u, rfl⟩, ex, hex, hs1, of1, hnw⟩
        have hk1 : (ka, nm, L, ms ++ ex) ∈ l1 ++ (ka, nm, L, ms ++ ex) :: l2 := List.mem_append_right _ List.mem_cons_self
        have hkk := hs1.rt.2 _ hk1
        have hkk' := hkk
        obtain ⟨v1, g1, g2, g3, g4⟩ := hkk
        have hko1 := hs1.ok.2.2 _ hk1
        refine ⟨_, rfl, ka, _, _, _, rfl, rfl, SqL.of g1, rfl, _, rfl, _, rfl, L, _, rfl, SqL.of g3, fun D hD => ?_⟩
        rw [hmany, cutV_take]
        have s2 := Same.new (o := .lst (((ms ++ ex).map fun m => V.ref m.1).take (1 + r0))) (Same.refl H1) hD
        have e2 : upd H1 D (.lst (((ms ++ ex).map fun m => V.ref m.1).take (1 + r0))) D = some (.lst (((ms ++ ex).map fun m => V.ref m.1).take (1 + r0))) := upd_same
        generalize upd H1 D (.lst (((ms ++ ex).map fun m => V.ref m.1).take (1 + r0))) = H2 at s2 e2
        have g1' := s2 _ _ g1
        refine ⟨_, rfl, ka, _, _, 1, rfl, rfl, g1', rfl, ?_⟩
        have kT : KeepT H2 (upd H2 ka (.lst [v1, .ref D])) := keepT_lst g1'
        have hak : ka ∈ kA (ka, nm, L, ms ++ ex) := by unfold kA; exact List.mem_cons_self
        have ndk := nd_k hs1.rn
        unfold kA at ndk
        rw [List.nodup_cons] at ndk
        have nDk : D ≠ ka := (ne_of_none g1 hD).symm
        have hNt : NtAt (upd H2 ka (.lst [v1, .ref D])) (.ref ka) (.lst [.th nm, .lst (((ms ++ ex).take (1 + r0)).map mNT)]) := by
          refine .lst upd_same (.cons (.th ((g2.keep s2.keepT).keep kT)) (.cons (.lst (by rw [upd_ne nDk]; exact e2) ?_) .nil))
          rw [← List.map_take]
          exact nts_ms fun m0 hm0 => (g4 m0 (List.mem_of_mem_take hm0)).up s2 kT fun x hx c => ndk.1 (by rw [← c]; exact List.mem_cons_of_mem _ (in_flat (List.mem_of_mem_take hm0) hx))
        have hFin : NtFin 5 (.lst [.th nm, .lst (((ms ++ ex).take (1 + r0)).map mNT)]) := by
          refine fin2 (k := 4) hko1.1 ⟨by rw [List.length_map, List.length_take]; omega, fun x hx => ?_⟩
          obtain ⟨m0, hm0, rfl⟩ := List.mem_map.mp hx
          exact fin_m (by omega) (hko1.2.2.2 m0 (List.mem_of_mem_take hm0))
        refine q _ _ (hs1.rt.repN hs1.rn (fun x o hx nx => ?_) (s2.keepT.trans kT) hNt) (fin_rAt (by omega) hs1.ok hFin) (of1.grow (as' := p :: rA R (l1 ++ (ka, nm, L, ms ++ ex) :: l2)) ((Off.of_same s2).trans (Off.of_upd (List.mem_cons_of_mem _ (kA_in _ hak)) g1')) fun x hx nx => ?_)
        · rw [upd_ne (fun c : x = ka => nx (c ▸ hak))]
          exact s2 _ _ hx
        · rcases hnw x hx with h | h
          · exact absurd h nx
          · exact h
    · have hl7 := hs.ok.2.1
      generalize hks : l1 ++ (ka, nm, L, ms) :: l2 = ks at *
      refine ⟨_, rfl, R, _, rfl, .inl (SqL.of hs0.rt.1), _, rfl, _, _, rfl, ⟨by omega, ?_, by omega, by omega⟩, ?_⟩
      · show ((List.map (fun k : KA => V.ref k.1) ks).length : Int) < _
        rw [List.length_map]; omega
      rw [List.length_map]
      refine for_range (lo := (ks.length : Int)) (n := ((1 : Int) + (r0 : Int) - (ks.length : Int)).toNat) (fun i σ H' => (∃ u : Nat → Option V, σ = [some (.ref p), some (.ref R), some (.ref ka), some (.ref m.1), some (.int way), some (.int (1 + (r0 : Int))), u 6, u 7]) ∧ ∃ ex : List KA, ex.length = i ∧ RS n H' p R (ks ++ ex) ∧ Off (p :: rA R ks) H H' ∧ ∀ x ∈ p :: rA R (ks ++ ex), x ∈ p :: rA R ks ∨ H x = none) ⟨⟨fun _ => none, rfl⟩, [], rfl, by rw [List.append_nil]; exact hs0, of0, fun x hx => .inl (by rw [List.append_nil] at hx; exact hx)⟩ ?_ ?_
      · rintro i σ H1 hi ⟨⟨u, rfl⟩, ex, hex, hs1, of1, hnw⟩
        refine ⟨_, rfl, _, rfl, p, R, _, rfl, hs1, fun z H2 wz hp2 k2 => ?_⟩
        have hs2 := hs1.next hp2 k2
        refine ⟨_, rfl, .inl ⟨rfl, _, SqL.of hs2.rt.1⟩, _, rfl, _, rfl, by show 1 ≤ sizeLine; decide, fun fa hfa => ⟨by show 2 ≤ sizeLine; decide, fun ma hma => ⟨by show 1 ≤ sizeLine; decide, fun La hLa => ⟨by show 2 ≤ sizeLine; decide, fun kb hkb => ?_⟩⟩⟩⟩
        have s3 := Same.new (o := .lst [.str "num"]) (Same.refl H2) hfa
        have e3 : upd H2 fa (.lst [.str "num"]) fa = some (.lst [.str "num"]) := upd_same
        generalize upd H2 fa (.lst [.str "num"]) = H3 at s3 e3 hma hLa hkb
        have s4 := Same.new (o := .lst [.str z, .ref fa]) (Same.refl H3) hma
        have e4 : upd H3 ma (.lst [.str z, .ref fa]) ma = some (.lst [.str z, .ref fa]) := upd_same
        generalize upd H3 ma (.lst [.str z, .ref fa]) = H4 at s4 e4 hLa hkb
        have s5 := Same.new (o := .lst [.ref ma]) (Same.refl H4) hLa
        have e5 : upd H4 La (.lst [.ref ma]) La = some (.lst [.ref ma]) := upd_same
        generalize upd H4 La (.lst [.ref ma]) = H5 at s5 e5 hkb
        have s6 := Same.new (o := .lst [.str z, .ref La]) (Same.refl H5) hkb
        have e6 : upd H5 kb (.lst [.str z, .ref La]) kb = some (.lst [.str z, .ref La]) := upd_same
        generalize upd H5 kb (.lst [.str z, .ref La]) = H6 at s6 e6
        have s26 := s3.trans (s4.trans (s5.trans s6))
        have hl2 : (ks ++ ex).length < 7 := by rw [List.length_append]; omega
        refine ⟨R, _, _, rfl, rfl, s26 _ _ hs2.rt.1, small1000 (by rw [List.length_map]; exact Nat.le_of_lt (Nat.lt_of_lt_of_le hl2 (by decide))), ?_⟩
        have nd4 : [kb, La, ma, fa].Nodup := by
          have c1 : kb ≠ La := (ne_of_none e5 hkb).symm
          have c2 : kb ≠ ma := (ne_of_none (s5 _ _ e4) hkb).symm
          have c3 : kb ≠ fa := (ne_of_none (s5 _ _ (s4 _ _ e3)) hkb).symm
          have c4 : La ≠ ma := (ne_of_none e4 hLa).symm
          have c5 : La ≠ fa := (ne_of_none (s4 _ _ e3) hLa).symm
          have c6 : ma ≠ fa := (ne_of_none e3 hma).symm
          simp [c1, c2, c3, c4, c5, c6]
        have hnew : ∀ y ∈ [kb, La, ma, fa], H2 y = none := fun y hy => by
          simp only [List.mem_cons, List.not_mem_nil, or_false] at hy
          rcases hy with rfl | rfl | rfl | rfl
          · exact (s3.trans (s4.trans s5)).free hkb
          · exact (s3.trans s4).free hLa
          · exact s3.free hma
          · exact hfa
        obtain ⟨a1, a2, a3⟩ := hs2.addK hl2 hn1 s26 (s6 _ _ (s5 _ _ (s4 _ _ e3))) (s6 _ _ (s5 _ _ e4)) (s6 _ _ e5) e6 hnew nd4 (od_word wz)
        have of2 : Off (p :: rA R ks) H H2 := of1.trans (Off.of_but hs1.pl List.mem_cons_self k2)
        refine ⟨⟨fun n => [none, none, none, none, none, none, some (.int ((ks.length : Int) + (i : Int))), some (.str z)].getD n none, rfl⟩, ex ++ [(kb, .str z, La, [(ma, .str z, fa, [.str "num"])])], by rw [List.length_append, hex]; rfl, by rw [← List.append_assoc]; exact a1, of2.grow a2 (fun x hx nx => ?_), fun x hx => ?_⟩
        · rcases hnw x hx with h | h
          · exact absurd h nx
          · exact h
        · rw [← List.append_assoc] at hx
          rcases a3 x hx with h | h
          · exact hnw x h
          · by_cases c : x ∈ p :: rA R ks
            · exact .inl c
            · exact .inr (of2.free c h)
      · rintro σ H1 ⟨⟨u, rfl⟩, ex, hex, hs1, of1, hnw⟩
        refine ⟨by show 0 ≤ sizeLine; decide, fun e he => ?_⟩
        have s2 := Same.new (o := .lst []) (Same.refl H1) he
        have e2 : upd H1 e (.lst []) e = some (.lst []) := upd_same
        generalize upd H1 e (.lst []) = H2 at s2 e2
        have hR1 := hs1.rt.1
        have hR2 := s2 _ _ hR1
        have hl2 := hs1.ok.2.1
        refine ⟨_, rfl, _, rfl, _, rfl, R, e, _, _, 1 + r0, rfl, rfl, by rw [hmany], rfl, hR2, e2, ne_of_none hR1 he, small (m := 20) (by rw [List.length_map]; show _ + 0 ≤ 20; omega), ?_⟩
        have kT : KeepT H2 (upd H2 R (.lst (((ks ++ ex).map fun k => V.ref k.1).take (1 + r0) ++ []))) := keepT_lst hR2
        have nd := hs1.rn
        unfold rA at nd
        rw [List.nodup_cons] at nd
        have hKs : ∀ k0 ∈ ks ++ ex, KAt (upd H2 R (.lst (((ks ++ ex).map fun k => V.ref k.1).take (1 + r0) ++ []))) k0 := fun k0 hk0 => (hs1.rt.2 k0 hk0).up s2 kT fun x hx c => nd.1 (by rw [← c]; exact in_flat hk0 hx)
        have eR : upd H2 R (.lst (((ks ++ ex).map fun k => V.ref k.1).take (1 + r0) ++ [])) R = some (.lst (((ks ++ ex).take (1 + r0)).map fun k => V.ref k.1)) := by rw [upd_same, List.append_nil, List.map_take]
        have hNt : NtAt (upd H2 R (.lst (((ks ++ ex).map fun k => V.ref k.1).take (1 + r0) ++ []))) (.ref R) (.lst (((ks ++ ex).take (1 + r0)).map kNT)) := .lst eR (nts_ks fun k0 hk0 => hKs k0 (List.mem_of_mem_take hk0))
        have hFin : NtFin 6 (.lst (((ks ++ ex).take (1 + r0)).map kNT)) := by
          refine ⟨by rw [List.length_map, List.length_take]; omega, fun x hx => ?_⟩
          obtain ⟨m0, hm0, rfl⟩ := List.mem_map.mp hx
          exact fin_k (by omega) (hs1.ok.2.2 m0 (List.mem_of_mem_take hm0))
        refine q _ _ hNt hFin (of1.grow (as' := p :: rA R (ks ++ ex)) ((Off.of_same s2).trans (Off.of_upd (by simp [rA]) hR2)) fun x hx nx => ?_)
        rcases hnw x hx with h | h
        · exact absurd h nx
        · exact h
    · obtain ⟨m1, m2, rfl⟩ := List.append_of_mem hm
      obtain ⟨ma, mn, fa, fs⟩ := m
      have hmo := hko.2.2.2 _ hm
      have hfl : fs.length ≤ n := hmo.2.1
      obtain ⟨_, _, _, _, h4⟩ := hs0.rt.2 _ hk
      obtain ⟨v, fvs, g1, g2, g3, g4⟩ := h4 _ hm
      have hvl : fvs.length = fs.length := g4.length
      have hmod : (1 + (r0 : Int)) % 2 ≤ 1 ∧ 0 ≤ (1 + (r0 : Int)) % 2 := by omega
      refine ⟨_, rfl, ma, _, _, _, rfl, rfl, SqL.of g1, rfl, fa, _, rfl, .inl (SqL.of g3), _, rfl, _, _, rfl, rfl, (by show (0 : Int) < 2; decide), _, _, rfl, rfl, _, _, rfl, ⟨by omega, by omega, by omega, by omega⟩, ?_⟩
      have hamA : fa ∈ mA (ma, mn, fa, fs) := by simp [mA]
      refine for_range (lo := (fvs.length : Int)) (n := ((4 : Int) + (1 + (r0 : Int)) % 2 - (fvs.length : Int)).toNat) (fun i σ H' => (∃ u : Nat → Option V, σ = [some (.ref p), some (.ref R), some (.ref ka), some (.ref ma), some (.int way), some (.int (1 + (r0 : Int))), u 6, u 7]) ∧ ∃ fs' : List TH, RS (n + i) H' p R (l1 ++ (ka, nm, L, m1 ++ (ma, mn, fa, fs') :: m2) :: l2) ∧ rA R (l1 ++ (ka, nm, L, m1 ++ (ma, mn, fa, fs') :: m2) :: l2) = rA R (l1 ++ (ka, nm, L, m1 ++ (ma, mn, fa, fs) :: m2) :: l2) ∧ Off (p :: rA R (l1 ++ (ka, nm, L, m1 ++ (ma, mn, fa, fs) :: m2) :: l2)) H H') ⟨⟨fun _ => none, rfl⟩, fs, hs0, rfl, of0⟩ ?_ ?_
      · rintro i σ H1 hi ⟨⟨u, rfl⟩, fs', hs1, eA, of1⟩
        have hk1 : (ka, nm, L, m1 ++ (ma, mn, fa, fs') :: m2) ∈ l1 ++ (ka, nm, L, m1 ++ (ma, mn, fa, fs') :: m2) :: l2 := List.mem_append_right _ List.mem_cons_self
        have hm1 : (ma, mn, fa, fs') ∈ m1 ++ (ma, mn, fa, fs') :: m2 := List.mem_append_right _ List.mem_cons_self
        obtain ⟨_, _, _, _, h4'⟩ := hs1.rt.2 _ hk1
        obtain ⟨v', fvs', g1', g2', g3', g4'⟩ := h4' _ hm1
        have hmo1 := (hs1.ok.2.2 _ hk1).2.2.2 _ hm1
        have hfl1 : fs'.length ≤ n + i := hmo1.2.1
        have hvl1 : fvs'.length = fs'.length := g4'.length
        refine ⟨_, rfl, ma, _, _, _, rfl, rfl, SqL.of g1', rfl, .inl ⟨rfl, _, SqL.of g3'⟩, fa, _, _, rfl, rfl, g3', small1000 (by omega), ?_⟩
        have kT : KeepT H1 (upd H1 fa (.lst (fvs' ++ [.str "num"]))) := keepT_lst g3'
        have nfm : ma ≠ fa := by
          have ndk := nd_k hs1.rn
          rw [kA_split, List.nodup_cons, List.nodup_cons, List.nodup_append] at ndk
          have h2 := ndk.2.2.2.1
          rw [List.nodup_append] at h2
          have h3 := h2.1
          unfold mA at h3
          rw [List.nodup_cons] at h3
          exact fun c => h3.1 (by rw [c]; exact List.mem_singleton_self _)
        have hof : ∀ f ∈ fs' ++ [TH.str "num"], Od f := fun f hf => by
          rcases List.mem_append.mp hf with h | h
          · exact hmo1.2.2 f h
          · rw [List.mem_singleton.mp h]; exact od_word word_num
        obtain ⟨r1, r2⟩ := hs1.setM (a := fa) (m' := (ma, mn, fa, fs' ++ [.str "num"])) (o := .lst (fvs' ++ [.str "num"])) (by simp [mA]) g3' rfl ⟨v', _, by rw [upd_ne nfm]; exact g1', g2'.keep kT, upd_same, (g4'.keep kT).append (.cons (.str _) .nil)⟩ ⟨hmo1.1, by show (fs' ++ [TH.str "num"]).length ≤ n + i + 1; rw [List.length_append, List.length_singleton]; omega, hof⟩
        refine ⟨⟨fun n => [none, none, none, none, none, none, some (.int ((fvs.length : Int) + (i : Int))), u 7].getD n none, rfl⟩, fs' ++ [.str "num"], r1, r2.trans eA, of1.trans (Off.of_upd (List.mem_cons_of_mem _ ?_) g3')⟩
        rw [← eA]
        exact kA_in _ (mA_in _ (by simp [mA]))
      · rintro σ H1 ⟨⟨u, rfl⟩, fs', hs1, eA, of1⟩
        exact q _ _ hs1.rt.nt (fin_r (by omega) hs1.ok) of1

end
end My

set_option Elab.async false
set_option linter.all false
set_option maxRecDepth 100000
set_option maxHeartbeats 4000000
namespace My
open PySem PySem.Spec PyProof.Rows L2 Bk Nm
section
variable {P : Program} {w : World} {K : PySem.W.Frag} {mg : Str → Option Value} {base : Heap} {t : Adr}
def spTurn : Sp := fun vs H Q _ => ∃ (n : Nat) (p R : Addr) (ks : List KA) (way : Int), vs = [.ref p, .ref R, .int way] ∧ RS n H p R ks ∧ 1 ≤ n ∧ n ≤ 40 ∧ (∀ ks' H', way < 4 → RS (n + 1) H' p R ks' → rA R ks' = rA R ks → Off (p :: rA R ks) H H' → Q .non H') ∧ ∀ nt H', 4 ≤ way → NtAt H' (.ref R) nt → NtFin 6 nt → Off (p :: rA R ks) H H' → Q .non H'
theorem ok_law_turn (T : Txt K mg t) : FnOk P w K mg base CX0 6 t.f_law_turn t.d_law_turn ["pool", "rows", "way"] spTurn := by
  have G_law_next : FnOk P w K mg base CX0 1 t.f_law_next t.d_law_next ["pool", "base"] spNext := ok_law_next T
  refine T.F_law_turn.ok sc_law_turn (fun vs H Q E h => ?_) (fun cdv A outer s H vs Q E hr h => ?_)
  · obtain ⟨_, _, _, _, _, rfl, _⟩ := h
    rfl
  · obtain ⟨n, p, R, ks, way, rfl, hs, hn1, hn, q1, q2⟩ := h
    have G_law_odd : FnOk P w K mg base CX0 4 t.f_law_odd t.d_law_odd ["pool", "rows"] (spOdd n) := ok_law_odd T n
    have G_law_named : FnOk P w K mg base CX0 2 t.f_law_named t.d_law_named ["pool", "row", "one", "odd", "way"] (spNamed n) := ok_law_named T n
    have G_law_filled : FnOk P w K mg base CX0 4 t.f_law_filled t.d_law_filled ["pool", "rows", "row", "one", "way"] (spFilled n) := ok_law_filled T n
    have G_law_broken : FnOk P w K mg base CX0 2 t.f_law_broken t.d_law_broken ["rows", "at", "one", "odd", "way"] (spBroken n) := ok_law_broken T n
    refine ⟨_, (pss_cons (ps_set (i := 3) sc_law_turn.nd rfl l_law_turn_odd (pe_call G_law_odd (hr.mono (by omega)) g_law_turn_law_odd T.m_law_odd T.F_law_odd.kp T.b_law_odd .nil pass0 (pa_cons (pe_var (i := 0) rfl v_law_turn_pool db_pool cd_pool) (pa_cons (pe_var (i := 1) rfl v_law_turn_rows db_rows cd_rows) pa_nil)) db_law_odd))
  (pss_cons (ps_set (i := 4) sc_law_turn.nd rfl l_law_turn_at (pe_call G_law_next (hr.mono (by omega)) g_law_turn_law_next T.m_law_next T.F_law_next.kp T.b_law_next .nil pass0 (pa_cons (pe_var (i := 0) rfl v_law_turn_pool db_pool cd_pool) (pa_cons (pe_callB call_len_seq g_law_turn_len T.z_len bt_len (pa_cons (pe_var (i := 1) rfl v_law_turn_rows db_rows cd_rows) pa_nil) nn_len db_len) pa_nil)) db_law_next))
  (pss_cons (ps_set (i := 5) sc_law_turn.nd rfl l_law_turn_one (pe_ix ix_list (pe_ix ix_list (pe_ix ix_list (pe_var (i := 1) rfl v_law_turn_rows db_rows cd_rows) (pe_var (i := 4) rfl v_law_turn_at db_at cd_at) (fun _ _ => rfl)) pe_int (fun _ _ => rfl)) (pe_call G_law_next (hr.mono (by omega)) g_law_turn_law_next T.m_law_next T.F_law_next.kp T.b_law_next .nil pass0 (pa_cons (pe_var (i := 0) rfl v_law_turn_pool db_pool cd_pool) (pa_cons (pe_callB call_len_seq g_law_turn_len T.z_len bt_len (pa_cons (pe_ix ix_list (pe_ix ix_list (pe_var (i := 1) rfl v_law_turn_rows db_rows cd_rows) (pe_var (i := 4) rfl v_law_turn_at db_at cd_at) (fun _ _ => rfl)) pe_int (fun _ _ => rfl)) pa_nil) nn_len db_len) pa_nil)) db_law_next) (fun _ _ => rfl)))
  (pss_one (ps_if (pt_cmpR op_lt (pe_var (i := 2) rfl v_law_turn_way db_way cd_way) pe_int (nomark _)) (pss_one (ps_expr (pe_call G_law_named (hr.mono (by omega)) g_law_turn_law_named T.m_law_named T.F_law_named.kp T.b_law_named .nil pass0 (pa_cons (pe_var (i := 0) rfl v_law_turn_pool db_pool cd_pool) (pa_cons (pe_ix ix_list (pe_var (i := 1) rfl v_law_turn_rows db_rows cd_rows) (pe_var (i := 4) rfl v_law_turn_at db_at cd_at) (fun _ _ => rfl)) (pa_cons (pe_var (i := 5) rfl v_law_turn_one db_one cd_one) (pa_cons (pe_var (i := 3) rfl v_law_turn_odd db_odd cd_odd) (pa_cons (pe_var (i := 2) rfl v_law_turn_way db_way cd_way) pa_nil))))) db_law_named))) (pss_one (ps_if (pt_cmpR op_lt (pe_var (i := 2) rfl v_law_turn_way db_way cd_way) pe_int (nomark _)) (pss_one (ps_expr (pe_call G_law_filled (hr.mono (by omega)) g_law_turn_law_filled T.m_law_filled T.F_law_filled.kp T.b_law_filled .nil pass0 (pa_cons (pe_var (i := 0) rfl v_law_turn_pool db_pool cd_pool) (pa_cons (pe_var (i := 1) rfl v_law_turn_rows db_rows cd_rows) (pa_cons (pe_ix ix_list (pe_var (i := 1) rfl v_law_turn_rows db_rows cd_rows) (pe_var (i := 4) rfl v_law_turn_at db_at cd_at) (fun _ _ => rfl)) (pa_cons (pe_var (i := 5) rfl v_law_turn_one db_one cd_one) (pa_cons (pe_var (i := 2) rfl v_law_turn_way db_way cd_way) pa_nil))))) db_law_filled))) (pss_one (ps_expr (pe_call G_law_broken (hr.mono (by omega)) g_law_turn_law_broken T.m_law_broken T.F_law_broken.kp T.b_law_broken .nil pass0 (pa_cons (pe_var (i := 1) rfl v_law_turn_rows db_rows cd_rows) (pa_cons (pe_var (i := 4) rfl v_law_turn_at db_at cd_at) (pa_cons (pe_var (i := 5) rfl v_law_turn_one db_one cd_one) (pa_cons (pe_var (i := 3) rfl v_law_turn_odd db_odd cd_odd) (pa_cons (pe_var (i := 2) rfl v_law_turn_way db_way cd_way) pa_nil))))) db_law_broken)))))))))), ?_⟩
    refine ⟨_, rfl, _, rfl, p, R, ks, rfl, hs, fun ov tt H1 ho od hp1 k1 => ?_⟩
    have hs1 := hs.next hp1 k1
    have of1 : Off (p :: rA R ks) H H1 := Off.of_but hs.pl List.mem_cons_self k1
    refine ⟨_, rfl, _, rfl, R, _, rfl, .inl (SqL.of hs1.rt.1), p, _, rfl, hs1.pl, ?_, ?_, fun r H2 r2 hp2 k2 => ?_⟩
    · rw [List.length_map]; have := hs.ok.1; omega
    · exact log_small (by rw [List.length_map]; have := hs.ok.2.1; omega)
    rw [List.length_map] at r2
    have hr2 : r < ks.length := by omega
    have hs2 := hs1.next hp2 k2
    have of2 := of1.trans (Off.of_but hs1.pl List.mem_cons_self k2)
    have hkg : ks[r]? = some ks[r] := List.getElem?_eq_getElem hr2
    generalize ks[r] = k at hkg
    have hkm : k ∈ ks := List.mem_of_getElem? hkg
    have hko := hs.ok.2.2 k hkm
    have hrow := ix_row hkg
    obtain ⟨v, u1, u2, u3, u4⟩ := hs2.rt.2 k hkm
    have hml := hko.2.1
    have hml7 := hko.2.2.1
    refine ⟨_, rfl, _, rfl, R, _, _, _, rfl, rfl, SqL.of hs2.rt.1, atI_nat hrow, k.1, _, _, _, rfl, rfl, SqL.of u1, rfl, _, rfl, _, rfl, _, rfl, R, _, _, _, rfl, rfl, SqL.of hs2.rt.1, atI_nat hrow, k.1, _, _, _, rfl, rfl, SqL.of u1, rfl, k.2.2.1, _, rfl, .inl (SqL.of u3), p, _, rfl, hs2.pl, ?_, ?_, fun r3 H3 r3l hp3 k3 => ?_⟩
    · rw [List.length_map]; omega
    · exact log_small (by rw [List.length_map]; omega)
    rw [List.length_map] at r3l
    have hr3 : r3 < k.2.2.2.length := by omega
    have hs3 := hs2.next hp3 k3
    have of3 := of2.trans (Off.of_but hs2.pl List.mem_cons_self k3)
    have hmg : k.2.2.2[r3]? = some k.2.2.2[r3] := List.getElem?_eq_getElem hr3
    generalize k.2.2.2[r3] = m at hmg
    have hmm : m ∈ k.2.2.2 := List.mem_of_getElem? hmg
    obtain ⟨v3, f1, f2, f3, f4⟩ := hs3.rt.2 k hkm
    have ho3 : ThAt H3 ov tt := (ho.keep (hs1.pl.keepT k2)).keep (hs2.pl.keepT k3)
    refine ⟨k.2.2.1, _, _, _, rfl, rfl, SqL.of f3, atI_nat (by rw [List.getElem?_map, hmg]; rfl), ?_⟩
    refine ⟨_, rfl, _, _, rfl, rfl, _, rfl, ite2 (fun hw => ?_) (fun hw => ⟨_, rfl, _, _, rfl, rfl, _, rfl, ite2 (fun _ => ?_) (fun _ => ?_)⟩)⟩
    · refine ⟨_, rfl, _, rfl, _, rfl, R, _, _, _, rfl, rfl, SqL.of hs3.rt.1, atI_nat hrow, _, rfl, _, rfl, _, rfl, p, R, ks, k, m, ov, tt, way, rfl, hs3, by omega, hkm, hmm, ho3, od, fun ks' H' r1 r2 o => ?_⟩
      exact q1 ks' H' (of_decide_eq_true hw) r1 r2 (of3.trans o)
    · refine ⟨_, rfl, _, rfl, _, rfl, _, rfl, R, _, _, _, rfl, rfl, SqL.of hs3.rt.1, atI_nat hrow, _, rfl, _, rfl, p, R, ks, k, m, way, rfl, hs3, hn1, hn, hkm, hmm, fun nt H' r1 r2 o => ?_⟩
      exact q2 nt H' (Int.not_lt.mp fun h => hw (decide_eq_true h)) r1 r2 (of3.trans o)
    · refine ⟨_, rfl, _, rfl, _, rfl, _, rfl, _, rfl, p, R, ks, r, k, m, ov, tt, way, rfl, hs3, by omega, hkg, hmm, ho3, od, fun nt H' r1 r2 o => ?_⟩
      exact q2 nt H' (Int.not_lt.mp fun h => hw (decide_eq_true h)) r1 r2 (of3.trans o)

end
end My

set_option Elab.async false
set_option linter.all false
set_option maxRecDepth 100000
set_option maxHeartbeats 4000000
namespace My
open PySem PySem.Spec PyProof.Rows L2 Bk Nm
section
variable {P : Program} {w : World} {K : PySem.W.Frag} {mg : Str → Option Value} {base : Heap} {t : Adr}
def spLaw (mg : Str → Option Value) (K : PySem.W.Frag) (base : Heap) : Sp := fun vs H Q _ => ∃ (a : Addr) (ns : List Int), vs = [.ref a] ∧ TabsOf names mg base H ∧ SqL K H a (ns.map V.int) ∧ ns.length ≤ 63 ∧ ∀ H', Same H H' → Q (.bl true) H'
theorem law_start {mg : Str → Option Value} {K : PySem.W.Frag} {base : Heap} {H : Hp} {a : Addr} {ns : List Int} (hl : ns.length ≤ 63) (hT : TabsOf names mg base H) (hS : SqL K H a (ns.map V.int)) :
    spLaw mg K base [.ref a] H (fun v H' => v = .bl true ∧ ∀ P, H P = some (tabO P) → H' P = some (tabO P)) fun _ _ _ => False :=
  ⟨a, ns, rfl, hT, hS, hl, fun H' s => ⟨rfl, fun P h => s P _ h⟩⟩
theorem if_join {c : TT} {tt uu : TS} {D : Ends} {σ : L2.St} {H : Hp} (R : L2.St → Hp → Prop) (hR : ∀ σ' H', R σ' H' → D.nx σ' H') (h : ∀ nx : L2.St → Hp → Prop, (∀ σ' H', R σ' H' → nx σ' H') → tIfS c tt uu { D with nx := nx } σ H) : tIfS c tt uu D σ H := h D.nx hR
theorem Off.sameN {as : List Addr} {H0 H H' : Hp} (o : Off as H H') (s : Same H0 H) (h : ∀ x ∈ as, H0 x = none) : Same H0 H' := fun x ob hx => o.1 x ob (s x ob hx) (fun c => by rw [h x c] at hx; cases hx)
theorem k_bool_bool' : kitT "bool" "bool" = some true := by decide +kernel
theorem turn_any {n : Nat} {p R : Addr} {ks : List KA} {way : Int} {H : Hp} (Q : Hp → Prop) (h40 : n ≤ 40) (q : ∀ nt H', NtAt H' (.ref R) nt → NtFin 6 nt → Off (p :: rA R ks) H H' → Q H') : (∀ ks' H', way < 4 → RS (n + 1) H' p R ks' → rA R ks' = rA R ks → Off (p :: rA R ks) H H' → Q H') ∧ ∀ nt H', 4 ≤ way → NtAt H' (.ref R) nt → NtFin 6 nt → Off (p :: rA R ks) H H' → Q H' :=
  ⟨fun ks' H' _ rs _ o => q _ H' rs.rt.nt (fin_r (by omega) rs.ok) o, fun nt H' _ => q nt H'⟩
theorem book_nil : bookT (.tup []) = false := book_no fun B e ok => by
  have h1 := ok.lo
  unfold bTH at e
  injection e with e
  cases B with
  | nil => simp at h1
  | cons _ _ => cases e
set_option maxHeartbeats 16000000 in
theorem ok_law (T : Txt K mg t) (kb : K.In base) (hB : ∃ bm ob, BMod base mainGlobals mg bm ob) : FnOk P w K mg base CX0 60 t.f_law t.d_law ["script"] (spLaw mg K base) := by
  have G_law_pool : FnOk P w K mg base CX0 1 t.f_law_pool t.d_law_pool ["cell"] spPool := ok_law_pool T
  have G_law_next : FnOk P w K mg base CX0 1 t.f_law_next t.d_law_next ["pool", "base"] spNext := ok_law_next T
  have G_law_book : FnOk P w K mg base CX0 8 t.f_law_book t.d_law_book ["pool"] spBook := ok_law_book T
  have G_law_open : FnOk P w K mg base CX0 2 t.f_law_open t.d_law_open ["book"] spOpen := ok_law_open T
  have G_law_turn : FnOk P w K mg base CX0 6 t.f_law_turn t.d_law_turn ["pool", "rows", "way"] spTurn := ok_law_turn T
  have G_law_shut : FnOk P w K mg base CX0 21 t.f_law_shut t.d_law_shut ["thing"] (spShut 6) := ok_law_shut T 6
  have G_law_due : FnOk P w K mg base CX0 5 t.f_law_due t.d_law_due ["thing"] spLDue := ok_law_due T
  have G_is_book : FnOk P w K mg base CX0 9 t.f_is_book t.d_is_book ["thing"] (spIsBook mg base) := ok_is_book T kb hB
  refine T.F_law.ok sc_law (fun vs H Q E h => ?_) (fun cdv A outer s H vs Q E hr h => ?_)
  · obtain ⟨a, ns, rfl, _⟩ := h
    rfl
  · obtain ⟨a, ns, rfl, tb, hS, hn, q⟩ := h
    refine ⟨_, (pss_cons (ps_set (i := 1) sc_law.nd rfl l_law_first pe_int)
  (pss_cons (ps_if (pt_cmpR op_gt (pe_callB call_len_seq g_law_len T.z_len bt_len (pa_cons (pe_var (i := 0) rfl v_law_script db_script cd_script) pa_nil) nn_len db_len) pe_int (nomark _)) (pss_one (ps_set (i := 1) sc_law.nd rfl l_law_first (pe_ix ix_list (pe_var (i := 0) rfl v_law_script db_script cd_script) pe_int (fun _ _ => rfl)))) pss_nil)
  (pss_cons (ps_set (i := 2) sc_law.nd rfl l_law_book (pe_call G_law_book (hr.mono (by omega)) g_law_law_book T.m_law_book T.F_law_book.kp T.b_law_book .nil pass0 (pa_cons (pe_call G_law_pool (hr.mono (by omega)) g_law_law_pool T.m_law_pool T.F_law_pool.kp T.b_law_pool .nil pass0 (pa_cons (pe_var (i := 1) rfl v_law_first db_first cd_first) pa_nil) db_law_pool) pa_nil) db_law_book))
  (pss_cons (ps_if (PW.pt (pw_or (pt_cmpR op_isnotB (pe_call G_is_book (hr.mono (by omega)) g_law_is_book T.m_is_book T.F_is_book.kp T.b_is_book .nil pass0 (pa_cons (pe_var (i := 2) rfl v_law_book db_book cd_book) pa_nil) db_is_book) pe_bl (nomark _)) (pw_or1 (pt_cmpR op_isnotB (pe_call G_is_book (hr.mono (by omega)) g_law_is_book T.m_is_book T.F_is_book.kp T.b_is_book .nil pass0 (pa_cons (pe_tup pa_nil) pa_nil) db_is_book) pe_bl (nomark _))))) (pss_one (ps_ret pe_bl)) pss_nil)
  (pss_cons (ps_for PassesOwn.never rfl (pi_list (pe_slice sl_list (pe_var (i := 0) rfl v_law_script db_script cd_script) (po_some pe_int) po_none)) (pg_name (i := 3) sc_law.nd rfl l_law_cell (.inl rfl)) (pss_cons (ps_set (i := 4) sc_law.nd rfl l_law_pool (pe_call G_law_pool (hr.mono (by omega)) g_law_law_pool T.m_law_pool T.F_law_pool.kp T.b_law_pool .nil pass0 (pa_cons (pe_var (i := 3) rfl v_law_cell db_cell cd_cell) pa_nil) db_law_pool))
  (pss_cons (ps_set (i := 5) sc_law.nd rfl l_law_rows (pe_call G_law_open (hr.mono (by omega)) g_law_law_open T.m_law_open T.F_law_open.kp T.b_law_open .nil pass0 (pa_cons (pe_var (i := 2) rfl v_law_book db_book cd_book) pa_nil) db_law_open))
  (pss_cons (ps_if (pt_cmpR op_eq (pe_call G_law_next (hr.mono (by omega)) g_law_law_next T.m_law_next T.F_law_next.kp T.b_law_next .nil pass0 (pa_cons (pe_var (i := 4) rfl v_law_pool db_pool cd_pool) (pa_cons pe_int pa_nil)) db_law_next) pe_int (nomark _)) (pss_one (ps_expr (pe_call G_law_turn (hr.mono (by omega)) g_law_law_turn T.m_law_turn T.F_law_turn.kp T.b_law_turn .nil pass0 (pa_cons (pe_var (i := 4) rfl v_law_pool db_pool cd_pool) (pa_cons (pe_var (i := 5) rfl v_law_rows db_rows cd_rows) (pa_cons (pe_call G_law_next (hr.mono (by omega)) g_law_law_next T.m_law_next T.F_law_next.kp T.b_law_next .nil pass0 (pa_cons (pe_var (i := 4) rfl v_law_pool db_pool cd_pool) (pa_cons pe_int pa_nil)) db_law_next) pa_nil))) db_law_turn))) pss_nil)
  (pss_cons (ps_expr (pe_call G_law_turn (hr.mono (by omega)) g_law_law_turn T.m_law_turn T.F_law_turn.kp T.b_law_turn .nil pass0 (pa_cons (pe_var (i := 4) rfl v_law_pool db_pool cd_pool) (pa_cons (pe_var (i := 5) rfl v_law_rows db_rows cd_rows) (pa_cons (pe_call G_law_next (hr.mono (by omega)) g_law_law_next T.m_law_next T.F_law_next.kp T.b_law_next .nil pass0 (pa_cons (pe_var (i := 4) rfl v_law_pool db_pool cd_pool) (pa_cons pe_int pa_nil)) db_law_next) pa_nil))) db_law_turn))
  (pss_cons (ps_set (i := 6) sc_law.nd rfl l_law_thing (pe_call G_law_shut (hr.mono (by omega)) g_law_law_shut T.m_law_shut T.F_law_shut.kp T.b_law_shut .nil pass0 (pa_cons (pe_var (i := 5) rfl v_law_rows db_rows cd_rows) pa_nil) db_law_shut))
  (pss_cons (ps_set (i := 7) sc_law.nd rfl l_law_found (pe_call G_is_book (hr.mono (by omega)) g_law_is_book T.m_is_book T.F_is_book.kp T.b_is_book .nil pass0 (pa_cons (pe_var (i := 6) rfl v_law_thing db_thing cd_thing) pa_nil) db_is_book))
  (pss_one (ps_if (PW.pt (pw_or (pt_not (pt_val (pe_callB call_isi g_law_isinstance T.z_isinstance bt_isinstance (pa_cons (pe_var (i := 7) rfl v_law_found db_found cd_found) (pa_cons (pe_bltn (v := V.ty "bool") g_law_bool T.z_bool bt_bool rfl nn_bool db_bool) pa_nil)) nn_isinstance db_isinstance))) (pw_or1 (pt_cmpR op_ne (pe_var (i := 7) rfl v_law_found db_found cd_found) (pe_call G_law_due (hr.mono (by omega)) g_law_law_due T.m_law_due T.F_law_due.kp T.b_law_due .nil pass0 (pa_cons (pe_var (i := 6) rfl v_law_thing db_thing cd_thing) pa_nil) db_law_due) (nomark _))))) (pss_one (ps_ret pe_bl)) pss_nil)))))))))
  (pss_one (ps_ret pe_bl))))))), ?_⟩
    refine ⟨_, rfl, a, _, rfl, .inl hS, _, _, rfl, rfl, _, rfl, ?_⟩
    refine if_set (m0 := .int 0) (fun v H' => H' = H ∧ ∃ z : Int, v = .int z) rfl (fun hb k hk => ?_) (fun _ => ⟨rfl, 0, rfl⟩) ?_
    · have hb : 0 < ns.length := by
        have := of_decide_eq_true hb
        rw [List.length_map] at this
        omega
      exact ⟨_, rfl, a, _, 0, .int ns[0], rfl, rfl, hS, atI_nat (j := 0) (by simp [hb]), hk _ _ ⟨rfl, _, rfl⟩⟩
    · rintro v0 H' ⟨rfl, z, rfl⟩
      refine ⟨_, rfl, z, rfl, fun p H3 np hp3 s3 => ⟨p, rfl, hp3, fun bv B H4 hb wf hp4 k4 => ?_⟩⟩
      have s4 : Same H' H4 := s3.but np k4
      have okB := okB_wf wf
      have eB := book_yes okB
      refine ⟨_, rfl, bv, bTH B, rfl, tb.same s4, book_th hb, sm_book okB, fun H5 s5 => ?_⟩
      rw [eB]
      refine ⟨_, rfl, _, rfl, iteNS rfl ?_⟩
      refine ⟨by show 0 ≤ sizeLine; decide, fun e he => ?_⟩
      have s6 : Same H5 (upd H5 e (.tup [])) := Same.new (Same.refl _) he
      have he6 : upd H5 e (.tup []) e = some (.tup []) := upd_same
      generalize upd H5 e (.tup []) = H6 at s6 he6
      have s06 := (s4.trans s5).trans s6
      refine ⟨.ref e, .tup [], rfl, tb.same s06, .tup he6 .nil, by rw [Sm, Sms]; exact ⟨by decide, trivial⟩, fun H7 s7 => ?_⟩
      rw [book_nil]
      refine ⟨_, rfl, _, rfl, iteNS rfl ?_⟩
      have s07 := s06.trans s7
      have hb7 := hb.keep ((s5.trans s6).trans s7).keepT
      refine ⟨_, rfl, 1, rfl, a, _, rfl, Same.seq s07 hS, fun C hC => ?_⟩
      have ecut : cutV (ns.map V.int) (some 1) none = (ns.drop 1).map V.int := by
        have := cutV_drop (ns.map V.int) 1
        rw [List.map_drop]
        exact this
      have s8 : Same H7 (upd H7 C (.lst (cutV (ns.map V.int) (some 1) none))) := Same.new (Same.refl _) hC
      have hC8 : upd H7 C (.lst (cutV (ns.map V.int) (some 1) none)) C = some (.lst ((ns.drop 1).map V.int)) := by rw [upd_same, ecut]
      generalize upd H7 C (.lst (cutV (ns.map V.int) (some 1) none)) = H8 at s8 hC8
      have hb8 := hb7.keep s8.keepT
      have t8 := tb.same (s07.trans s8)
      refine ⟨C, rfl, ⟨_, SqL.of hC8⟩, for_list (K := K) (a := C) (xs := (ns.drop 1).map V.int) (fun i σ H10 => (∃ v : Nat → Option V, σ = [some (.ref a), some (.int z), some bv, v 3, v 4, v 5, v 6, v 7]) ∧ Same H8 H10) ⟨⟨fun _ => none, rfl⟩, Same.refl _⟩ (fun i σ H10 _ ⟨_, s10⟩ => SqL.of (s10 _ _ hC8)) ?_ ?_⟩
      · rintro i x σ H10 hx ⟨⟨v, rfl⟩, s10⟩
        obtain ⟨y, rfl⟩ : ∃ y, x = V.int y := by
          obtain ⟨n, _, e⟩ := List.mem_map.mp (List.mem_of_getElem? hx)
          exact ⟨n, e.symm⟩
        refine ⟨_, rfl, y, rfl, fun pl H11 npl hpl11 s11 => ?_⟩
        have hb11 := hb8.keep (s10.trans s11).keepT
        refine ⟨_, rfl, bv, B, rfl, hb11, wf, fun R ks H12 hRA hnd hfr hkd s12 => ?_⟩
        have hp12 : PoolAt H12 pl := by obtain ⟨x, y, z, h⟩ := hpl11; exact ⟨x, y, z, s12 _ _ h⟩
        have npR : pl ∉ rA R ks := fun c => by
          obtain ⟨x, y, z, h⟩ := hpl11
          rw [hfr pl c] at h; cases h
        have hs12 : RS 4 H12 pl R ks := ⟨hp12, hRA, List.nodup_cons.mpr ⟨npR, hnd⟩, ok_rows wf hkd⟩
        have s1012 := s11.trans s12
        have fr : ∀ x ∈ pl :: rA R ks, H10 x = none := fun x hx => by
          rcases List.mem_cons.mp hx with e | e
          · rw [e]; exact npl
          · exact s11.free (hfr x e)
        dsimp only [gName, tSeq]
        refine if_join (R := fun σ' H' => σ' = [some (.ref a), some (.int z), some bv, some (.int y), some (.ref pl), some (.ref R), v 6, v 7] ∧ ∃ n ks', n ≤ 5 ∧ 1 ≤ n ∧ RS n H' pl R ks' ∧ rA R ks' = rA R ks ∧ Off (pl :: rA R ks) H12 H') ?_ ?_
        · rintro σ2 H13 ⟨rfl, n, ks2, hn5, hn1, hs13, erA, o13⟩
          refine ⟨_, rfl, _, rfl, _, rfl, pl, _, rfl, hs13.pl, by decide, by decide +kernel, fun r H14 hr14 hp14 k14 => ?_⟩
          have hs14 := hs13.next hp14 k14
          have o14 : Off (pl :: rA R ks) H12 H14 := o13.trans (Off.of_but hs13.pl List.mem_cons_self k14)
          refine ⟨n, pl, R, ks2, (r : Int), rfl, hs14, hn1, by omega, turn_any _ (by omega) fun nt H15 hnt hfin o15 => ?_⟩
          rw [erA] at o15
          have o125 := o14.trans o15
          have s1015 : Same H10 H15 := o125.sameN s1012 fr
          obtain ⟨f1, f2, f3⟩ := hfin.ok
          refine ⟨_, rfl, .ref R, nt, rfl, hnt, f1, fun u H16 hu s16 => ?_⟩
          refine ⟨_, rfl, u, shutD nt, rfl, t8.same (s10.trans (s1015.trans s16)), hu, f2, fun H17 s17 => ?_⟩
          refine ⟨_, rfl, _, _, _, _, rfl, .bl _, kit_ty k_bool_bool', _, rfl, iteF ?_⟩
          refine ⟨_, rfl, _, rfl, u, shutD nt, rfl, hu.keep s17.keepT, f2, f3.mono (by decide), fun H18 s18 => ?_⟩
          refine ⟨rfl, _, rfl, iteNS rfl ?_⟩
          exact ⟨⟨fun n => [none, none, none, some (.int y), some (.ref pl), some (.ref R), some u, some (.bl (bookT (shutD nt)))].getD n none, rfl⟩, s10.trans (((s1015.trans s16).trans s17).trans s18)⟩
        · intro nx hk
          refine ⟨_, rfl, pl, _, rfl, hp12, by decide, by decide +kernel, fun r H13 hr13 hp13 k13 => ?_⟩
          have hs13 := hs12.next hp13 k13
          have o13 : Off (pl :: rA R ks) H12 H13 := Off.of_but hp12 List.mem_cons_self k13
          refine ⟨rfl, _, rfl, ?_⟩
          refine ite2 (fun _ => ?_) (fun _ => ?_)
          · refine ⟨_, rfl, _, rfl, _, rfl, pl, _, rfl, hp13, by decide, by decide +kernel, fun r2 H14 hr14 hp14 k14 => ?_⟩
            have hs14 := hs13.next hp14 k14
            have o14 : Off (pl :: rA R ks) H12 H14 := o13.trans (Off.of_but hp13 List.mem_cons_self k14)
            refine ⟨4, pl, R, ks, r2, rfl, hs14, by decide, by decide, fun ks' H15 _ rs e o => ?_, fun nt H15 hw _ _ _ => ?_⟩
            · exact hk _ _ ⟨rfl, 5, ks', by decide, by decide, rs, e, o14.trans o⟩
            · exact absurd hr14 (by omega)
          · exact hk _ _ ⟨rfl, 4, ks, by decide, by decide, hs13, rfl, o13⟩
      · rintro σ H10 ⟨⟨v, rfl⟩, s10⟩
        exact q H10 ((s07.trans s8).trans s10)

end
end My

set_option Elab.async false
set_option linter.all false
set_option maxRecDepth 100000
set_option maxHeartbeats 4000000
open PySem PySem.W PyProof.Rows
set_option maxRecDepth 100000 in
set_option maxHeartbeats 0 in
theorem PySem.Challenge.cw_shapecourt_k03_books_known_holds : PySem.Challenge.rw_shapecourt_k03_books_known.Holds := by
  w_on; o_law; k_head; (case hw => w_witness2)
  k_fill
  refine L2.walk_ofT (l := PySem.Challenge.rw_shapecourt_k03_books_known) (n := 63) (k := 60) (x := "script") (names := ["is_word", "has_make_form", "has_kind_form", "is_book"]) (sp := fun mg K base => My.spLaw mg K base) rfl (by decide) rfl ⟨rfl, by decide, by decide⟩ (fun w h Y => PySem.W.kIn_of Y) ?KC ?NM ?F ?S
  case KC => intro p; kernel_rfl
  case NM => decide +kernel
  case S => exact fun mg K base H a ns hl hT hS => My.law_start hl hT hS
  case F =>
    intro w mg fa h KX G hmg
    have T : ∃ t, My.Txt (L2.KOf KX) mg t := by
      dsimp only [L2.KOf]
      refine' My.txt_mk KX G ?a_is_word ?l_is_word ?k_is_word ?e_is_word ?a_is_tuple_of ?l_is_tuple_of ?k_is_tuple_of ?e_is_tuple_of ?a_has_make_form ?l_has_make_form ?k_has_make_form ?e_has_make_form ?a_has_kind_form ?l_has_kind_form ?k_has_kind_form ?e_has_kind_form ?a_are_unlike ?l_are_unlike ?k_are_unlike ?e_are_unlike ?a_is_book ?l_is_book ?k_is_book ?e_is_book ?a_law_pool ?l_law_pool ?k_law_pool ?e_law_pool ?a_law_next ?l_law_next ?k_law_next ?e_law_next ?a_law_spelt ?l_law_spelt ?k_law_spelt ?e_law_spelt ?a_law_any_name ?l_law_any_name ?k_law_any_name ?e_law_any_name ?a_law_names ?l_law_names ?k_law_names ?e_law_names ?a_law_book ?l_law_book ?k_law_book ?e_law_book ?a_law_word ?l_law_word ?k_law_word ?e_law_word ?a_law_row ?l_law_row ?k_law_row ?e_law_row ?a_law_due ?l_law_due ?k_law_due ?e_law_due ?a_law_open ?l_law_open ?k_law_open ?e_law_open ?a_law_shut ?l_law_shut ?k_law_shut ?e_law_shut ?a_law_odd ?l_law_odd ?k_law_odd ?e_law_odd ?a_law_fresh ?l_law_fresh ?k_law_fresh ?e_law_fresh ?a_law_named ?l_law_named ?k_law_named ?e_law_named ?a_law_filled ?l_law_filled ?k_law_filled ?e_law_filled ?a_law_broken ?l_law_broken ?k_law_broken ?e_law_broken ?a_law_turn ?l_law_turn ?k_law_turn ?e_law_turn ?a_law ?l_law ?k_law ?e_law ?z_isinstance ?z_str ?z_all ?z_len ?z_tuple ?z_set ?z_max ?z_range ?z_min ?z_int ?z_list ?z_bool ?c_LETTERS ?c_LONGEST_WORD ?c_NUM ?c_MOST_KINDS ?c_MOST_MAKES ?c_MOST_FIELDS

      (case a_is_word => k_is)
      (case l_is_word => k_is)
      (case k_is_word => k_is)
      (case e_is_word => k_is)
      (case a_is_tuple_of => k_is)
      (case l_is_tuple_of => k_is)
      (case k_is_tuple_of => k_is)
      (case e_is_tuple_of => k_is)
      (case a_has_make_form => k_is)
      (case l_has_make_form => k_is)
      (case k_has_make_form => k_is)
      (case e_has_make_form => k_is)
      (case a_has_kind_form => k_is)
      (case l_has_kind_form => k_is)
      (case k_has_kind_form => k_is)
      (case e_has_kind_form => k_is)
      (case a_are_unlike => k_is)
      (case l_are_unlike => k_is)
      (case k_are_unlike => k_is)
      (case e_are_unlike => k_is)
      (case a_is_book => k_is)
      (case l_is_book => k_is)
      (case k_is_book => k_is)
      (case e_is_book => k_is)
      (case a_law_pool => k_is)
      (case l_law_pool => k_is)
      (case k_law_pool => k_is)
      (case e_law_pool => k_is)
      (case a_law_next => k_is)
      (case l_law_next => k_is)
      (case k_law_next => k_is)
      (case e_law_next => k_is)
      (case a_law_spelt => k_is)
      (case l_law_spelt => k_is)
      (case k_law_spelt => k_is)
      (case e_law_spelt => k_is)
      (case a_law_any_name => k_is)
      (case l_law_any_name => k_is)
      (case k_law_any_name => k_is)
      (case e_law_any_name => k_is)
      (case a_law_names => k_is)
      (case l_law_names => k_is)
      (case k_law_names => k_is)
      (case e_law_names => k_is)
      (case a_law_book => k_is)
      (case l_law_book => k_is)
      (case k_law_book => k_is)
      (case e_law_book => k_is)
      (case a_law_word => k_is)
      (case l_law_word => k_is)
      (case k_law_word => k_is)
      (case e_law_word => k_is)
      (case a_law_row => k_is)
      (case l_law_row => k_is)
      (case k_law_row => k_is)
      (case e_law_row => k_is)
      (case a_law_due => k_is)
      (case l_law_due => k_is)
      (case k_law_due => k_is)
      (case e_law_due => k_is)
      (case a_law_open => k_is)
      (case l_law_open => k_is)
      (case k_law_open => k_is)
      (case e_law_open => k_is)
      (case a_law_shut => k_is)
      (case l_law_shut => k_is)
      (case k_law_shut => k_is)
      (case e_law_shut => k_is)
      (case a_law_odd => k_is)
      (case l_law_odd => k_is)
      (case k_law_odd => k_is)
      (case e_law_odd => k_is)
      (case a_law_fresh => k_is)
      (case l_law_fresh => k_is)
      (case k_law_fresh => k_is)
      (case e_law_fresh => k_is)
      (case a_law_named => k_is)
      (case l_law_named => k_is)
      (case k_law_named => k_is)
      (case e_law_named => k_is)
      (case a_law_filled => k_is)
      (case l_law_filled => k_is)
      (case k_law_filled => k_is)
      (case e_law_filled => k_is)
      (case a_law_broken => k_is)
      (case l_law_broken => k_is)
      (case k_law_broken => k_is)
      (case e_law_broken => k_is)
      (case a_law_turn => k_is)
      (case l_law_turn => k_is)
      (case k_law_turn => k_is)
      (case e_law_turn => k_is)
      (case a_law => k_is)
      (case l_law => k_is)
      (case k_law => k_is)
      (case e_law => k_is)
      (case z_isinstance => k_is)
      (case z_str => k_is)
      (case z_all => k_is)
      (case z_len => k_is)
      (case z_tuple => k_is)
      (case z_set => k_is)
      (case z_max => k_is)
      (case z_range => k_is)
      (case z_min => k_is)
      (case z_int => k_is)
      (case z_list => k_is)
      (case z_bool => k_is)
      (case c_LETTERS => k_is)
      (case c_LONGEST_WORD => k_is)
      (case c_NUM => k_is)
      (case c_MOST_KINDS => k_is)
      (case c_MOST_MAKES => k_is)
      (case c_MOST_FIELDS => k_is)
    obtain ⟨t, T⟩ := T
    have e0 := hmg.symm.trans T.m_law
    cases e0
    refine ⟨t.d_law, ?bb, fun base kb nb hB => My.ok_law T kb hB⟩
    exact fun s u => T.bind_law s u
