import PyProof.Rows.All
import Wide.All
import OpenK.AllK
import Wide.FinOn
import PyProof.EqAt
import PyProof.EqKinds
import PyProof.TupleCall
import KE.BitLaws
import KE.KSortTupG
import PyProof.ExcAttrAll.ValueError
import PyProof.ExcBaseAll.ValueError
import PySem.Challenge.RW_shapecourt_k02_refusals_apart
set_option Elab.async false
set_option linter.all false
set_option maxRecDepth 100000
namespace L2
open PySem PySem.Spec PyProof.Rows

/-- a key: an int or a str -/
abbrev Key := Sum Int Str
def keyIs : Key → Value → Bool
  | .inl k, v => Value.isInt k v
  | .inr x, v => Value.isStrOf x v
def keyH (w : World) : Key → Int
  | .inl k => hashInt k
  | .inr x => hashStr w x
theorem keyIs_shape : ∀ {k : Key} {v : Value}, keyIs k v = true → (∃ i t, k = Sum.inl i ∧ v = Value.int i t) ∨ (∃ x t, k = Sum.inr x ∧ v = Value.str x t)
  | .inl i, v, h => by
    obtain ⟨t, e⟩ := Value.isInt_shape (k := i) (v := v) h
    exact .inl ⟨i, t, rfl, e⟩
  | .inr x, v, h => by
    obtain ⟨t, e⟩ := Value.isStrOf_shape (x := x) (v := v) h
    exact .inr ⟨x, t, rfl, e⟩
theorem key_ll (a b : Int) : decide ((Sum.inl a : Key) = Sum.inl b) = (a == b) := by
  by_cases e : a = b
  · subst e; simp
  · have h : ¬ (Sum.inl a : Key) = Sum.inl b := fun q => e (Sum.inl.inj q)
    rw [decide_eq_false h]
    exact (beq_eq_false_iff_ne.mpr e).symm
theorem key_rr (a b : Str) : decide ((Sum.inr a : Key) = Sum.inr b) = decide (a = b) := by
  by_cases e : a = b
  · subst e; simp
  · have h : ¬ (Sum.inr a : Key) = Sum.inr b := fun q => e (Sum.inr.inj q)
    rw [decide_eq_false h, decide_eq_false e]
theorem key_lr (a : Int) (b : Str) : decide ((Sum.inl a : Key) = Sum.inr b) = false := decide_eq_false (fun q => nomatch q)
theorem key_rl (a : Str) (b : Int) : decide ((Sum.inr a : Key) = Sum.inl b) = false := decide_eq_false (fun q => nomatch q)

def mixKind (prog : Program) (w : World) : PySem.KeyKind prog w Key where
  is := keyIs
  hash := keyH w
  inj := fun v a b ha hb => by
    rcases keyIs_shape ha with ⟨i, t, rfl, rfl⟩ | ⟨x, t, rfl, rfl⟩
    · rcases keyIs_shape hb with ⟨j, u, rfl, e⟩ | ⟨y, u, rfl, e⟩
      · injection e with e1 _; rw [e1]
      · exact nomatch e
    · rcases keyIs_shape hb with ⟨j, u, rfl, e⟩ | ⟨y, u, rfl, e⟩
      · exact nomatch e
      · injection e with e1 _; rw [e1]
  byValue := fun k v h => by
    rcases keyIs_shape h with ⟨i, t, rfl, rfl⟩ | ⟨x, t, rfl, rfl⟩ <;> rfl
  pyHash := fun hv h => by
    rcases keyIs_shape hv with ⟨i, t, rfl, rfl⟩ | ⟨x, t, rfl, rfl⟩
    · exact wpAny_pyHash_int h
    · exact wpAny_pyHash_str h
  eqBool := fun hu hv h => by
    rcases keyIs_shape hu with ⟨i, t, rfl, rfl⟩ | ⟨x, t, rfl, rfl⟩
    · rcases keyIs_shape hv with ⟨j, u, rfl, rfl⟩ | ⟨y, u, rfl, rfl⟩
      · rw [key_ll] at h; exact wpAny_eqBool_int h
      · rw [key_lr] at h; exact SeqAt.EqAt.int_str i t y u _ _ _ _ h
    · rcases keyIs_shape hv with ⟨j, u, rfl, rfl⟩ | ⟨y, u, rfl, rfl⟩
      · rw [key_rl] at h; exact SeqAt.EqAt.str_int x t j u _ _ _ _ h
      · rw [key_rr] at h; exact wpAny_eqBool_str h
  «strs» := fun k x t v h => by
    rcases keyIs_shape h with ⟨i, u, rfl, e⟩ | ⟨y, u, rfl, e⟩
    · exact nomatch e
    · injection e with e1 _
      subst e1
      cases v <;> rfl

end L2

namespace L2
open PySem PySem.Spec PyProof.Rows

/-- a value, without the heap -/
inductive V where
  | non | bl (b : Bool) | int (i : Int) | str (x : Str) | byt (b : Array UInt8) | flt (b : UInt64) | ref (a : Addr) | ty (n : String)
  deriving DecidableEq

def RelV : V → Value → Prop
  | .non, u => u = Value.none
  | .bl b, u => u = Value.bool b
  | .int i, u => ∃ t, u = Value.int i t
  | .str x, u => ∃ t, u = Value.str x t
  | .byt b, u => ∃ t, u = Value.bytes b t
  | .flt b, u => ∃ t, u = Value.float b t
  | .ref a, u => u = Value.ref a
  | .ty n, u => u = Value.type n

abbrev Vals : List V → List Value → Prop := Paired RelV
theorem Vals.length {xs : List V} {us : List Value} (r : Vals xs us) : xs.length = us.length := Paired.length r
theorem Vals.get : ∀ {xs : List V} {us : List Value} {i : Nat} {x : V}, Vals xs us → xs[i]? = some x → ∃ u, us[i]? = some u ∧ RelV x u
  | _, _, _, _, .nil, e => by simp at e
  | _, _, 0, _, .cons r _, e => by simp at e; subst e; exact ⟨_, rfl, r⟩
  | _, _, i + 1, x, .cons _ t, e => by
    obtain ⟨u, h1, h2⟩ := Vals.get (i := i) (x := x) t (by simpa using e)
    exact ⟨u, by simpa using h1, h2⟩
theorem Vals.set {x : V} {u : Value} (r : RelV x u) : ∀ {xs : List V} {us : List Value} (i : Nat), Vals xs us → Vals (xs.set i x) (us.set i u)
  | _, _, _, .nil => .nil
  | _, _, 0, .cons _ t => .cons r t
  | _, _, i + 1, .cons q t => .cons q (Vals.set r i t)
theorem Vals.append : ∀ {xs ys : List V} {us ws : List Value}, Vals xs us → Vals ys ws → Vals (xs ++ ys) (us ++ ws)
  | _, _, _, _, .nil, s => s
  | _, _, _, _, .cons r t, s => .cons r (Vals.append t s)
theorem Vals.take : ∀ {xs : List V} {us : List Value} (n : Nat), Vals xs us → Vals (xs.take n) (us.take n)
  | _, _, 0, _ => .nil
  | _, _, _ + 1, .nil => .nil
  | _, _, n + 1, .cons r t => .cons r (Vals.take n t)
theorem Vals.drop : ∀ {xs : List V} {us : List Value} (n : Nat), Vals xs us → Vals (xs.drop n) (us.drop n)
  | _, _, 0, r => r
  | _, _, _ + 1, .nil => .nil
  | _, _, n + 1, .cons _ t => Vals.drop n t
def RelO : Option V → Option Value → Prop
  | some v, some u => RelV v u
  | none, none => True
  | _, _ => False
def KV {κ : Type} : List (κ × V) → List (κ × Value) → Prop := Paired fun (p : κ × V) (q : κ × Value) => p.1 = q.1 ∧ RelV p.2 q.2

/-- a key of a dict (00_mix): an int or a text -/
def kV : Key → V
  | .inl i => .int i
  | .inr x => .str x

/-- what stands at a tracked address -/
inductive HO where
  /-- a list -/
  | lst (xs : List V)
  /-- a tuple (never changes) -/
  | tup (xs : List V)
  /-- a dict whose keys are ints and texts; one whose keys are tuples of ints and texts (the empty one is both) -/
  | dK (kvs : List (Key × V)) | dT (kvs : List (List Key × V))
  /-- a set of ints: its members, its size -/
  | set (S : Int → Bool) (n : Nat)
  /-- an instance of the class at C, its dict at dx, its attributes -/
  | ins (C dx : Addr) (fs : List (Str × V))
  /-- the dict of the instance at x -/
  | own (x : Addr)
  /-- the dict of an exception -/
  | xd (fs : List (Str × V))
  /-- a bound method, f of x -/
  | met (f x : Addr)
  /-- a range object lo, lo + 1, .. below hi -/
  | rng (lo hi : Int)
  /-- a thing that is known to the object (the script; a dict while a loop walks it): read, never written while it is so -/
  | frz (o : Obj) (u : HO)
  /-- a code object's table -/
  | tbl (ps : Array Value)
  /-- any other thing, by what is true of its one object (a def of one's own: SetO a S n := HO.ext fun h => ..) -/
  | ext (φ : Heap → Prop)

abbrev Hp := Addr → Option HO
def upd (H : Hp) (a : Addr) (o : HO) : Hp := fun b => if b = a then some o else H b
theorem upd_same {H : Hp} {a : Addr} {o : HO} : upd H a o a = some o := by unfold upd; rw [if_pos rfl]
theorem upd_ne {H : Hp} {a b : Addr} {o : HO} (h : b ≠ a) : upd H a o b = H b := by unfold upd; rw [if_neg h]
/-- two objects of different content stand apart -/
theorem ne_of {H : Hp} {a b : Addr} {o u : HO} (h : H a = some o) (h' : H b = some u) (d : o ≠ u) : a ≠ b := by
  intro e; subst e; rw [h] at h'; exact d (Option.some.inj h')
theorem ne_of_none {H : Hp} {a b : Addr} {o : HO} (h : H a = some o) (h' : H b = none) : a ≠ b := by
  intro e; subst e; rw [h] at h'; cases h'

/-- a tuple without a namespace -/
def IsTupN (h : Heap) (a : Addr) (items : Array Value) : Prop := ∃ o, h.get? a = some o ∧ o.cls = .type "tuple" ∧ o.dict = none ∧ ∃ n, o.data = .seq items n
theorem IsTupN.is {h : Heap} {a : Addr} {items : Array Value} (x : IsTupN h a items) : IsTup h a items := by
  obtain ⟨o, e, c, _, n, d⟩ := x
  exact ⟨o, e, c, n, d⟩
theorem IsTupN.new (h : Heap) (items : Array Value) : IsTupN (h.push { cls := .type "tuple", data := .seq items }) h.objs.size items := ⟨_, Heap.get?_push_size _ rfl, rfl, rfl, _, rfl⟩
section
variable (P : Program) (w : World)
def ObjOk (H : Hp) (h : Heap) (a : Addr) : HO → Prop
  | .lst xs => xs.length ≤ sizeLine ∧ ∃ (its : List Value) (n : Nat), Vals xs its ∧ h.get? a = some { cls := .type "list", data := .seq its.toArray n }
  | .tup xs => xs.length ≤ sizeLine ∧ ∃ its : List Value, Vals xs its ∧ IsTupN h a its.toArray
  | .dK kvs => kvs.length ≤ sizeLine ∧ (a == sysModules) = false ∧ ∃ vs, KV kvs vs ∧ h.DictOf (mixKind P w) a vs
  | .dT kvs => kvs.length ≤ sizeLine ∧ (a == sysModules) = false ∧ ∃ xs : List (List Key × Addr × Value),
      Paired (fun (p : List Key × V) (q : List Key × Addr × Value) => p.1 = q.1 ∧ H q.2.1 = some (.tup (p.1.map kV)) ∧ RelV p.2 q.2.2) kvs xs ∧
      ∃ o es ep, h.get? a = some o ∧ o.ExactDict ∧ o.data = .dict es ep ∧ es.toList = xs.map (entryOfKey (tupleKind (mixKind P w))) ∧ (xs.map (·.1)).Nodup
  | .set S n => h.SetOf (intKind P w) a S n
  | .ins C dx fs => H dx = some (.own a) ∧ fs.length ≤ 1000 ∧ dx ≠ a ∧ h.get? a = some (PySem.W.instObj C dx) ∧
      ∃ mA, h.Ns1 dx mA ∧ (∀ f, RelO (fs.lookup f) (mA f)) ∧ PySem.Within mA (fs.map (·.1))
  | .own _ => ∃ o, h.get? a = some o
  | .xd fs => ∃ mA, h.Ns1 a mA ∧ ∀ f, RelO (fs.lookup f) (mA f)
  | .rng lo hi => ∃ t u v, h.get? a = some { cls := .type "range", data := .fields #[.int lo t, .int hi u, .int 1 v] }
  | .frz o u => h.get? a = some o ∧ ObjOk H h a u
  | .tbl ps => h.get? a = some { cls := .none, data := .fields ps }
  | .met f x => h.get? a = some (PySem.W.methodObj (.ref f) (.ref x))
  | .ext φ => φ h ∧ (∃ o, h.get? a = some o) ∧ ∀ h1 h2 : Heap, φ h1 → (∀ o, h1.get? a = some o → h2.get? a = some o) → φ h2
/-- the abstract heap is held -/
def HOk (H : Hp) (h : Heap) : Prop := ∀ a o, H a = some o → ObjOk P w H h a o
end

section
variable {P : Program} {w : World} {H H' : Hp} {h h' : Heap} {a : Addr} {o : HO}
theorem ObjOk.lt (x : ObjOk P w H h a o) : a < h.objs.size := by
  cases o with
  | lst xs => obtain ⟨_, _, _, _, e⟩ := x; exact Heap.lt_size e
  | tup xs => obtain ⟨_, _, _, p⟩ := x; exact p.is.lt
  | dK kvs => obtain ⟨_, _, _, _, o, _, _, e, _⟩ := x; exact Heap.lt_size e
  | dT kvs => obtain ⟨_, _, _, _, o, _, _, e, _⟩ := x; exact Heap.lt_size e
  | set S n => obtain ⟨o, _, _, _, e, _⟩ := x; exact Heap.lt_size e
  | ins C dx fs => obtain ⟨_, _, _, e, _⟩ := x; exact Heap.lt_size e
  | own y => obtain ⟨_, e⟩ := x; exact Heap.lt_size e
  | xd fs => obtain ⟨_, ⟨_, _, _, e, _⟩, _⟩ := x; exact Heap.lt_size e
  | rng lo hi => obtain ⟨_, _, _, e⟩ := x; exact Heap.lt_size e
  | frz ob u => obtain ⟨e, _⟩ := x; exact Heap.lt_size e
  | tbl ps => exact Heap.lt_size (show h.get? a = some _ from x)
  | met f y => exact Heap.lt_size (show h.get? a = some _ from x)
  | ext φ => obtain ⟨_, ⟨_, e⟩, _⟩ := x; exact Heap.lt_size e
theorem Paired.mapP {α β : Type} {F G : α → β → Prop} : ∀ {l₁ : List α} {l₂ : List β}, Paired F l₁ l₂ → (∀ a b, F a b → G a b) → Paired G l₁ l₂
  | _, _, .nil, _ => .nil
  | _, _, .cons r t, f => .cons (f _ _ r) (Paired.mapP t f)
/-- what an object's description leans on: its own object, its own dict, the tuples -/
theorem ObjOk.stay (x : ObjOk P w H h a o) (k : ∀ b u, (b = a ∨ H b = some (.own a)) → h.get? b = some u → h'.get? b = some u)
    (ho : ∀ b, H b = some (.own a) → H' b = some (.own a)) (ht : ∀ b xs, H b = some (.tup xs) → H' b = some (.tup xs)) : ObjOk P w H' h' a o := by
  induction o with
  | lst xs => obtain ⟨z, its, n, r, e⟩ := x; exact ⟨z, its, n, r, k _ _ (.inl rfl) e⟩
  | tup xs => obtain ⟨z, its, r, ob, e, c⟩ := x; exact ⟨z, its, r, ob, k _ _ (.inl rfl) e, c⟩
  | dK kvs => obtain ⟨z, y, vs, r, ob, es, ep, e, c⟩ := x; exact ⟨z, y, vs, r, ob, es, ep, k _ _ (.inl rfl) e, c⟩
  | dT kvs =>
    obtain ⟨z, y, xs, r, ob, es, ep, e, c⟩ := x
    exact ⟨z, y, xs, Paired.mapP r fun p q z => ⟨z.1, ht _ _ z.2.1, z.2.2⟩, ob, es, ep, k _ _ (.inl rfl) e, c⟩
  | set S n => obtain ⟨ob, es, ep, t, e, c⟩ := x; exact ⟨ob, es, ep, t, k _ _ (.inl rfl) e, c⟩
  | ins C dx fs =>
    obtain ⟨d, z, ne, e, mA, ⟨od, es, ep, e2, c⟩, r⟩ := x
    exact ⟨ho _ d, z, ne, k _ _ (.inl rfl) e, mA, ⟨od, es, ep, k _ _ (.inr d) e2, c⟩, r⟩
  | own y => obtain ⟨ob, e⟩ := x; exact ⟨ob, k _ _ (.inl rfl) e⟩
  | xd fs => obtain ⟨mA, ⟨od, es, ep, e, c⟩, r⟩ := x; exact ⟨mA, ⟨od, es, ep, k _ _ (.inl rfl) e, c⟩, r⟩
  | rng lo hi => obtain ⟨t, u, v, e⟩ := x; exact ⟨t, u, v, k _ _ (.inl rfl) e⟩
  | frz ob u ih => obtain ⟨e, q⟩ := x; exact ⟨k _ _ (.inl rfl) e, ih q⟩
  | tbl ps =>
    have e : h.get? a = some { cls := .none, data := .fields ps } := x
    show h'.get? a = some { cls := .none, data := .fields ps }
    exact k a _ (.inl rfl) e
  | met f y =>
    have e : h.get? a = some (PySem.W.methodObj (.ref f) (.ref y)) := x
    show h'.get? a = some (PySem.W.methodObj (.ref f) (.ref y))
    exact k a _ (.inl rfl) e
  | ext φ => obtain ⟨p, ⟨o, e⟩, st⟩ := x; exact ⟨st _ _ p fun o q => k _ _ (.inl rfl) q, ⟨o, k _ _ (.inl rfl) e⟩, st⟩
theorem HOk.lt (x : HOk P w H h) (e : H a = some o) : a < h.objs.size := (x a o e).lt
theorem HOk.fresh (x : HOk P w H h) (e : h.objs.size ≤ a) : H a = none := by
  cases q : H a with
  | none => rfl
  | some u => exact absurd (Nat.lt_of_lt_of_le (x.lt q) e) (Nat.lt_irrefl _)
/-- every object of the heap is kept -/
theorem HOk.kept (x : HOk P w H h) (k : ∀ b u, h.get? b = some u → h'.get? b = some u) : HOk P w H h' := fun a o e =>
  (x a o e).stay (fun b u _ q => k b u q) (fun _ q => q) fun _ _ q => q
/-- a new object is laid and tracked -/
theorem HOk.laid (x : HOk P w H h) (k : ∀ b u, h.get? b = some u → h'.get? b = some u) (hp : h.objs.size ≤ a) (new : ObjOk P w (upd H a o) h' a o) : HOk P w (upd H a o) h' := fun b u e => by
  have hn := x.fresh hp
  by_cases hb : b = a
  · subst hb; rw [upd_same] at e; cases e; exact new
  · rw [upd_ne hb] at e
    exact (x b u e).stay (fun c v _ q => k c v q) (fun c q => by rw [upd_ne (ne_of_none q hn)]; exact q) fun c xs q => by rw [upd_ne (ne_of_none q hn)]; exact q
end

/-- what may be read as u: it is u, or a known u -/
def Rd (H : Hp) (a : Addr) (u : HO) : Prop := H a = some u ∨ ∃ o, H a = some (.frz o u)
theorem Rd.of {H : Hp} {a : Addr} {u : HO} (h : H a = some u) : Rd H a u := .inl h
theorem Rd.ok {P : Program} {w : World} {H : Hp} {h : Heap} {a : Addr} {u : HO} (r : Rd H a u) (x : HOk P w H h) : ObjOk P w H h a u := by
  rcases r with r | ⟨o, r⟩
  · exact x a u r
  · obtain ⟨_, q⟩ := x a _ r
    exact q
/-- what may be written -/
def Mut : Option HO → Prop
  | some (.lst _) => True
  | some (.dK _) => True
  | some (.dT _) => True
  | some (.set _ _) => True
  | some (.ins _ _ _) => True
  | some (.ext _) => True
  | _ => False
section
variable {P : Program} {w : World} {H : Hp} {h h' : Heap} {x e : Addr} {o' : HO}
/-- the object at e is changed: x itself, or the dict of the instance x -/
theorem HOk.write (ok : HOk P w H h) (mu : Mut (H x)) (he : e = x ∨ H e = some (.own x)) (k : ∀ b u, b ≠ e → h.get? b = some u → h'.get? b = some u) (heo : ∃ u, h'.get? e = some u)
    (new : ObjOk P w (upd H x o') h' x o') : HOk P w (upd H x o') h' := fun b u q => by
  have nown : ∀ c y, H c = some (.own y) → c ≠ x := fun c y r z => by subst z; rw [r] at mu; exact mu
  have ntup : ∀ c xs, H c = some (.tup xs) → c ≠ x := fun c xs r z => by subst z; rw [r] at mu; exact mu
  by_cases hb : b = x
  · subst hb; rw [upd_same] at q; cases q; exact new
  · rw [upd_ne hb] at q
    by_cases hbe : b = e
    · have q' : H b = some (.own x) := by
        rcases he with z | z
        · exact absurd (hbe.trans z) hb
        · rw [hbe]; exact z
      rw [q] at q'; cases q'
      obtain ⟨v, hv⟩ := heo
      exact ⟨v, by rw [hbe]; exact hv⟩
    · refine (ok b u q).stay (fun c v hc r => k c v ?_ r) (fun c r => by rw [upd_ne (nown c b r)]; exact r) fun c xs r => by rw [upd_ne (ntup c xs r)]; exact r
      rcases hc with rfl | hc
      · exact hbe
      · rintro rfl
        rcases he with z | z
        · exact nown c b hc z
        · rw [hc] at z; cases z; exact hb rfl
end

structure Un (fs ex : List Addr) (H H' : Hp) (h h' : Heap) : Prop where
  keep : ∀ b o, h.get? b = some o → H b = none → b ∉ fs → b ∉ ex → h'.get? b = some o
  slot : ∀ b o, h.get? b = some o → H b = none → b ∈ fs → b ∉ ex → ∃ sl, h'.get? b = some { o with slots := sl }
  free : ∀ b o, h.get? b = some o → H b = none → b ∉ ex → H' b = none
  there : ∀ b o, h.get? b = some o → b ∉ ex → ∃ o', h'.get? b = some o'
  tups : ∀ b xs, H b = some (.tup xs) → H' b = some (.tup xs)
  frzs : ∀ b o u, H b = some (.frz o u) → H' b = some (.frz o u)
  tbls : ∀ b ps, H b = some (.tbl ps) → ∃ more, H' b = some (.tbl (ps ++ more))
section
variable {fs fs' ex ex' : List Addr} {H H1 H2 : Hp} {h h1 h2 h' : Heap} {a x e : Addr} {o : HO}
theorem Un.any (u : Un fs ex H H1 h h1) {b : Addr} {ob : Obj} (q : h.get? b = some ob) (n : H b = none) (hx : b ∉ ex) : ∃ sl, h1.get? b = some { ob with slots := sl } := by
  by_cases hb : b ∈ fs
  · exact u.slot b ob q n hb hx
  · exact ⟨ob.slots, u.keep b ob q n hb hx⟩
theorem Un.trans (a : Un fs ex H H1 h h1) (b : Un fs ex H1 H2 h1 h2) : Un fs ex H H2 h h2 where
  keep := fun c ob q n hc hx => b.keep c ob (a.keep c ob q n hc hx) (a.free c ob q n hx) hc hx
  slot := fun c ob q n hc hx => by
    obtain ⟨sl, e1⟩ := a.slot c ob q n hc hx
    obtain ⟨sl', e2⟩ := b.slot c _ e1 (a.free c ob q n hx) hc hx
    exact ⟨sl', e2⟩
  free := fun c ob q n hx => by
    obtain ⟨o', e1⟩ := a.there c ob q hx
    exact b.free c o' e1 (a.free c ob q n hx) hx
  there := fun c ob q hx => by
    obtain ⟨o', e1⟩ := a.there c ob q hx
    exact b.there c o' e1 hx
  tups := fun c xs q => b.tups c xs (a.tups c xs q)
  frzs := fun c ob xs q => b.frzs c ob xs (a.frzs c ob xs q)
  tbls := fun c ps q => by
    obtain ⟨m1, e1⟩ := a.tbls c ps q
    obtain ⟨m2, e2⟩ := b.tbls c _ e1
    exact ⟨m1 ++ m2, by rw [e2, Array.append_assoc]⟩
theorem Un.kept (k : ∀ b u, h.get? b = some u → h'.get? b = some u) : Un fs ex H H h h' :=
  ⟨fun b ob q _ _ _ => k b ob q, fun b ob q _ _ _ => ⟨ob.slots, k b ob q⟩, fun _ _ _ n _ => n, fun b ob q _ => ⟨ob, k b ob q⟩, fun _ _ q => q, fun _ _ _ q => q, fun _ ps q => ⟨#[], by rw [q]; simp⟩⟩
theorem Un.refl : Un fs ex H H h h := Un.kept fun _ _ q => q
theorem Un.laid (k : ∀ b u, h.get? b = some u → h'.get? b = some u) (hp : h.objs.size ≤ a) (hn : H a = none) : Un fs ex H (upd H a o) h h' where
  keep := fun b u q _ _ _ => k b u q
  slot := fun b u q _ _ _ => ⟨u.slots, k b u q⟩
  free := fun b u q n _ => by rw [upd_ne (Nat.ne_of_lt (Nat.lt_of_lt_of_le (Heap.lt_size q) hp))]; exact n
  there := fun b u q _ => ⟨u, k b u q⟩
  tups := fun b xs q => by rw [upd_ne (ne_of_none q hn)]; exact q
  frzs := fun b u xs q => by rw [upd_ne (ne_of_none q hn)]; exact q
  tbls := fun b ps q => ⟨#[], by rw [upd_ne (ne_of_none q hn), q]; simp⟩
theorem Un.write (mu : Mut (H x)) (he : e = x ∨ H e = some (.own x)) (k : ∀ b u, b ≠ e → h.get? b = some u → h'.get? b = some u) (heo : ∃ u, h'.get? e = some u) : Un fs ex H (upd H x o) h h' := by
  have hx : ∀ b, H b = none → b ≠ x := fun b n z => by subst z; rw [n] at mu; exact mu
  have hb : ∀ b, H b = none → b ≠ e := fun b n z => by
    subst z
    rcases he with r | r
    · exact hx b n r
    · rw [n] at r; cases r
  have hm : ∀ b u, H b = some u → ¬ Mut (some u) → b ≠ x := fun b u q nm z => by subst z; rw [q] at mu; exact nm mu
  refine ⟨fun b u q n _ _ => k b u (hb b n) q, fun b u q n _ _ => ⟨u.slots, k b u (hb b n) q⟩, fun b u q n _ => by rw [upd_ne (hx b n)]; exact n, fun b u q _ => ?_,
    fun b xs q => by rw [upd_ne (hm b _ q fun z => z)]; exact q, fun b u xs q => by rw [upd_ne (hm b _ q fun z => z)]; exact q, fun b ps q => ⟨#[], by rw [upd_ne (hm b _ q fun z => z), q]; simp⟩⟩
  by_cases hbe : b = e
  · subst hbe; exact heo
  · exact ⟨u, k b u hbe q⟩
theorem Un.mono (u : Un fs ex H H1 h h1) (hs : ∀ b ∈ fs, b ∈ fs') (hx : ∀ b ∈ ex, b ∈ ex') : Un fs' ex' H H1 h h1 :=
  ⟨fun b ob q n hb he => u.keep b ob q n (fun z => hb (hs b z)) fun z => he (hx b z), fun _ _ q n _ he => u.any q n fun z => he (hx _ z), fun b ob q n he => u.free b ob q n fun z => he (hx b z), fun b ob q he => u.there b ob q fun z => he (hx b z), u.tups, u.frzs, u.tbls⟩
end

def trk (h : Heap) (H : Hp) : List Addr := (List.range h.objs.size).filter fun a => (H a).isSome
def hidT (h : Heap) (H : Hp) : Heap := PySem.W.hideAll h (trk h H)
theorem hidT_size (h : Heap) (H : Hp) : (hidT h H).objs.size = h.objs.size := PySem.W.hideAll_size _ _
theorem hidT_get {h : Heap} {H : Hp} {b : Addr} {o : Obj} (e : h.get? b = some o) (n : H b = none) : (hidT h H).get? b = some o :=
  PySem.W.hideAll_get _ e fun hm => by
    have q : (H b).isSome = true := (List.mem_filter.mp hm).2
    rw [n] at q; simp at q
theorem of_hidT {h : Heap} {H : Hp} {b : Addr} {o : Obj} (e : (hidT h H).get? b = some o) : h.get? b = some o ∧ H b = none := by
  have e' : h.get? b = some o := PySem.W.of_hideAll (trk h H) e
  refine ⟨e', ?_⟩
  cases q : H b with
  | none => rfl
  | some x =>
    have hm : b ∈ trk h H := List.mem_filter.mpr ⟨List.mem_range.mpr (Heap.lt_size e'), by simp [q]⟩
    have z : (hidT h H).get? b = none := PySem.W.hideAll_none (trk h H) hm
    rw [z] at e; cases e

def allNews (g h : Heap) (L : Addr) : List (Addr × Obj) := (List.range h.objs.size).filterMap fun a => if a = L ∨ (g.get? a).isSome = true then none else (h.get? a).map fun o => (a, o)
def rest (g h : Heap) (L d : Addr) : List (Addr × Obj) := (allNews g h L).filter fun p => decide (p.1 ≠ d)
end L2

namespace L2
open PySem PySem.Spec PyProof.Rows

/-- the module's facts, over the base: the heap at the law's entry without what is tracked there -/
structure Mod (K : PySem.W.Frag) (mg : Str → Option Value) (base : Heap) : Prop where
  kin : K.In base
  glob : base.Ns mainGlobals mg
  blt : ∃ mb, base.Ns builtinsNs mb ∧ ∀ x : Str, x ≠ "__name__" → mb x = bootBuiltins x
  nolimit : base.NoLimit

/-- the context: a def's body (or a comprehension's block) running. base: fixed through the whole law; s₀, H₀: the entry; outer: the frames whose slots others may change (a def's callers); stack: all frames that run;
   ex: iterators that were made ahead of the entry and are walked here (a comprehension's); fn: the names whose cells were made at the entry (a def: all; a comprehension's block: its own); calm: not within an except suite; pn: pins that every state bears; xe: what is wanted of an exception that leaves the code -/
structure Cx where
  prog : Program
  w : World
  K : PySem.W.Frag
  mg : Str → Option Value
  base : Heap
  A : Around
  N : List Str
  s_0 : Shared
  H_0 : Hp
  env : Env
  outer : List Env
  stack : List Env
  ex : List Addr
  fn : Str → Bool
  calm : Bool
  pn : List (Addr × Obj)
  xe : Value → Shared → Prop
/-- the callers' frames -/
def frs (l : List Env) : List Addr := l.filterMap (·.frame)
abbrev Cx.fs (X : Cx) : List Addr := frs X.outer

def Vis (sc : Scope) (x : Str) : Prop := sc.names.lookup x = some .local ∨ sc.names.lookup x = some .cell ∨ sc.names.lookup x = some .free
def Loc (sc : Scope) (x : Str) : Prop := sc.names.lookup x = some .local ∨ sc.names.lookup x = some .cell
def Look (env : Env) (h : Heap) (m : Str → Option Value) (x : Str) (u : Value) : Prop :=
  (env.kindOf x = some .local ∧ m x = some u) ∨ ((env.kindOf x = some .cell ∨ env.kindOf x = some .free) ∧ ∃ c, env.cells.lookup x = some c ∧ h.IsCell c (some u))

structure Cx.Ok (X : Cx) : Prop where
  mod : Mod X.K X.mg X.base
  kind : X.env.scope.kind = .function
  glob : X.env.globals = mainGlobals
  blt : X.env.builtins = builtinsNs
  above : X.s_0.heap.objs.size ≤ X.env.locals
  inj : ∀ x y c, X.env.cells.lookup x = some c → X.env.cells.lookup y = some c → x = y
  has : ∀ x, (X.env.kindOf x = some .cell ∨ X.env.kindOf x = some .free) → ∃ c, X.env.cells.lookup x = some c
  cab : ∀ x c, X.fn x = true → X.env.cells.lookup x = some c → X.s_0.heap.objs.size ≤ c
  hd : X.calm = true → X.A.handled = none
  frames : X.A.frames = some X.stack
  stk : X.stack = X.outer ∨ (X.stack = X.env :: X.outer ∧ X.env.frame = some X.env.locals)
  exf : ∀ b ∈ X.ex, b ≠ X.env.locals ∧ ∀ x c, X.env.cells.lookup x = some c → c ≠ b
  bs : ∀ b o, X.base.get? b = some o → X.s_0.heap.get? b = some o ∧ X.H_0 b = none
  bsz : X.base.objs.size ≤ X.s_0.heap.objs.size
  noex : ∀ b o, X.base.get? b = some o → b ∉ X.ex
  exfs : ∀ b ∈ X.ex, b ∉ X.fs
  funs : X.s_0.heap.FunFrames X.base X.outer
  frf : ∀ b ∈ X.fs, X.H_0 b = none

structure Inv (X : Cx) (pins : List (Addr × Obj)) (σ : List (Option V)) (H : Hp) (s : Shared) : Prop where
  ok : X.Ok
  os : s.os = X.s_0.os
  bare : AllBare s.gens
  base : Un X.fs X.ex X.H_0 H X.s_0.heap s.heap
  loc : ∃ m, s.heap.Ns X.env.locals m ∧ ∀ (i : Nat) (x : Str) (v : V), X.N[i]? = some x → σ[i]? = some (some v) → Vis X.env.scope x → ∃ u, RelV v u ∧ Look X.env s.heap m x u
  cell : ∀ x c, X.env.cells.lookup x = some c → ∃ v, s.heap.IsCell c v
  free : H X.env.locals = none
  freeC : ∀ x c, X.env.cells.lookup x = some c → H c = none
  pin : ∀ p ∈ X.pn ++ pins, s.heap.get? p.1 = some p.2 ∧ H p.1 = none ∧ p.1 ≠ X.env.locals ∧ p.1 ∉ X.fs ∧ ∀ v, p.2.data ≠ .cell v
  hok : HOk X.prog X.w H s.heap
  len : σ.length = X.N.length

section
variable {X : Cx} {pins : List (Addr × Obj)} {σ : List (Option V)} {H H' : Hp} {s : Shared} {h' : Heap}

theorem Cx.Ok.nofr (ok : X.Ok) {b : Addr} {o : Obj} (e : X.base.get? b = some o) : b ∉ X.fs := fun hb => by
  have := (ok.funs.mem hb).1
  rw [e] at this; cases this
theorem Inv.bs (I : Inv X pins σ H s) : ∀ b o, X.base.get? b = some o → s.heap.get? b = some o ∧ H b = none := fun b o e =>
  ⟨I.base.keep b o (I.ok.bs b o e).1 (I.ok.bs b o e).2 (I.ok.nofr e) (I.ok.noex b o e), I.base.free b o (I.ok.bs b o e).1 (I.ok.bs b o e).2 (I.ok.noex b o e)⟩
theorem Inv.bk (I : Inv X pins σ H s) : ∀ b o, X.base.get? b = some o → s.heap.get? b = some o := fun b o e => (I.bs b o e).1
theorem Inv.mod (I : Inv X pins σ H s) : Mod X.K X.mg X.base := I.ok.mod
theorem Inv.kIn (I : Inv X pins σ H s) : X.K.In s.heap := I.ok.mod.kin.keeps I.bk
theorem Inv.nolimit (I : Inv X pins σ H s) : s.heap.NoLimit := I.ok.mod.nolimit.keeps I.bk
theorem Inv.lt (I : Inv X pins σ H s) : X.env.locals < s.heap.objs.size := let ⟨_, hn, _⟩ := I.loc; hn.lt
theorem Inv.sz (I : Inv X pins σ H s) : X.s_0.heap.objs.size ≤ s.heap.objs.size := Nat.le_trans I.ok.above (Nat.le_of_lt I.lt)
theorem Inv.nofs (I : Inv X pins σ H s) {a : Addr} (h : s.heap.objs.size ≤ a) : a ∉ X.fs := fun hb => by
  obtain ⟨_, o, ho, _⟩ := I.ok.funs.mem hb
  exact absurd (Nat.lt_of_lt_of_le (Heap.lt_size ho) (Nat.le_trans I.sz h)) (Nat.lt_irrefl _)
theorem Inv.cne (I : Inv X pins σ H s) : ∀ x c, X.env.cells.lookup x = some c → c ≠ X.env.locals := fun x c e z => by
  obtain ⟨v, o, ho, hd⟩ := I.cell x c e
  obtain ⟨m, ⟨o', es, ep, ho', hd', _⟩, _⟩ := I.loc
  rw [z, ho'] at ho; cases ho; rw [hd'] at hd; cases hd
theorem Inv.funs (I : Inv X pins σ H s) : s.heap.FunFrames X.base X.outer := by
  have all : ∀ (l : List Env), (∀ b ∈ frs l, b ∈ X.fs) → X.s_0.heap.FunFrames X.base l → s.heap.FunFrames X.base l := by
    intro l
    induction l with
    | nil => intro _ _; trivial
    | cons env r ih =>
      intro hs hl
      obtain ⟨hk, ⟨L, o, hf, hn, ho, hd⟩, hr⟩ := hl
      have hL : L ∈ X.fs := hs L (by unfold frs; rw [List.filterMap_cons, hf]; exact List.mem_cons_self)
      obtain ⟨sl, e⟩ := I.base.slot L o ho (I.ok.frf L hL) hL fun z => I.ok.exfs L z hL
      exact ⟨hk, ⟨L, _, hf, hn, e, hd⟩, ih (fun b hb => hs b (by unfold frs; rw [List.filterMap_cons, hf]; exact List.mem_cons_of_mem _ hb)) hr⟩
  exact all X.outer (fun _ hb => hb) I.ok.funs

/-- the frames that run, for a call -/
theorem Inv.stack (I : Inv X pins σ H s) : s.heap.FunFrames X.base X.stack := by
  rcases I.ok.stk with e | ⟨e, hf⟩
  · rw [e]; exact I.funs
  · rw [e]
    obtain ⟨m, hn, _⟩ := I.loc
    refine .cons (by rw [I.ok.kind]; decide) hf hn ?_ I.funs
    exact Heap.get?_none_of_le (Nat.le_trans I.ok.bsz I.ok.above)
theorem Inv.stkSub (I : Inv X pins σ H s) : ∀ b ∈ frs X.stack, b ∈ X.env.locals :: X.fs := fun b hb => by
  rcases I.ok.stk with e | ⟨e, hf⟩
  · rw [e] at hb; exact List.mem_cons_of_mem _ hb
  · rw [e] at hb
    unfold frs at hb
    rw [List.filterMap_cons, hf] at hb
    exact hb
theorem Inv.stkFree (I : Inv X pins σ H s) : ∀ b ∈ frs X.stack, H b = none := fun b hb => by
  rcases List.mem_cons.mp (I.stkSub b hb) with e | hb
  · rw [e]; exact I.free
  · obtain ⟨_, o, ho, _⟩ := I.ok.funs.mem hb
    exact I.base.free b o ho (I.ok.frf b hb) fun z => I.ok.exfs b z hb

/-- THE STEP: the untracked objects but the frame and the records at ch are kept (the callers' frames up to slots), the frame's map is kept, the new abstract heap is held -/
theorem Inv.step {g' : Array GenState} {t' : Nat} {d' : Drawn} {ch : List Addr} (I : Inv X pins σ H s)
    (hch : ∀ b ∈ ch, (b ∈ X.ex ∨ X.s_0.heap.objs.size ≤ b) ∧ b ≠ X.env.locals ∧ (∀ x c, X.env.cells.lookup x = some c → c ≠ b) ∧ ∀ p ∈ X.pn ++ pins, p.1 ≠ b)
    (keep : ∀ b o, b ≠ X.env.locals → b ∉ X.fs → b ∉ ch → s.heap.get? b = some o → H b = none → h'.get? b = some o)
    (slot : ∀ b o, b ≠ X.env.locals → b ∈ X.fs → b ∉ ch → s.heap.get? b = some o → H b = none → ∃ sl, h'.get? b = some { o with slots := sl }) (free : ∀ b o, b ∉ ch → s.heap.get? b = some o → H b = none → H' b = none)
    (there : ∀ b o, b ∉ ch → s.heap.get? b = some o → ∃ o', h'.get? b = some o')
    (tups : ∀ b xs, H b = some (.tup xs) → H' b = some (.tup xs)) (frzs : ∀ b o u, H b = some (.frz o u) → H' b = some (.frz o u)) (tbls : ∀ b ps, H b = some (.tbl ps) → ∃ more, H' b = some (.tbl (ps ++ more)))
    (ns : ∀ m, s.heap.Ns X.env.locals m → h'.Ns X.env.locals m) (hok : HOk X.prog X.w H' h') (hg : AllBare g') :
    Inv X pins σ H' { s with heap := h', gens := g', drawn := d', toks := t' } := by
  have neL : ∀ b o, X.s_0.heap.get? b = some o → b ≠ X.env.locals := fun b o e => Nat.ne_of_lt (Nat.lt_of_lt_of_le (Heap.lt_size e) I.ok.above)
  have neC : ∀ b o, X.s_0.heap.get? b = some o → b ∉ X.ex → b ∉ ch := fun b o e hx hb => by
    rcases (hch b hb).1 with z | z
    · exact hx z
    · exact absurd (Nat.lt_of_lt_of_le (Heap.lt_size e) z) (Nat.lt_irrefl _)
  have cellK : ∀ x c, X.env.cells.lookup x = some c → ∀ v, s.heap.IsCell c v → h'.IsCell c v := fun x c e v ⟨o, ho, hd⟩ => by
    have nch : c ∉ ch := fun z => (hch c z).2.2.1 x c e rfl
    by_cases hc : c ∈ X.fs
    · obtain ⟨sl, q⟩ := slot c o (I.cne x c e) hc nch ho (I.freeC x c e)
      exact ⟨_, q, hd⟩
    · exact ⟨o, keep c o (I.cne x c e) hc nch ho (I.freeC x c e), hd⟩
  refine ⟨I.ok, I.os, hg, ⟨fun b o e n hb hx => ?_, fun b o e n hb hx => ?_, fun b o e n hx => ?_, fun b o e hx => ?_, fun b xs e => tups b xs (I.base.tups b xs e), fun b o xs e => frzs b o xs (I.base.frzs b o xs e), fun b ps e => ?_⟩, ?_, fun x c e => ?_, ?_, fun x c e => ?_, fun p hp => ?_, hok, I.len⟩
  · exact keep b o (neL b o e) hb (neC b o e hx) (I.base.keep b o e n hb hx) (I.base.free b o e n hx)
  · obtain ⟨sl, e1⟩ := I.base.slot b o e n hb hx
    obtain ⟨sl', e2⟩ := slot b _ (neL b o e) hb (neC b o e hx) e1 (I.base.free b o e n hx)
    exact ⟨sl', e2⟩
  · obtain ⟨o', e1⟩ := I.base.there b o e hx
    exact free b o' (neC b o e hx) e1 (I.base.free b o e n hx)
  · obtain ⟨o', e1⟩ := I.base.there b o e hx
    exact there b o' (neC b o e hx) e1
  · obtain ⟨m1, e1⟩ := I.base.tbls b ps e
    obtain ⟨m2, e2⟩ := tbls b _ e1
    exact ⟨m1 ++ m2, by rw [e2, Array.append_assoc]⟩
  · obtain ⟨m, hn, hl⟩ := I.loc
    refine ⟨m, ns m hn, fun i x v e1 e2 e3 => ?_⟩
    obtain ⟨u, r, l⟩ := hl i x v e1 e2 e3
    refine ⟨u, r, ?_⟩
    rcases l with l | ⟨k, c, e, z⟩
    · exact .inl l
    · exact .inr ⟨k, c, e, cellK x c e _ z⟩
  · obtain ⟨v, z⟩ := I.cell x c e
    exact ⟨v, cellK x c e v z⟩
  · obtain ⟨m, ⟨o, _, _, ho, _⟩, _⟩ := I.loc
    exact free _ o (fun z => (hch _ z).2.1 rfl) ho I.free
  · obtain ⟨v, o, ho, hd⟩ := I.cell x c e
    exact free c o (fun z => (hch c z).2.2.1 x c e rfl) ho (I.freeC x c e)
  · obtain ⟨e, n, ne, nf, d⟩ := I.pin p hp
    have nch : p.1 ∉ ch := fun z => (hch p.1 z).2.2.2 p hp rfl
    exact ⟨keep p.1 p.2 ne nf nch e n, free p.1 p.2 nch e n, ne, nf, d⟩
/-- .. where the frame's own object is kept too -/
theorem Inv.un {t' : Nat} (I : Inv X pins σ H s) (u : Un X.fs [] H H' s.heap h') (hok : HOk X.prog X.w H' h') : Inv X pins σ H' { s with heap := h', toks := t' } := by
  obtain ⟨m, ⟨o, es, ep, ho, r⟩, _⟩ := id I.loc
  obtain ⟨sl, hL⟩ := u.any ho I.free (by simp)
  exact I.step (g' := s.gens) (d' := s.drawn) (ch := []) (fun _ z => nomatch z) (fun b o _ hb _ e n => u.keep b o e n hb (by simp)) (fun b o _ hb _ e n => u.slot b o e n hb (by simp)) (fun b o _ e n => u.free b o e n (by simp)) (fun b o _ e => u.there b o e (by simp)) u.tups u.frzs u.tbls (fun m' hm => by
    obtain ⟨o', es', ep', ho', r'⟩ := hm
    rw [ho] at ho'; cases ho'
    exact ⟨_, es', ep', hL, r'⟩) hok I.bare
/-- behind a call (or a comprehension's block): the slots of this frame may have changed too, the records at ch may have turned -/
theorem Inv.call {g' : Array GenState} {t' : Nat} {d' : Drawn} {ch : List Addr} (I : Inv X pins σ H s) (u : Un (frs X.stack) ch H H' s.heap h') (hok : HOk X.prog X.w H' h') (hg : AllBare g')
    (hch : ∀ b ∈ ch, (b ∈ X.ex ∨ X.s_0.heap.objs.size ≤ b) ∧ b ≠ X.env.locals ∧ (∀ x c, X.env.cells.lookup x = some c → c ≠ b) ∧ ∀ p ∈ X.pn ++ pins, p.1 ≠ b) :
    Inv X pins σ H' { s with heap := h', gens := g', drawn := d', toks := t' } := by
  obtain ⟨m, ⟨o, es, ep, ho, r⟩, _⟩ := id I.loc
  obtain ⟨sl, hL⟩ := u.any ho I.free fun z => (hch _ z).2.1 rfl
  exact I.step (ch := ch) hch (fun b o hL hb hc e n => u.keep b o e n (fun z => (List.mem_cons.mp (I.stkSub b z)).elim hL hb) hc) (fun b o _ _ hc e n => u.any e n hc) (fun b o hc e n => u.free b o e n hc) (fun b o hc e => u.there b o e hc) u.tups u.frzs u.tbls (fun m' hm => by
    obtain ⟨o', es', ep', ho', r'⟩ := hm
    rw [ho] at ho'; cases ho'
    exact ⟨_, es', ep', hL, r'⟩) hok hg
/-- an untracked record of ours (an iterator) has turned -/
theorem Inv.turned {t' : Nat} {it : Addr} (I : Inv X pins σ H s) (k : ∀ b o, b ≠ it → s.heap.get? b = some o → h'.get? b = some o) (hn : H it = none) (hL : it ≠ X.env.locals)
    (h1 : it ∈ X.ex ∨ X.s_0.heap.objs.size ≤ it) (h2 : ∀ x c, X.env.cells.lookup x = some c → c ≠ it) (h3 : ∀ p ∈ X.pn ++ pins, p.1 ≠ it) : Inv X pins σ H { s with heap := h', toks := t' } := by
  have nit : ∀ b u, H b = some u → b ≠ it := fun b u e z => by rw [z, hn] at e; cases e
  refine I.step (g' := s.gens) (d' := s.drawn) (ch := [it]) (fun b hb => ?_) (fun b o _ _ hc e _ => k b o (fun z => hc (by simp [z])) e) (fun b o _ _ hc e _ => ⟨o.slots, k b o (fun z => hc (by simp [z])) e⟩) (fun _ _ _ _ n => n)
    (fun b o hc e => ⟨o, k b o (fun z => hc (by simp [z])) e⟩) (fun _ _ e => e) (fun _ _ _ e => e) (fun b ps e => ⟨#[], by rw [e]; simp⟩) (fun m hm => ?_) (fun b u e => ?_) I.bare
  · have e : b = it := by simpa using hb
    subst e
    exact ⟨h1, hL, h2, h3⟩
  · obtain ⟨o, es, ep, ho, r⟩ := hm
    exact ⟨o, es, ep, k _ o (Ne.symm hL) ho, r⟩
  · refine (I.hok b u e).stay (fun c v hc q => k c v ?_ q) (fun _ q => q) fun _ _ q => q
    rcases hc with z | z
    · rw [z]; exact nit b u e
    · exact nit c _ z
theorem Inv.tok (I : Inv X pins σ H s) (t : Nat) : Inv X pins σ H { s with toks := t } := I.un (h' := s.heap) (t' := t) Un.refl I.hok
/-- all objects kept -/
theorem Inv.kept {t' : Nat} (I : Inv X pins σ H s) (k : ∀ b u, s.heap.get? b = some u → h'.get? b = some u) : Inv X pins σ H { s with heap := h', toks := t' } := I.un (Un.kept k) (I.hok.kept k)
/-- a new object laid and tracked -/
theorem Inv.laid {a : Addr} {o : HO} {t' : Nat} (I : Inv X pins σ H s) (k : ∀ b u, s.heap.get? b = some u → h'.get? b = some u) (hp : s.heap.objs.size ≤ a) (new : ObjOk X.prog X.w (upd H a o) h' a o) :
    Inv X pins σ (upd H a o) { s with heap := h', toks := t' } := I.un (Un.laid k hp (I.hok.fresh hp)) (I.hok.laid k hp new)
/-- an object written -/
theorem Inv.write {x e : Addr} {o : HO} {t' : Nat} (I : Inv X pins σ H s) (mu : Mut (H x)) (he : e = x ∨ H e = some (.own x)) (k : ∀ b u, b ≠ e → s.heap.get? b = some u → h'.get? b = some u) (heo : ∃ u, h'.get? e = some u)
    (new : ObjOk X.prog X.w (upd H x o) h' x o) : Inv X pins σ (upd H x o) { s with heap := h', toks := t' } := I.un (Un.write mu he k heo) (I.hok.write mu he k heo new)
/-- forgetting slots, pins -/
theorem Inv.weak {σ' : List (Option V)} (I : Inv X pins σ H s) (hl : σ'.length = σ.length) (w : ∀ (i : Nat) v, σ'[i]? = some (some v) → σ[i]? = some (some v)) : Inv X pins σ' H s :=
  ⟨I.ok, I.os, I.bare, I.base, let ⟨m, hn, hl'⟩ := I.loc; ⟨m, hn, fun i x v e1 e2 e3 => hl' i x v e1 (w i v e2) e3⟩, I.cell, I.free, I.freeC, I.pin, I.hok, hl.trans I.len⟩
theorem Inv.pins_of {pins' : List (Addr × Obj)} (I : Inv X pins σ H s) (h : ∀ p ∈ pins', s.heap.get? p.1 = some p.2 ∧ H p.1 = none ∧ p.1 ≠ X.env.locals ∧ p.1 ∉ X.fs ∧ ∀ v, p.2.data ≠ .cell v) : Inv X pins' σ H s :=
  ⟨I.ok, I.os, I.bare, I.base, I.loc, I.cell, I.free, I.freeC, fun p hp => (List.mem_append.mp hp).elim (fun z => I.pin p (List.mem_append_left _ z)) (h p), I.hok, I.len⟩

theorem nodup_ix {N : List Str} (hN : N.Nodup) {i j : Nat} {x : Str} (a : N[i]? = some x) (b : N[j]? = some x) : i = j := by
  obtain ⟨h1, e1⟩ := List.getElem?_eq_some_iff.mp a
  obtain ⟨h2, e2⟩ := List.getElem?_eq_some_iff.mp b
  exact (List.getElem_inj hN).mp (e1.trans e2.symm)

/-- a name is stored; what changed -/
theorem store_ok2 {M : Model} {A : Around} {E : Value → Shared → Prop} {i : Nat} {x : Str} {v : V} {u : Value} {Q : Unit → Shared → Prop} (I : Inv X pins σ H s) (hN : X.N.Nodup) (hi : X.N[i]? = some x) (hx : Loc X.env.scope x) (r : RelV v u)
    (h : ∀ s', Inv X pins (σ.set i (some v)) H s' → (∃ a, Heap.SameBut a s.heap s'.heap ∧ (a = X.env.locals ∨ X.env.cells.lookup x = some a)) → Q () s') (hf : X.fn x = true ∨ X.env.scope.names.lookup x = some .local := by first | exact .inl rfl | exact .inr rfl | assumption) : wpAny M A (storeName X.env x u) Q E s := by
  obtain ⟨m, hn, hl⟩ := id I.loc
  have hcls : (X.env.scope.kind == .class || (X.env.scope.kind == .module && X.env.locals != X.env.globals)) = false := by rw [I.ok.kind]; rfl
  have hiσ : i < σ.length := by rw [I.len]; exact (List.getElem?_eq_some_iff.mp hi).1
  have cne := I.cne
  have tracked : ∀ {a : Addr} {h' : Heap}, (∃ o, s.heap.get? a = some o ∧ H a = none) → Heap.SameBut a s.heap h' → HOk X.prog X.w H h' := fun {a h'} ha hs b ob e => by
    obtain ⟨_, _, hfree⟩ := ha
    refine (I.hok b ob e).stay (fun c w' hc q => (hs.2 c ?_).trans q) (fun _ q => q) fun _ _ q => q
    rintro rfl
    rcases hc with rfl | hc
    · rw [hfree] at e; cases e
    · rw [hfree] at hc; cases hc
  rcases hx with hk | hk
  · refine wpAny_storeName_local hk hn (fun h' hn' hs => ?_) hcls
    obtain ⟨oL, _, _, hoL, _⟩ := id hn
    refine h _ ⟨I.ok, I.os, I.bare, ⟨fun b o e n hb hx => ?_, fun b o e n hb hx => ?_, I.base.free, fun b o e hx => ?_, I.base.tups, I.base.frzs, I.base.tbls⟩, ⟨_, hn', fun j y v' e1 e2 e3 => ?_⟩, fun y c e => ?_, I.free, I.freeC, fun p hp => ?_, tracked ⟨oL, hoL, I.free⟩ hs, by simpa using I.len⟩ ⟨_, hs, .inl rfl⟩
    · exact (hs.2 b (Nat.ne_of_lt (Nat.lt_of_lt_of_le (Heap.lt_size e) I.ok.above))).trans (I.base.keep b o e n hb hx)
    · obtain ⟨sl, e1⟩ := I.base.slot b o e n hb hx
      exact ⟨sl, (hs.2 b (Nat.ne_of_lt (Nat.lt_of_lt_of_le (Heap.lt_size e) I.ok.above))).trans e1⟩
    · obtain ⟨o', e1⟩ := I.base.there b o e hx
      exact ⟨o', (hs.2 b (Nat.ne_of_lt (Nat.lt_of_lt_of_le (Heap.lt_size e) I.ok.above))).trans e1⟩
    · by_cases hj : j = i
      · subst hj
        rw [hi] at e1; cases e1
        rw [List.getElem?_set_self hiσ] at e2
        cases e2
        exact ⟨u, r, .inl ⟨hk, by simp⟩⟩
      · rw [List.getElem?_set_ne (Ne.symm hj)] at e2
        obtain ⟨u', r', q⟩ := hl j y v' e1 e2 e3
        refine ⟨u', r', ?_⟩
        rcases q with ⟨k, e⟩ | ⟨k, c, e, z⟩
        · refine .inl ⟨k, ?_⟩
          have : y ≠ x := fun e => hj (nodup_ix hN e1 (e ▸ hi))
          simp [this, e]
        · exact .inr ⟨k, c, e, z.sameBut hs (cne y c e)⟩
    · obtain ⟨w', z⟩ := I.cell y c e
      exact ⟨w', z.sameBut hs (cne y c e)⟩
    · obtain ⟨e, n, ne, nf, d⟩ := I.pin p hp
      exact ⟨(hs.2 p.1 ne).trans e, n, ne, nf, d⟩
  · have hfn : X.fn x = true := by
      rcases hf with z | z
      · exact z
      · rw [z] at hk; cases hk
    obtain ⟨c, hc⟩ := I.ok.has x (.inl hk)
    obtain ⟨w', z⟩ := I.cell x c hc
    refine wpAny_storeName_cell I.ok.kind hk hc z (fun h' hc' hs => ?_)
    obtain ⟨oc, hoc, hocd⟩ := id z
    refine h { s with heap := h' } ⟨I.ok, I.os, I.bare, ⟨fun b o e n hb hx => ?_, fun b o e n hb hx => ?_, I.base.free, fun b o e hx => ?_, I.base.tups, I.base.frzs, I.base.tbls⟩, ⟨m, hn.sameBut hs (Ne.symm (cne x c hc)), fun j y v' e1 e2 e3 => ?_⟩, fun y c' e => ?_, I.free, I.freeC, fun p hp => ?_, tracked ⟨oc, hoc, I.freeC x c hc⟩ hs, by simpa using I.len⟩ ⟨c, hs, .inr hc⟩
    · exact (hs.2 b (Nat.ne_of_lt (Nat.lt_of_lt_of_le (Heap.lt_size e) (I.ok.cab x c hfn hc)))).trans (I.base.keep b o e n hb hx)
    · obtain ⟨sl, e1⟩ := I.base.slot b o e n hb hx
      exact ⟨sl, (hs.2 b (Nat.ne_of_lt (Nat.lt_of_lt_of_le (Heap.lt_size e) (I.ok.cab x c hfn hc)))).trans e1⟩
    · obtain ⟨o', e1⟩ := I.base.there b o e hx
      exact ⟨o', (hs.2 b (Nat.ne_of_lt (Nat.lt_of_lt_of_le (Heap.lt_size e) (I.ok.cab x c hfn hc)))).trans e1⟩
    · by_cases hj : j = i
      · subst hj
        rw [hi] at e1; cases e1
        rw [List.getElem?_set_self hiσ] at e2
        cases e2
        exact ⟨u, r, .inr ⟨.inl hk, c, hc, hc'⟩⟩
      · rw [List.getElem?_set_ne (Ne.symm hj)] at e2
        obtain ⟨u', r', q⟩ := hl j y v' e1 e2 e3
        refine ⟨u', r', ?_⟩
        rcases q with q | ⟨k, c', e, z'⟩
        · exact .inl q
        · refine .inr ⟨k, c', e, z'.sameBut hs ?_⟩
          rintro rfl
          exact hj (nodup_ix hN e1 (I.ok.inj _ _ _ e hc ▸ hi))
    · by_cases hcc : c' = c
      · subst hcc; exact ⟨_, hc'⟩
      · obtain ⟨w2, z2⟩ := I.cell y c' e
        exact ⟨w2, z2.sameBut hs hcc⟩
    · obtain ⟨e, n, ne, nf, d⟩ := I.pin p hp
      refine ⟨(hs.2 p.1 ?_).trans e, n, ne, nf, d⟩
      intro q
      rw [q, hoc] at e
      have q' : oc = p.2 := Option.some.inj e
      exact d w' (by rw [← q']; exact hocd)
theorem store_ok {M : Model} {A : Around} {E : Value → Shared → Prop} {i : Nat} {x : Str} {v : V} {u : Value} {Q : Unit → Shared → Prop} (I : Inv X pins σ H s) (hN : X.N.Nodup) (hi : X.N[i]? = some x) (hx : Loc X.env.scope x) (r : RelV v u)
    (h : ∀ s', Inv X pins (σ.set i (some v)) H s' → Q () s') (hf : X.fn x = true ∨ X.env.scope.names.lookup x = some .local := by first | exact .inl rfl | exact .inr rfl | assumption) : wpAny M A (storeName X.env x u) Q E s :=
  store_ok2 I hN hi hx r (fun s' I' _ => h s' I') hf
/-- behind a call or a block, the state as it is -/
theorem Inv.call' {s' : Shared} {ch : List Addr} (I : Inv X pins σ H s) (ho : s'.os = s.os) (u : Un (frs X.stack) ch H H' s.heap s'.heap) (hok : HOk X.prog X.w H' s'.heap) (hg : AllBare s'.gens)
    (hch : ∀ b ∈ ch, (b ∈ X.ex ∨ X.s_0.heap.objs.size ≤ b) ∧ b ≠ X.env.locals ∧ (∀ x c, X.env.cells.lookup x = some c → c ≠ b) ∧ ∀ p ∈ X.pn ++ pins, p.1 ≠ b) : Inv X pins σ H' s' := by
  obtain ⟨h', g', d', t', o'⟩ := s'
  have e : o' = s.os := ho
  subst e
  exact I.call (g' := g') (t' := t') (d' := d') u hok hg hch
end

/-- an exception: its class, its own dict's address (where it has one), the abstract heap behind it -/
abbrev XK := Value → Option Addr → Hp → Prop
abbrev St := List (Option V)
abbrev VK := V → Hp → Prop
/-- an expression's reading; a test's; an argument list's -/
abbrev TE := St → Hp → VK → Prop
abbrev TT := St → Hp → (Bool → Hp → Prop) → Prop
abbrev TA := St → Hp → (List V → Hp → Prop) → Prop
/-- what is wanted behind a statement -/
structure Ends where
  nx : St → Hp → Prop
  rt : VK
  bk : St → Hp → Prop := fun _ _ => False
  ct : St → Hp → Prop := fun _ _ => False
abbrev TS := Ends → St → Hp → Prop

def EP (X : Cx) (pins : List (Addr × Obj)) (σ : St) (Q : VK) (u : Value) (s' : Shared) : Prop := ∃ v H', Inv X pins σ H' s' ∧ RelV v u ∧ Q v H'
def TP (X : Cx) (pins : List (Addr × Obj)) (σ : St) (Q : Bool → Hp → Prop) (b : Bool) (s' : Shared) : Prop := ∃ H', Inv X pins σ H' s' ∧ Q b H'
def AP (X : Cx) (pins : List (Addr × Obj)) (σ : St) (Q : List V → Hp → Prop) (us : List Value) (s' : Shared) : Prop := ∃ vs H', Inv X pins σ H' s' ∧ Vals vs us ∧ Q vs H'
def SP (X : Cx) (pins : List (Addr × Obj)) (D : Ends) (f : Flow) (s' : Shared) : Prop :=
  match f with
  | .next => ∃ σ' H', Inv X pins σ' H' s' ∧ D.nx σ' H'
  | .brk => ∃ σ' H', Inv X pins σ' H' s' ∧ D.bk σ' H'
  | .cont => ∃ σ' H', Inv X pins σ' H' s' ∧ D.ct σ' H'
  | .ret u => ∃ v σ' H', Inv X pins σ' H' s' ∧ RelV v u ∧ D.rt v H'

def PE (X : Cx) (e : Expr) (t : TE) : Prop :=
  ∀ (pins : List (Addr × Obj)) (s : Shared) (σ : St) (H : Hp) (Q : VK), Inv X pins σ H s → t σ H Q → wpAny (model X.prog X.w) X.A (eval e X.env) (EP X pins σ Q) X.xe s
def PT (X : Cx) (e : Expr) (t : TT) : Prop :=
  ∀ (pins : List (Addr × Obj)) (s : Shared) (σ : St) (H : Hp) (Q : Bool → Hp → Prop), Inv X pins σ H s → t σ H Q → wpAny (model X.prog X.w) X.A (isTrue e X.env (eval e X.env)) (TP X pins σ Q) X.xe s
/-- a test whatever its 'whole' is (and, or) -/
def PW (X : Cx) (e : Expr) (t : TT) : Prop :=
  ∀ (whole : Sem Value) (pins : List (Addr × Obj)) (s : Shared) (σ : St) (H : Hp) (Q : Bool → Hp → Prop), Inv X pins σ H s → t σ H Q → wpAny (model X.prog X.w) X.A (isTrue e X.env whole) (TP X pins σ Q) X.xe s
theorem PW.pt {X : Cx} {e : Expr} {t : TT} (h : PW X e t) : PT X e t := h _
/-- an argument list (no star), from the left -/
def PA (X : Cx) (es : List Expr) (t : TA) : Prop :=
  ∀ (pos : Pos) (pins : List (Addr × Obj)) (s : Shared) (σ : St) (H : Hp) (Q : List V → Hp → Prop), Inv X pins σ H s → t σ H Q → wpAny (model X.prog X.w) X.A (spliced (backTo pos (starEach es X.env))) (AP X pins σ Q) X.xe s
def PS (X : Cx) (st : Stmt) (t : TS) : Prop :=
  ∀ (pins : List (Addr × Obj)) (s : Shared) (σ : St) (H : Hp) (D : Ends), Inv X pins σ H s → t D σ H → wpAny (model X.prog X.w) X.A (exec st X.env) (SP X pins D) X.xe s
def PSs (X : Cx) (st : List Stmt) (t : TS) : Prop :=
  ∀ (pins : List (Addr × Obj)) (s : Shared) (σ : St) (H : Hp) (D : Ends), Inv X pins σ H s → t D σ H → wpAny (model X.prog X.w) X.A (execs st X.env) (SP X pins D) X.xe s
/-- weaken the end -/
theorem thn {α : Type} {t : Sem α} {Q Q' : α → Shared → Prop} {M : Model} {A : Around} {E : Value → Shared → Prop} {s : Shared} (h : wpAny M A t Q E s) (hQ : ∀ a s, Q a s → Q' a s) : wpAny M A t Q' E s := wpAny_mono h hQ fun _ _ x => x
end L2

namespace L2
open PySem PySem.Spec PyProof.Rows
section
variable {X : Cx}

def tVar (i : Nat) : TE := fun σ H Q => ∃ v, σ[i]? = some (some v) ∧ Q v H
def tC (v : V) : TE := fun _ H Q => Q v H
theorem pe_var {i : Nat} {x : Str} {pos : Pos} (hN : X.N[i]? = some x) (hv : Vis X.env.scope x) (hd : (x == ("__debug__" : Str)) = false := by decide) (hcd : (x == ("__classdict__" : Str)) = false := by decide) : PE X (.Name x pos) (tVar i) := by
  intro pins s σ H Q I h
  obtain ⟨v, e, h⟩ := h
  obtain ⟨m, hn, hl⟩ := I.loc
  obtain ⟨u, r, l⟩ := hl i x v hN e hv
  have fin : EP X pins σ Q u s := ⟨v, H, I, r, h⟩
  rcases l with ⟨hk, hm⟩ | ⟨hk, c, hc, hcell⟩
  · exact wpAny_Name (wpAny_loadName_local I.ok.kind hk hn hm fin) hd
  · rcases hk with hk | hk
    · exact wpAny_Name (wpAny_loadName_cell I.ok.kind hk hc hcell fin) hd
    · exact wpAny_Name (wpAny_loadName_free I.ok.kind hk hc hcell fin hcd) hd
theorem pe_int {i j pos} : PE X (.Constant (.int i) j pos) (tC (.int i)) := fun _ _ _ H _ I h => wpAny_Constant_int ⟨.int i, H, I.tok _, ⟨_, rfl⟩, h⟩
theorem pe_bl {b j pos} : PE X (.Constant (.bool b) j pos) (tC (.bl b)) := fun _ _ _ H _ I h => Constant_bool ⟨.bl b, H, I, rfl, h⟩
theorem pe_str {x j pos} : PE X (.Constant (.str x) j pos) (tC (.str x)) := fun _ _ _ H _ I h => Calls.Constant_str ⟨.str x, H, I.tok _, ⟨_, rfl⟩, h⟩

/-- a global name of the def -/
def Gl (X : Cx) (x : Str) : Prop := X.env.kindOf x = some .globalImplicit
theorem ld_glob {E : Value → Shared → Prop} {pins : List (Addr × Obj)} {s : Shared} {σ : St} {H : Hp} {x : Str} {u : Value} {pos : Pos} {Q : Value → Shared → Prop} (I : Inv X pins σ H s) (hg : Gl X x) (hm : X.mg x = some u) (h : Q u s)
    (hd : (x == ("__debug__" : Str)) = false := by decide) : wpAny (model X.prog X.w) X.A (eval (.Name x pos) X.env) Q E s :=
  Calls.Name_function_global I.ok.kind hg (Calls.loadGlobal_global (by rw [I.ok.glob]; exact I.mod.glob.keeps I.bk) hm h) hd
theorem ld_blt {E : Value → Shared → Prop} {pins : List (Addr × Obj)} {s : Shared} {σ : St} {H : Hp} {x : Str} {u : Value} {pos : Pos} {Q : Value → Shared → Prop} (I : Inv X pins σ H s) (hg : Gl X x) (hm : X.mg x = none) (hv : bootBuiltins x = some u) (h : Q u s)
    (hn : x ≠ "__name__" := by decide) (hd : (x == ("__debug__" : Str)) = false := by decide) : wpAny (model X.prog X.w) X.A (eval (.Name x pos) X.env) Q E s := by
  obtain ⟨mb, h1, h2⟩ := I.mod.blt
  exact Calls.Name_function_global I.ok.kind hg (Calls.loadGlobal_builtin (by rw [I.ok.glob]; exact I.mod.glob.keeps I.bk) hm (by rw [I.ok.blt]; exact h1.keeps I.bk) ((h2 x hn).trans hv) h) hd
/-- a module's constant, a class, a function, as a value -/
theorem pe_glob {x : Str} {v : V} {u : Value} {pos : Pos} (hg : Gl X x) (hm : X.mg x = some u) (r : RelV v u) (hd : (x == ("__debug__" : Str)) = false := by decide) : PE X (.Name x pos) (tC v) :=
  fun _ _ _ H _ I h => ld_glob I hg hm ⟨v, H, I, r, h⟩ hd
theorem pe_bltn {x : Str} {v : V} {u : Value} {pos : Pos} (hg : Gl X x) (hm : X.mg x = none) (hv : bootBuiltins x = some u) (r : RelV v u) (hn : x ≠ "__name__" := by decide) (hd : (x == ("__debug__" : Str)) = false := by decide) : PE X (.Name x pos) (tC v) :=
  fun _ _ _ H _ I h => ld_blt I hg hm hv ⟨v, H, I, r, h⟩ hn hd

variable {a b : Expr} {ta tb : TE} {pos : Pos}
/-- a comparison as a value, as a test -/
def tB (t : TE) : TT := fun σ H Q => t σ H fun x H1 => ∃ c, x = .bl c ∧ Q c H1
/-- an expression whose value is a bool, as a test -/
theorem pt_val {e : Expr} {t : TE} (h : PE X e t) (he : ∀ whole, isTrue e X.env whole = (do let v ← whole; standAt e.pos; holding [v] (truthy v)) := by intro _; rfl) : PT X e (tB t) := by
  intro pins s σ H Q I hw
  refine isTrue_plain (thn (h pins s σ H _ I hw) fun v s1 ⟨x, H1, I1, r1, q1⟩ => ?_) (he _)
  obtain ⟨d, rfl, q⟩ := q1
  cases r1
  exact wpAny_truthy_bool ⟨H1, I1, q⟩

variable {tA tB' : TT} {rest : List Expr}
def tOr (t u : TT) : TT := fun σ H Q => t σ H fun c H1 => if c = true then Q true H1 else u σ H1 Q
def tNot (t : TT) : TT := fun σ H Q => t σ H fun c H1 => Q (!c) H1
theorem pw_or1 (ha : PT X a tA) : PW X (.BoolOp .Or [a] pos) tA := by
  intro wh pins s σ H Q I h
  refine isTrue_or (thn (ha pins s σ H Q I h) fun c s1 e => ?_)
  cases c with
  | false => exact isTrue_or_nil e
  | true => exact e
theorem pw_or (ha : PT X a tA) (hb : PW X (.BoolOp .Or (b :: rest) pos) tB') : PW X (.BoolOp .Or (a :: b :: rest) pos) (tOr tA tB') := by
  intro wh pins s σ H Q I h
  refine isTrue_or (thn (ha pins s σ H _ I h) fun c s1 ⟨H1, I1, q1⟩ => ?_)
  cases c with
  | true => exact ⟨H1, I1, q1⟩
  | false => exact hb wh pins s1 σ H1 Q I1 q1
theorem pt_not (ha : PT X a tA) : PT X (.UnaryOp .Not a pos) (tNot tA) := by
  intro pins s σ H Q I h
  exact isTrue_not (ha pins s σ H (fun c H1 => Q (!c) H1) I h)
end
end L2

namespace L2
open PySem PySem.Spec PyProof.Rows

def SqL (K : PySem.W.Frag) (H : Hp) (a : Addr) (xs : List V) : Prop :=
  Rd H a (.lst xs) ∨
    ∃ (o : Obj) (its : Array Value) (n : Nat), K.lookup a = some o ∧ o.cls = .type "list" ∧ o.dict = none ∧ o.data = .seq its n ∧ its.size ≤ sizeLine ∧ Vals xs its.toList
def SqT (K : PySem.W.Frag) (H : Hp) (a : Addr) (xs : List V) : Prop :=
  Rd H a (.tup xs) ∨
    ∃ (o : Obj) (its : Array Value) (n : Nat), K.lookup a = some o ∧ o.cls = .type "tuple" ∧ o.data = .seq its n ∧ its.size ≤ sizeLine ∧ Vals xs its.toList
def absV : Value → Option V
  | .none => some .non
  | .bool b => some (.bl b)
  | .int i _ => some (.int i)
  | .str x _ => some (.str x)
  | .bytes b _ => some (.byt b)
  | .float b _ => some (.flt b)
  | .ref a => some (.ref a)
  | .type n => some (.ty n)
  | _ => none
theorem RelV.abs {x : V} {u : Value} (r : RelV x u) : absV u = some x := by
  cases x with
  | non => cases r; rfl
  | bl _ => cases r; rfl
  | int _ => obtain ⟨t, rfl⟩ := r; rfl
  | str _ => obtain ⟨t, rfl⟩ := r; rfl
  | byt _ => obtain ⟨t, rfl⟩ := r; rfl
  | flt _ => obtain ⟨t, rfl⟩ := r; rfl
  | ref _ => cases r; rfl
  | ty _ => cases r; rfl
theorem RelV.inj {x y : V} {u : Value} (r : RelV x u) (q : RelV y u) : x = y := Option.some.inj (r.abs.symm.trans q.abs)
theorem Vals.inj : ∀ {xs ys : List V} {us : List Value}, Vals xs us → Vals ys us → xs = ys
  | _, _, _, .nil, .nil => rfl
  | _, _, _, .cons r t, .cons r' t' => by rw [r.inj r', Vals.inj t t']
section
variable {X : Cx} {pins : List (Addr × Obj)} {σ : St} {H : Hp} {s : Shared} {a : Addr} {xs ys : List V}
theorem SqL.of {K : PySem.W.Frag} (h : H a = some (.lst xs)) : SqL K H a xs := .inl (.inl h)
theorem SqT.of {K : PySem.W.Frag} (h : H a = some (.tup xs)) : SqT K H a xs := .inl (.inl h)
theorem Inv.list (I : Inv X pins σ H s) (h : SqL X.K H a xs) : ∃ its : List Value, Vals xs its ∧ PlainL s.heap a its.toArray ∧ xs.length ≤ sizeLine := by
  rcases h with h | ⟨o, its, n, hk, hc, hd, hs, hz, r⟩
  · obtain ⟨z, its, n, r, e⟩ := h.ok I.hok
    exact ⟨its, r, ⟨_, n, e, rfl, rfl, rfl⟩, z⟩
  · refine ⟨its.toList, r, ⟨o, n, I.kIn a o hk, hc, hd, by simpa using hs⟩, ?_⟩
    have e := r.length
    simp only [Array.length_toList] at e
    omega
theorem Inv.tuple (I : Inv X pins σ H s) (h : SqT X.K H a xs) : ∃ its : List Value, Vals xs its ∧ IsTup s.heap a its.toArray ∧ xs.length ≤ sizeLine := by
  rcases h with h | ⟨o, its, n, hk, hc, hs, hz, r⟩
  · obtain ⟨z, its, r, p⟩ := h.ok I.hok
    exact ⟨its, r, p.is, z⟩
  · refine ⟨its.toList, r, ⟨o, I.kIn a o hk, hc, n, by simpa using hs⟩, ?_⟩
    have e := r.length
    simp only [Array.length_toList] at e
    omega
theorem Inv.list_inj (I : Inv X pins σ H s) (h : SqL X.K H a xs) (h' : SqL X.K H a ys) : xs = ys := by
  obtain ⟨its, r, ⟨o, n, e, _, _, d⟩, _⟩ := I.list h
  obtain ⟨its', r', ⟨o', n', e', _, _, d'⟩, _⟩ := I.list h'
  rw [e] at e'; cases e'
  rw [d] at d'
  injection d' with d1 _
  have : its = its' := by simpa using congrArg Array.toList d1
  subst this
  exact r.inj r'
end

abbrev Cx.wish (X : Cx) (E : Value → Shared → Prop) : Cx := { X with xe := E }
/-- no exception leaves -/
abbrev Cx.nox (X : Cx) : Cx := X.wish fun _ _ => False
theorem Cx.Ok.wish {X : Cx} (ok : X.Ok) (E : Value → Shared → Prop) : (X.wish E).Ok :=
  ⟨ok.mod, ok.kind, ok.glob, ok.blt, ok.above, ok.inj, ok.has, ok.cab, ok.hd, ok.frames, ok.stk, ok.exf, ok.bs, ok.bsz, ok.noex, ok.exfs, ok.funs, ok.frf⟩
theorem Cx.Ok.unwish {X : Cx} {E : Value → Shared → Prop} (ok : (X.wish E).Ok) : X.Ok :=
  ⟨ok.mod, ok.kind, ok.glob, ok.blt, ok.above, ok.inj, ok.has, ok.cab, ok.hd, ok.frames, ok.stk, ok.exf, ok.bs, ok.bsz, ok.noex, ok.exfs, ok.funs, ok.frf⟩
section
variable {X : Cx} {pins : List (Addr × Obj)} {σ : St} {H : Hp} {s : Shared} {E : Value → Shared → Prop}
theorem Inv.wish (I : Inv X pins σ H s) (E : Value → Shared → Prop) : Inv (X.wish E) pins σ H s := ⟨I.ok.wish E, I.os, I.bare, I.base, I.loc, I.cell, I.free, I.freeC, I.pin, I.hok, I.len⟩
theorem Inv.unwish (I : Inv (X.wish E) pins σ H s) : Inv X pins σ H s := ⟨I.ok.unwish, I.os, I.bare, I.base, I.loc, I.cell, I.free, I.freeC, I.pin, I.hok, I.len⟩
theorem SP.unwish {D : Ends} {f : Flow} {s' : Shared} (h : SP (X.wish E) pins D f s') : SP X pins D f s' := by
  cases f with
  | next => obtain ⟨σ', H', I, q⟩ := h; exact ⟨σ', H', I.unwish, q⟩
  | brk => obtain ⟨σ', H', I, q⟩ := h; exact ⟨σ', H', I.unwish, q⟩
  | cont => obtain ⟨σ', H', I, q⟩ := h; exact ⟨σ', H', I.unwish, q⟩
  | ret u => obtain ⟨v, σ', H', I, r, q⟩ := h; exact ⟨v, σ', H', I.unwish, r, q⟩
theorem PE.nox {e : Expr} {t : TE} (h : PE X.nox e t) : PE X e t := fun pins s σ H Q I hw =>
  wpAny_mono (h pins s σ H Q (I.wish _) hw) (fun _ _ ⟨v, H', I', r, q⟩ => ⟨v, H', I'.unwish, r, q⟩) fun _ _ z => False.elim z
theorem PT.nox {e : Expr} {t : TT} (h : PT X.nox e t) : PT X e t := fun pins s σ H Q I hw =>
  wpAny_mono (h pins s σ H Q (I.wish _) hw) (fun _ _ ⟨H', I', q⟩ => ⟨H', I'.unwish, q⟩) fun _ _ z => False.elim z
theorem PSs.nox {st : List Stmt} {t : TS} (h : PSs X.nox st t) : PSs X st t := fun pins s σ H D I hw =>
  wpAny_mono (h pins s σ H D (I.wish _) hw) (fun _ _ q => q.unwish) fun _ _ z => False.elim z
end

section
variable {X : Cx} {st : Stmt} {rest : List Stmt} {t u : TS} {e : Expr} {te : TE} {pos : Pos}
def tNext : TS := fun D σ H => D.nx σ H
def tSeq (t u : TS) : TS := fun D σ H => t { D with nx := u D } σ H
theorem pss_nil : PSs X [] tNext := fun _ _ σ H _ I h => wpAny_execs_nil ⟨σ, H, I, h⟩
theorem pss_cons (h1 : PS X st t) (h2 : PSs X rest u) : PSs X (st :: rest) (tSeq t u) := by
  intro pins s σ H D I h
  refine wpAny_execs_cons (thn (h1 pins s σ H { D with nx := u D } I h) fun f s1 q => ?_)
  cases f with
  | next =>
    obtain ⟨σ', H', I', q⟩ := q
    exact h2 pins s1 σ' H' D I' q
  | ret v => exact q
  | brk => exact q
  | cont => exact q
theorem pss_one (h1 : PS X st t) : PSs X [st] t := by
  intro pins s σ H D I h
  refine wpAny_execs_cons (thn (h1 pins s σ H D I h) fun f s1 q => ?_)
  cases f with
  | next => exact wpAny_execs_nil q
  | ret v => exact q
  | brk => exact q
  | cont => exact q
/-- in a def's body nothing is shown -/
theorem Inv.quiet {pins : List (Addr × Obj)} {σ : St} {H : Hp} {s : Shared} (I : Inv X pins σ H s) : interactive X.env = false := by simp [interactive, I.ok.kind]
/-- an expression whose value is dropped -/
def tDrop (te : TE) : TS := fun D σ H => te σ H fun _ H1 => D.nx σ H1
theorem ps_expr (he : PE X e te) (hs : swapsWith e none pos.line X.env = pure false := by rfl) : PS X (.Expr e pos) (tDrop te) := by
  intro pins s σ H D I h
  exact wpAny_Expr_any (thn (he pins s σ H _ I h) fun v s1 ⟨x, H1, I1, r1, q1⟩ => ⟨σ, H1, I1, q1⟩) I.quiet hs
def tRet (te : TE) : TS := fun D σ H => te σ H D.rt
theorem ps_ret (he : PE X e te) : PS X (.Return (some e) pos) (tRet te) := by
  intro pins s σ H D I h
  exact wpAny_Return_some (thn (he pins s σ H _ I h) fun v s1 ⟨x, H1, I1, r1, q1⟩ => ⟨x, σ, H1, I1, r1, q1⟩)
def tIfS (c : TT) (t u : TS) : TS := fun D σ H => c σ H fun b H1 => if b = true then t D σ H1 else u D σ H1
theorem ps_if {c : Expr} {a b : List Stmt} {tc : TT} (hc : PT X c tc) (ha : PSs X a t) (hb : PSs X b u) : PS X (.If c a b pos) (tIfS tc t u) := by
  intro pins s σ H D I h
  refine wpAny_If (thn (hc pins s σ H _ I h) fun d s1 ⟨H1, I1, q1⟩ => ?_)
  cases d with
  | true => exact ha pins s1 σ H1 D I1 q1
  | false => exact hb pins s1 σ H1 D I1 q1
end

abbrev TG := V → St → Hp → (St → Hp → Prop) → Prop
def PG (X : Cx) (target : Expr) (t : TG) : Prop :=
  ∀ (pins : List (Addr × Obj)) (s : Shared) (σ : St) (H : Hp) (v : V) (u : Value) (Q : St → Hp → Prop), Inv X pins σ H s → RelV v u → t v σ H Q →
    wpAny (model X.prog X.w) X.A (assign target X.env u) (fun _ s' => ∃ σ' H', Inv X pins σ' H' s' ∧ Q σ' H') X.xe s
section
variable {X : Cx} {pos : Pos}
def gName (i : Nat) : TG := fun v σ H Q => Q (σ.set i (some v)) H
theorem pg_name {i : Nat} {x : Str} (hN : X.N.Nodup) (hi : X.N[i]? = some x) (hx : Loc X.env.scope x) (hf : X.fn x = true ∨ X.env.scope.names.lookup x = some .local := by first | exact .inl rfl | exact .inr rfl | assumption) : PG X (.Name x pos) (gName i) := by
  intro pins s σ H v u Q I r h
  exact wpAny_assign_Name (store_ok I hN hi hx r (fun s' I' => ⟨_, H, I', h⟩) hf)
/-- target = value -/
def tAsg (te : TE) (g : TG) : TS := fun D σ H => te σ H fun x H1 => g x σ H1 D.nx
/-- name = value -/
theorem ps_set {i : Nat} {x : Str} {e : Expr} {te : TE} {pos' : Pos} (hN : X.N.Nodup) (hi : X.N[i]? = some x) (hx : Loc X.env.scope x) (he : PE X e te) (hs : swapsWith e (some (.Name x pos')) pos.line X.env = pure false := by rfl) (hf : X.fn x = true ∨ X.env.scope.names.lookup x = some .local := by first | exact .inl rfl | exact .inr rfl | assumption) :
    PS X (.Assign [.Name x pos'] e pos) (tAsg te (gName i)) := by
  intro pins s σ H D I h
  refine wpAny_Assign_Name (thn (he pins s σ H _ I h) fun v s1 ⟨y, H1, I1, r1, q1⟩ => ?_) hs
  exact store_ok I1 hN hi hx r1 (fun s2 I2 => ⟨_, H1, I2, q1⟩) hf
end

section
variable {X : Cx} {pos : Pos}
end

/-- at turn i: it yields x (the heap may grow), or it stops -/
structure It where
  go : Nat → Hp → Prop
  yld : Nat → Hp → V → Hp → Prop
  stop : Nat → Hp → Prop
/-- the iterator's own objects may turn: they are not the frame's, not pinned, younger than the entry (or a comprehension's own) -/
def FpOk (X : Cx) (pins : List (Addr × Obj)) (H : Hp) (b : Addr) : Prop :=
  H b = none ∧ b ≠ X.env.locals ∧ b ∉ X.fs ∧ (b ∈ X.ex ∨ X.s_0.heap.objs.size ≤ b) ∧ (∀ x c, X.env.cells.lookup x = some c → c ≠ b) ∧ ∀ p ∈ X.pn ++ pins, p.1 ≠ b
theorem Inv.fpOk {X : Cx} {pins : List (Addr × Obj)} {σ : St} {H H' : Hp} {s : Shared} {b : Addr} (I : Inv X pins σ H s) (hb : s.heap.objs.size ≤ b) (hn : H' b = none) : FpOk X pins H' b := by
  refine ⟨hn, Nat.ne_of_gt (Nat.lt_of_lt_of_le I.lt hb), I.nofs hb, .inr (Nat.le_trans I.sz hb), fun x c e z => ?_, fun p hp z => ?_⟩
  · obtain ⟨v, q⟩ := I.cell x c e
    exact absurd (Nat.lt_of_lt_of_le q.lt (by rw [z]; exact hb)) (Nat.lt_irrefl _)
  · exact absurd (Nat.lt_of_lt_of_le (Heap.lt_size (I.pin p hp).1) (by rw [z]; exact hb)) (Nat.lt_irrefl _)
structure Turn (P : Program) (w : World) (K : PySem.W.Frag) (tg : Expr) (J : It) (fp : List Addr) (it : Addr) (tn : Nat → Heap → Prop) : Prop where
  mem : it ∈ fp
  obj : ∀ i h, tn i h → ∀ b ∈ fp, ∃ o, h.get? b = some o ∧ ∀ v, o.data ≠ .cell v
  keep : ∀ i h h', tn i h → (∀ b ∈ fp, ∀ o, h.get? b = some o → h'.get? b = some o) → tn i h'
  item : ∀ (X : Cx), X.prog = P → X.w = w → X.K = K → X.calm = true → ∀ (i : Nat) (pins : List (Addr × Obj)) (s : Shared) (σ : St) (H : Hp) (E : Value → Shared → Prop), Inv X pins σ H s → (∀ b ∈ fp, FpOk X pins H b) → tn i s.heap → J.go i H →
    wpAny (model P w) X.A (pyNext (.ref it)) (fun r s1 => ∃ u, r = some u ∧
      wpAny (model P w) X.A (letOwnedTupleGo tg (.ref it) u) (fun _ s2 => ∃ x H', Inv X pins σ H' s2 ∧ RelV x u ∧ J.yld i H x H' ∧ tn (i + 1) s2.heap ∧ ∀ b ∈ fp, H' b = none) E s1) E s
  done : ∀ (X : Cx), X.prog = P → X.w = w → X.K = K → X.calm = true → ∀ (i : Nat) (pins : List (Addr × Obj)) (s : Shared) (σ : St) (H : Hp) (E : Value → Shared → Prop), Inv X pins σ H s → (∀ b ∈ fp, FpOk X pins H b) → tn i s.heap → J.stop i H →
    wpAny (model P w) X.A (pyNext (.ref it)) (fun r s1 => r = none ∧ Inv X pins σ H s1) E s
  self : ∀ (A : Around) (i : Nat) (s : Shared) (Q : Value → Shared → Prop) (E : Value → Shared → Prop), tn i s.heap → Q (.ref it) s → wpAny (model P w) A (pyIter (.ref it)) Q E s
abbrev TI := St → Hp → (It → Hp → Prop) → Prop
/-- an iterator has come -/
def PIE (X : Cx) (pins : List (Addr × Obj)) (σ : St) (tg : Expr) (R : It → Hp → Prop) (itv : Value) (s2 : Shared) : Prop :=
  ∃ (it : Addr) (fp : List Addr) (tn : Nat → Heap → Prop) (J : It) (H' : Hp), itv = .ref it ∧ Inv X pins σ H' s2 ∧ Turn X.prog X.w X.K tg J fp it tn ∧ tn 0 s2.heap ∧ (∀ b ∈ fp, FpOk X pins H' b) ∧ R J H'
def PI (X : Cx) (tg iter : Expr) (wi : TI) : Prop :=
  ∀ (pins : List (Addr × Obj)) (s : Shared) (σ : St) (H : Hp) (R : It → Hp → Prop), Inv X pins σ H s → wi σ H R →
    wpAny (model X.prog X.w) X.A (eval iter X.env) (fun v s1 => wpAny (model X.prog X.w) X.A (pyIter v) (PIE X pins σ tg R) X.xe s1) X.xe s

/-- the step ahead of the store is nothing for an iterator that keeps no tuple -/
theorem go_of {M : Model} {A : Around} {E : Value → Shared → Prop} {s : Shared} {tg : Expr} {it : Addr} {u : Value} {o : Obj} {n : String} {vs : Array Value} {Q : Unit → Shared → Prop} (ho : s.heap.get? it = some o) (hc : o.cls = .type n) (hd : o.data = .fields vs)
    (hn : ["enumerate", "zip", "dict_itemiterator", "dict_reverseitemiterator", "odict_iterator", "itertools.zip_longest", "itertools.pairwise"].contains n = false) (hQ : Q () s) : wpAny M A (letOwnedTupleGo tg (.ref it) u) Q E s := by
  unfold letOwnedTupleGo
  cases tg <;> first
    | exact wpAny_pure hQ
    | (cases u <;> first
        | exact wpAny_pure hQ
        | (refine wpAny_bind (wpAny_load ho ?_)
           rw [hc, hd]
           show wpAny M A (if (["enumerate", "zip", "dict_itemiterator", "dict_reverseitemiterator", "odict_iterator", "itertools.zip_longest", "itertools.pairwise"].contains n && vs[0]? == some (rawInt _)) = true then _ else _) Q E s
           rw [if_neg (by intro h; rw [hn, Bool.false_and] at h; cases h)]
           exact wpAny_pure hQ))

/-- the list at a, as it stands at each turn (a loop may append to it) -/
def Itl (K : PySem.W.Frag) (a : Addr) : It :=
  ⟨fun i H => ∃ xs x, SqL K H a xs ∧ xs[i]? = some x, fun i H x H' => H' = H ∧ ∀ xs, SqL K H a xs → xs[i]? = some x, fun i H => ∃ xs, SqL K H a xs ∧ xs.length ≤ i⟩
/-- lo, lo + 1, .. (n of them) -/
def Itr (lo : Int) (n : Nat) : It := ⟨fun i _ => i < n, fun i H x H' => H' = H ∧ x = .int (lo + i), fun i _ => n ≤ i⟩
theorem turn_list {P : Program} {w : World} {K : PySem.W.Frag} {tg : Expr} (a it : Addr) : Turn P w K tg (Itl K a) [it] it (fun i h => h.IsListIter it a i) where
  mem := by simp
  obj := fun i h st b hb => by
    have e : b = it := by simpa using hb
    subst e
    obtain ⟨o, e, c, d⟩ := st
    exact ⟨o, e, fun v z => by rw [d] at z; cases z⟩
  keep := fun i h h' st k => st.at fun o e => k it (by simp) o e
  item := by
    intro X hP hw hK hc i pins s σ H E I hf st hg
    subst hP hw hK
    obtain ⟨xs, x, hq, hx⟩ := hg
    obtain ⟨its, rv, p, hz⟩ := I.list hq
    obtain ⟨u, hu, ru⟩ := rv.get hx
    obtain ⟨f0, f1, f2, f3, f4, f5⟩ := hf it (by simp)
    refine wpAny_pyNext_list_item st p.isList (x := u) (by simpa using hu) fun h' st' sb => ?_
    have I1 : Inv X pins σ H { s with heap := h' } := I.turned (t' := s.toks) (fun b o hb e => (sb.2 b hb).trans e) f0 f1 f3 f4 f5
    obtain ⟨o, e, c, d⟩ := id st'
    exact ⟨u, rfl, go_of (s := { s with heap := h' }) e c d (by decide) ⟨x, H, I1, ru, ⟨rfl, fun ys hy => by rw [I.list_inj hy hq]; exact hx⟩, st', fun b hb => (hf b hb).1⟩⟩
  done := by
    intro X hP hw hK hc i pins s σ H E I hf st hg
    subst hP hw hK
    obtain ⟨xs, hq, hx⟩ := hg
    obtain ⟨its, rv, p, hz⟩ := I.list hq
    obtain ⟨f0, f1, f2, f3, f4, f5⟩ := hf it (by simp)
    have hl := rv.length
    exact wpAny_pyNext_list_end (I.ok.hd hc) st p.isList (by simp; omega) fun h' eb => ⟨rfl, I.turned (t' := s.toks) (fun b o hb e => eb b o hb e) f0 f1 f3 f4 f5⟩
  self := fun _ _ _ _ _ st h => wpAny_pyIter_listiter st h
theorem turn_range {P : Program} {w : World} {K : PySem.W.Frag} {tg : Expr} (it : Addr) (lo : Int) (n : Nat) : Turn P w K tg (Itr lo n) [it] it (fun i h => IsRangeIter h it (lo + (i : Nat) * 1) ((n : Int) - (i : Nat)) 1) where
  mem := by simp
  obj := fun i h st b hb => by
    have e : b = it := by simpa using hb
    subst e
    exact ⟨_, st, fun v z => by
      have z' : Data.fields _ = Data.cell v := z
      cases z'⟩
  keep := fun i h h' st k => k it (by simp) _ st
  item := by
    intro X hP hw hK hc i pins s σ H E I hf st hg
    subst hP hw hK
    obtain ⟨f0, f1, f2, f3, f4, f5⟩ := hf it (by simp)
    have W := Walks.range (prog := X.prog) (w := X.w) (I.ok.hd hc) it lo 1 n
    refine W.item i s _ _ hg st fun v h' tk hv st' kk => ?_
    obtain ⟨t, rfl⟩ := hv
    have I1 : Inv X pins σ H { s with heap := h', toks := tk } := I.turned (fun b o hb e => kk b o (by simpa using hb) e) f0 f1 f3 f4 f5
    refine ⟨_, rfl, go_of (s := { s with heap := h', toks := tk }) (n := "range_iterator") st' rfl rfl (by decide) ⟨.int (lo + i), H, I1, ⟨t, ?_⟩, ⟨rfl, rfl⟩, st', fun b hb => (hf b hb).1⟩⟩
    rw [Int.mul_one]
  done := by
    intro X hP hw hK hc i pins s σ H E I hf st hg
    subst hP hw hK
    obtain ⟨f0, f1, f2, f3, f4, f5⟩ := hf it (by simp)
    exact wpAny_pyNext_range_end (I.ok.hd hc) st (by have : n ≤ i := hg; omega) fun h' eb => ⟨rfl, I.turned (t' := s.toks) (fun b o hb e => eb b o hb e) f0 f1 f3 f4 f5⟩
  self := fun _ _ _ _ _ st h => wpAny_pyIter_rangeiter st h
end L2

namespace L2
open PySem PySem.Spec PyProof.Rows
section
variable {X : Cx} {tg : Expr}
def iList (K : PySem.W.Frag) (tl : TE) : TI := fun σ H R => tl σ H fun x H1 => ∃ a, x = .ref a ∧ (∃ xs, SqL K H1 a xs) ∧ R (Itl K a) H1
theorem pi_list {l : Expr} {tl : TE} (hl : PE X l tl) : PI X tg l (iList X.K tl) := by
  intro pins s σ H R I h
  refine thn (hl pins s σ H _ I h) fun v s1 ⟨x, H1, I1, r1, q1⟩ => ?_
  obtain ⟨a, e, ⟨xs, hq⟩, q⟩ := q1
  subst e
  cases r1
  obtain ⟨its, rv, p, hz⟩ := I1.list hq
  refine wpAny_pyIter_list p.isList ?_
  refine ⟨s1.heap.objs.size, [s1.heap.objs.size], _, _, H1, rfl, I1.kept (t' := s1.toks) fun b o e => Heap.get?_push_of_some _ e, turn_list a _, ⟨_, Heap.get?_push_size _ rfl, rfl, rfl⟩, fun b hb => ?_, q⟩
  have e : b = s1.heap.objs.size := by simpa using hb
  subst e
  exact I1.fpOk (Nat.le_refl _) (I1.hok.fresh (Nat.le_refl _))
/-- a range object just made, walked -/
theorem range_it {pins : List (Addr × Obj)} {σ : St} {H : Hp} {s : Shared} {R : It → Hp → Prop} {E : Value → Shared → Prop} {lo hi : Int} {t u v : Tok} {tk : Nat} (I : Inv X pins σ H s) (h1 : -(2 ^ 62) ≤ lo) (h2 : lo < 2 ^ 62) (h3 : -(2 ^ 62) ≤ hi) (h4 : hi < 2 ^ 62)
    (q : R (Itr lo (hi - lo).toNat) H) : wpAny (model X.prog X.w) X.A (pyIter (.ref s.heap.objs.size)) (PIE X pins σ tg R) E { s with heap := s.heap.push { cls := .type "range", data := .fields #[.int lo t, .int hi u, .int 1 v] }, toks := tk } := by
  refine wpAny_pyIter_range (IsRange.new ..) (small_one h1 h2 h3 h4) ?_
  have I1 : Inv X pins σ H { s with heap := s.heap.push { cls := .type "range", data := .fields #[.int lo t, .int hi u, .int 1 v] }, toks := tk } := I.kept fun b o e => Heap.get?_push_of_some _ e
  refine ⟨(s.heap.push { cls := .type "range", data := .fields #[.int lo t, .int hi u, .int 1 v] }).objs.size, [(s.heap.push { cls := .type "range", data := .fields #[.int lo t, .int hi u, .int 1 v] }).objs.size], _, _, H, rfl,
    I1.kept (t' := tk) fun b o e => Heap.get?_push_of_some _ e, turn_range _ lo (hi - lo).toNat, ?_, fun b hb => ?_, q⟩
  · have e1 : lo + ((0 : Nat) : Int) * 1 = lo := by simp
    have e2 : (((hi - lo).toNat : Nat) : Int) - ((0 : Nat) : Int) = Builtin.Range.rangeSize lo hi 1 := by rw [rangeSize_one]; split <;> omega
    show IsRangeIter _ _ (lo + ((0 : Nat) : Int) * 1) ((((hi - lo).toNat : Nat) : Int) - ((0 : Nat) : Int)) 1
    rw [e1, e2]
    exact Heap.get?_push_size _ rfl
  · have e : b = (s.heap.push { cls := .type "range", data := .fields #[.int lo t, .int hi u, .int 1 v] }).objs.size := by simpa using hb
    subst e
    exact I1.fpOk (Nat.le_refl _) (I1.hok.fresh (Nat.le_refl _))
def iRng1 (ta : TA) : TI := fun σ H R => ta σ H fun vs H1 => ∃ j : Int, vs = [.int j] ∧ -(2 ^ 62) ≤ j ∧ j < 2 ^ 62 ∧ R (Itr 0 j.toNat) H1
theorem pi_range1 {a : Expr} {ta : TA} {p pos : Pos} (hg : Gl X "range") (hm : X.mg "range" = none) (ha : PA X [a] ta) (hs : starEach [a] X.env = [(false, eval a X.env)] := by rfl) : PI X tg (.Call (.Name "range" p) [a] [] pos) (iRng1 ta) := by
  intro pins s σ H R I h
  refine Call_ (ld_blt I hg hm boot_range (PyProof.Rows.callWith_type1 (thn (ha pos pins s σ H _ I h) fun us s1 ⟨vs, H1, I1, r1, q1⟩ => ?_) hs rfl))
  obtain ⟨j, e, q1, q2, q⟩ := q1
  subst e
  cases r1 with
  | cons r rr =>
    cases rr
    obtain ⟨t, rfl⟩ := r
    exact call_range_1 (range_it I1 (by omega) (by omega) q1 q2 (by simpa using q))
/-- W: the invariant by the turn and a measure; N: what the body is to reach -/
def tFor (wi : TI) (g : TG) (tb : TS) : TS := fun D σ H => wi σ H fun J H1 => ∃ W : Nat → Nat → St → Hp → Prop, (∃ m, W 0 m σ H1) ∧ ∀ i m σ H, W i m σ H →
  (J.stop i H ∧ D.nx σ H) ∨ (J.go i H ∧ ∃ N : St → Hp → Prop, (∀ σ' H', N σ' H' → ∃ m', m' < m ∧ W (i + 1) m' σ' H') ∧ ∀ x H', J.yld i H x H' → g x σ H' fun σ2 H2 => tb { D with nx := N, ct := N, bk := D.nx } σ2 H2)
/-- the records at fp as they stand -/
def pinsAt (fp : List Addr) (h : Heap) : List (Addr × Obj) := fp.filterMap fun b => (h.get? b).map fun o => (b, o)
theorem mem_pinsAt {fp : List Addr} {h : Heap} {b : Addr} {o : Obj} (hb : b ∈ fp) (e : h.get? b = some o) : (b, o) ∈ pinsAt fp h := List.mem_filterMap.mpr ⟨b, hb, by rw [e]; rfl⟩
theorem of_pinsAt {fp : List Addr} {h : Heap} {p : Addr × Obj} (hp : p ∈ pinsAt fp h) : p.1 ∈ fp ∧ h.get? p.1 = some p.2 := by
  obtain ⟨b, hb, e⟩ := List.mem_filterMap.mp hp
  cases q : h.get? b with
  | none => rw [q] at e; cases e
  | some o =>
    rw [q] at e
    have e' : (b, o) = p := Option.some.inj e
    subst e'
    exact ⟨hb, q⟩
theorem Inv.pinned {pins : List (Addr × Obj)} {σ : St} {H : Hp} {s : Shared} {fp : List Addr} (I : Inv X pins σ H s) (hf : ∀ b ∈ fp, FpOk X pins H b) (ho : ∀ b ∈ fp, ∃ o, s.heap.get? b = some o ∧ ∀ v, o.data ≠ .cell v) : Inv X (pins ++ pinsAt fp s.heap) σ H s :=
  I.pins_of fun p hp => (List.mem_append.mp hp).elim (fun z => I.pin p (List.mem_append_right _ z)) fun z => by
    obtain ⟨hb, e⟩ := of_pinsAt z
    obtain ⟨f0, f1, f2, _⟩ := hf p.1 hb
    obtain ⟨o, e', d⟩ := ho p.1 hb
    rw [e] at e'; cases e'
    exact ⟨e, f0, f1, f2, d⟩
theorem Inv.unpinned {pins pl : List (Addr × Obj)} {σ : St} {H : Hp} {s : Shared} (I : Inv X (pins ++ pl) σ H s) : Inv X pins σ H s := I.pins_of fun p hp => I.pin p (List.mem_append_right _ (List.mem_append_left _ hp))
theorem ps_for {iter : Expr} {body : List Stmt} {wi : TI} {g : TG} {tb : TS} {pos : Pos} (hp : PassesOwn (model X.prog X.w) X.A X.env X.xe) (hc : X.calm = true) (hi : PI X tg iter wi) (hg : PG X tg g) (hb : PSs X body tb)
    (hs : ∀ x, foldedSetIterable iter X.env x = pure x := by intro _; rfl) : PS X (.For tg iter body [] pos) (tFor wi g tb) := by
  intro pins s σ H D I h
  refine wpAny_For (thn (hi pins s σ H _ I h) fun v s1 h1 => thn h1 fun itv s2 h2 => ?_) hs
  obtain ⟨it, fp, tn, J, H2, e, I2, T, st2, f2, W, ⟨m0, w0⟩, turn⟩ := h2
  subst e
  -- what stays true of the iterator's objects through the loop
  have stat : ∀ {H' : Hp}, (∀ b ∈ fp, H' b = none) → ∀ b ∈ fp, FpOk X pins H' b := fun hn b hb => ⟨hn b hb, (f2 b hb).2⟩
  refine codeAny_forLoop_any (fun n s' => ∃ i σ' H', Inv X pins σ' H' s' ∧ tn i s'.heap ∧ (∀ b ∈ fp, H' b = none) ∧ W i n σ' H') ?_ m0 ⟨0, σ, H2, I2, st2, fun b hb => (f2 b hb).1, w0⟩
  rintro n s3 ⟨i, σ3, H3, I3, st3, fr3, w3⟩
  rcases turn i n σ3 H3 w3 with ⟨stop, qn⟩ | ⟨go, N, hN, step⟩
  · refine wpAny_passesOwn hp (thn (T.done X rfl rfl rfl hc i pins s3 σ3 H3 X.xe I3 (stat fr3) st3 stop) fun r s4 ⟨hr, I4⟩ => ?_)
    subst hr
    exact wpAny_execs_nil ⟨σ3, H3, I4, qn⟩
  · refine wpAny_passesOwn hp (thn (T.item X rfl rfl rfl hc i pins s3 σ3 H3 X.xe I3 (stat fr3) st3 go) fun r s4 ⟨u, hr, h4⟩ => ?_)
    subst hr
    refine wpAny_passesOwn hp (thn h4 fun _ s5 ⟨x, H5, I5, r5, y5, st5, fr5⟩ => ?_)
    have I5' := I5.pinned (stat fr5) (T.obj _ _ st5)
    refine wpAny_passesOwn hp (thn (hg _ s5 σ3 H5 x u _ I5' r5 (step x H5 y5)) fun _ s6 ⟨σ6, H6, I6, q6⟩ => ?_)
    refine wpAny_passesOwn hp (thn (hb _ s6 σ6 H6 _ I6 q6) fun f s7 q7 => ?_)
    have again : ∀ {σ7 : St} {H7 : Hp}, Inv X (pins ++ pinsAt fp s5.heap) σ7 H7 s7 → N σ7 H7 → ∃ m, m < n ∧ ∃ i σ' H', Inv X pins σ' H' s7 ∧ tn i s7.heap ∧ (∀ b ∈ fp, H' b = none) ∧ W i m σ' H' := fun {σ7 H7} I7 n7 => by
      obtain ⟨m', hm, w7⟩ := hN σ7 H7 n7
      refine ⟨m', hm, i + 1, σ7, H7, I7.unpinned, T.keep _ _ _ st5 fun b hb o e => (I7.pin (b, o) (List.mem_append_right _ (List.mem_append_right _ (mem_pinsAt hb e)))).1, fun b hb => ?_, w7⟩
      obtain ⟨o, e, d⟩ := T.obj _ _ st5 b hb
      exact (I7.pin (b, o) (List.mem_append_right _ (List.mem_append_right _ (mem_pinsAt hb e)))).2.1
    cases f with
    | next => obtain ⟨σ7, H7, I7, n7⟩ := q7; exact again I7 n7
    | cont => obtain ⟨σ7, H7, I7, n7⟩ := q7; exact again I7 n7
    | brk => obtain ⟨σ7, H7, I7, q7⟩ := q7; exact ⟨σ7, H7, I7.unpinned, q7⟩
    | ret v => obtain ⟨x7, σ7, H7, I7, r7, q7⟩ := q7; exact ⟨x7, σ7, H7, I7.unpinned, r7, q7⟩
end

/-- over a list that the body leaves as it is -/
theorem for_list {K : PySem.W.Frag} {a : Addr} {xs : List V} {g : TG} {tb : TS} {D : Ends} {σ : St} {H : Hp} (Pv : Nat → St → Hp → Prop) (h0 : Pv 0 σ H) (hl : ∀ i σ H, i ≤ xs.length → Pv i σ H → SqL K H a xs)
    (hs : ∀ i x σ H, xs[i]? = some x → Pv i σ H → g x σ H fun σ2 H2 => tb { D with nx := Pv (i + 1), ct := Pv (i + 1), bk := D.nx } σ2 H2) (hd : ∀ σ H, Pv xs.length σ H → D.nx σ H) :
    ∃ W : Nat → Nat → St → Hp → Prop, (∃ m, W 0 m σ H) ∧ ∀ i m σ H, W i m σ H →
      ((Itl K a).stop i H ∧ D.nx σ H) ∨ ((Itl K a).go i H ∧ ∃ N : St → Hp → Prop, (∀ σ' H', N σ' H' → ∃ m', m' < m ∧ W (i + 1) m' σ' H') ∧ ∀ x H', (Itl K a).yld i H x H' → g x σ H' fun σ2 H2 => tb { D with nx := N, ct := N, bk := D.nx } σ2 H2) := by
  refine ⟨fun i m σ H => m = xs.length - i ∧ i ≤ xs.length ∧ Pv i σ H, ⟨xs.length, by simp, Nat.zero_le _, h0⟩, ?_⟩
  rintro i m σ H ⟨rfl, hi, p⟩
  have q := hl i σ H hi p
  by_cases hlt : i < xs.length
  · refine .inr ⟨⟨xs, xs[i], q, by simp [hlt]⟩, Pv (i + 1), fun σ' H' p' => ⟨xs.length - (i + 1), by omega, rfl, hlt, p'⟩, fun x H' y => ?_⟩
    obtain ⟨e, y⟩ := y
    subst e
    exact hs i x σ _ (y xs q) p
  · have e : i = xs.length := by omega
    subst e
    exact .inl ⟨⟨xs, q, Nat.le_refl _⟩, hd σ H p⟩
theorem for_range {lo : Int} {n : Nat} {g : TG} {tb : TS} {D : Ends} {σ : St} {H : Hp} (Pv : Nat → St → Hp → Prop) (h0 : Pv 0 σ H)
    (hs : ∀ i σ H, i < n → Pv i σ H → g (.int (lo + i)) σ H fun σ2 H2 => tb { D with nx := Pv (i + 1), ct := Pv (i + 1), bk := D.nx } σ2 H2) (hd : ∀ σ H, Pv n σ H → D.nx σ H) :
    ∃ W : Nat → Nat → St → Hp → Prop, (∃ m, W 0 m σ H) ∧ ∀ i m σ H, W i m σ H →
      ((Itr lo n).stop i H ∧ D.nx σ H) ∨ ((Itr lo n).go i H ∧ ∃ N : St → Hp → Prop, (∀ σ' H', N σ' H' → ∃ m', m' < m ∧ W (i + 1) m' σ' H') ∧ ∀ x H', (Itr lo n).yld i H x H' → g x σ H' fun σ2 H2 => tb { D with nx := N, ct := N, bk := D.nx } σ2 H2) := by
  refine ⟨fun i m σ H => m = n - i ∧ i ≤ n ∧ Pv i σ H, ⟨n, by simp, Nat.zero_le _, h0⟩, ?_⟩
  rintro i m σ H ⟨rfl, hi, p⟩
  by_cases hlt : i < n
  · refine .inr ⟨hlt, Pv (i + 1), fun σ' H' p' => ⟨n - (i + 1), by omega, rfl, hlt, p'⟩, fun x H' y => ?_⟩
    obtain ⟨e, y⟩ := y
    subst e y
    exact hs i σ _ hlt p
  · have e : i = n := by omega
    subst e
    exact .inl ⟨Nat.le_refl _, hd σ H p⟩
end L2

namespace L2
open PySem PySem.Spec PyProof.Rows

abbrev R2 := V → V → Hp → VK → Prop
/-- a two-place operation on values: f is binaryOp op, inplaceOp op or compareOp op -/
def OpR (X : Cx) (f : Value → Value → Sem Value) (r : R2) : Prop :=
  ∀ (pins : List (Addr × Obj)) (s : Shared) (σ : St) (H : Hp) (x y : V) (v u : Value) (Q : VK), Inv X pins σ H s → RelV x v → RelV y u → r x y H Q →
    wpAny (model X.prog X.w) X.A (f v u) (EP X pins σ Q) X.xe s
/-- a one-place operation -/
def UnR (X : Cx) (f : Value → Sem Value) (r : V → Hp → VK → Prop) : Prop :=
  ∀ (pins : List (Addr × Obj)) (s : Shared) (σ : St) (H : Hp) (x : V) (v : Value) (Q : VK), Inv X pins σ H s → RelV x v → r x H Q →
    wpAny (model X.prog X.w) X.A (f v) (EP X pins σ Q) X.xe s
/-- a call of a value that is known (a builtin, a type) with values -/
def CallR (X : Cx) (f : Value) (r : List V → Hp → VK → Prop) : Prop :=
  ∀ (pins : List (Addr × Obj)) (s : Shared) (σ : St) (H : Hp) (xs : List V) (us : List Value) (Q : VK), Inv X pins σ H s → Vals xs us → r xs H Q →
    wpAny (model X.prog X.w) X.A (call f us) (EP X pins σ Q) X.xe s
def tOp (r : R2) (ta tb : TE) : TE := fun σ H Q => ta σ H fun x H1 => tb σ H1 fun y H2 => r x y H2 Q
def tUn (r : V → Hp → VK → Prop) (ta : TE) : TE := fun σ H Q => ta σ H fun x H1 => r x H1 Q
/-- ints in, under C, and a value out -/
def rI (C : Int → Int → Prop) (g : Int → Int → V) : R2 := fun x y H Q => ∃ i j, x = .int i ∧ y = .int j ∧ C i j ∧ Q (g i j) H
def rI0 (g : Int → Int → V) : R2 := fun x y H Q => ∃ i j, x = .int i ∧ y = .int j ∧ Q (g i j) H
def rU (g : Int → V) : V → Hp → VK → Prop := fun x H Q => ∃ i, x = .int i ∧ Q (g i) H

section
variable {X : Cx} {a b c : Expr} {ta tb tc : TE} {pos : Pos}

theorem binT (ha : PE X a ta) (hb : PE X b tb) {pins : List (Addr × Obj)} {s : Shared} {σ : St} {H : Hp} {R : V → V → Hp → Prop} (I : Inv X pins σ H s)
    (h : ta σ H fun x H1 => tb σ H1 fun y H2 => R x y H2) {Q : Value → Shared → Prop} {f : Value → Value → Sem Value}
    (hf : ∀ v u s2 x y H2, Inv X pins σ H2 s2 → RelV x v → RelV y u → R x y H2 → wpAny (model X.prog X.w) X.A (f v u) Q X.xe s2) :
    wpAny (model X.prog X.w) X.A (eval a X.env) (fun v s₁ => wpAny (model X.prog X.w) X.A (eval b X.env) (fun u s₂ => wpAny (model X.prog X.w) X.A (f v u) Q X.xe s₂) X.xe s₁) X.xe s := by
  refine thn (ha pins s σ H _ I h) fun v s1 ⟨x, H1, I1, r1, q1⟩ => ?_
  refine thn (hb pins s1 σ H1 _ I1 q1) fun u s2 ⟨y, H2, I2, r2, q2⟩ => ?_
  exact hf v u s2 x y H2 I2 r1 r2 q2

theorem pe_op {op : Operator} {r : R2} (ho : OpR X (binaryOp op) r) (ha : PE X a ta) (hb : PE X b tb) : PE X (.BinOp a op b pos) (tOp r ta tb) := by
  intro pins s σ H Q I h
  exact wpAny_BinOp (binT ha hb I h fun v u s2 x y H2 I2 rx ry q => ho pins s2 σ H2 x y v u Q I2 rx ry q)
theorem pe_un {op : UnaryOp} {r : V → Hp → VK → Prop} (ho : UnR X (unaryOp op) r) (ha : PE X a ta) : PE X (.UnaryOp op a pos) (tUn r ta) := by
  intro pins s σ H Q I h
  exact UnaryOp_ (thn (ha pins s σ H _ I h) fun v s1 ⟨x, H1, I1, r1, q1⟩ => ho pins s1 σ H1 x v Q I1 r1 q1)
theorem opI {f : Value → Value → Sem Value} {C : Int → Int → Prop} {g : Int → Int → Int}
    (rule : ∀ (i j : Int) (t u : Tok) (s : Shared) (Q : Value → Shared → Prop) (E : Value → Shared → Prop), C i j → Q (.int (g i j) s.toks) { s with toks := s.toks + 1 } → wpAny (model X.prog X.w) X.A (f (.int i t) (.int j u)) Q E s) :
    OpR X f (rI C fun i j => .int (g i j)) := by
  intro pins s σ H x y v u Q I rx ry h
  obtain ⟨i, j, rfl, rfl, hc, q⟩ := h
  obtain ⟨t, rfl⟩ := rx
  obtain ⟨t', rfl⟩ := ry
  exact rule i j t t' s _ _ hc ⟨.int (g i j), H, I.tok _, ⟨_, rfl⟩, q⟩
theorem opI0 {f : Value → Value → Sem Value} {g : Int → Int → Int}
    (rule : ∀ (i j : Int) (t u : Tok) (s : Shared) (Q : Value → Shared → Prop) (E : Value → Shared → Prop), Q (.int (g i j) s.toks) { s with toks := s.toks + 1 } → wpAny (model X.prog X.w) X.A (f (.int i t) (.int j u)) Q E s) :
    OpR X f (rI0 fun i j => .int (g i j)) := by
  intro pins s σ H x y v u Q I rx ry h
  obtain ⟨i, j, rfl, rfl, q⟩ := h
  obtain ⟨t, rfl⟩ := rx
  obtain ⟨t', rfl⟩ := ry
  exact rule i j t t' s _ _ ⟨.int (g i j), H, I.tok _, ⟨_, rfl⟩, q⟩
def CPow (i j : Int) : Prop := 0 ≤ j ∧ j ≤ 1000000 ∧ i.natAbs < 2 ^ 64
def CMul (i j : Int) : Prop := (-(2 ^ 64) < i ∧ i < 2 ^ 64) ∨ (-(2 ^ 64) < j ∧ j < 2 ^ 64)
theorem CMul.ok {i j : Int} (h : CMul i j) : IntMulOk i j := by
  rcases h with ⟨h1, h2⟩ | ⟨h1, h2⟩
  · exact .of_left (intBits_le_64 h1 h2)
  · exact .of_right (intBits_le_64 h1 h2)
theorem op_add : OpR X (binaryOp .Add) (rI0 fun i j => .int (i + j)) := opI0 fun _ _ _ _ _ _ _ q => add_int q
/-- % by a positive divisor of any size -/
theorem op_mod : OpR X (binaryOp .Mod) (rI (fun _ j => 0 < j) fun i j => .int (i % j)) := opI fun i j _ _ _ _ _ hc q => by
  have h1 : (0 : Int) < j := hc
  exact mod_int' (by omega) (by rw [Int.fmod_eq_emod_of_nonneg i (by omega)]; exact q)
theorem op_pow : OpR X (binaryOp .Pow) (rI CPow fun i j => .int (i ^ j.toNat)) := opI fun _ _ _ _ _ _ _ hc q => pow_int_small hc.1 hc.2.1 hc.2.2 q
theorem unI {f : Value → Sem Value} {g : Int → Int}
    (rule : ∀ (i : Int) (t : Tok) (s : Shared) (Q : Value → Shared → Prop) (E : Value → Shared → Prop), Q (.int (g i) s.toks) { s with toks := s.toks + 1 } → wpAny (model X.prog X.w) X.A (f (.int i t)) Q E s) :
    UnR X f (rU fun i => .int (g i)) := by
  intro pins s σ H x v Q I rx h
  obtain ⟨i, rfl, q⟩ := h
  obtain ⟨t, rfl⟩ := rx
  exact rule i t s _ _ ⟨.int (g i), H, I.tok _, ⟨_, rfl⟩, q⟩
theorem un_neg : UnR X (unaryOp .USub) (rU fun i => .int (-i)) := unI fun _ _ _ _ _ q => neg_int q
end

/-- the scalars that == tells apart as data does -/
def scal : V → V → Bool
  | .non, .non => true | .non, .int _ => true | .int _, .non => true | .non, .bl _ => true | .bl _, .non => true | .non, .str _ => true | .str _, .non => true
  | .int _, .int _ => true | .bl _, .bl _ => true | .str _, .str _ => true | .byt _, .byt _ => true
  | .int _, .str _ => true | .str _, .int _ => true | .bl _, .str _ => true | .str _, .bl _ => true
  | _, _ => false
def rEq : R2 := fun x y H Q => scal x y = true ∧ Q (.bl (decide (x = y))) H
theorem dec_int {i j : Int} : decide (V.int i = V.int j) = (i == j) := by
  rw [Bool.eq_iff_iff]
  simp
theorem dec_bl {i j : Bool} : decide (V.bl i = V.bl j) = (i == j) := by
  rw [Bool.eq_iff_iff]
  simp
theorem dec_str {i j : Str} : decide (V.str i = V.str j) = (i == j) := by
  rw [Bool.eq_iff_iff]
  simp
theorem dec_byt {i j : Array UInt8} : decide (V.byt i = V.byt j) = (i.toList == j.toList) := by
  rw [Bool.eq_iff_iff]
  cases i
  cases j
  simp

section
variable {X : Cx} {a b c : Expr} {ta tb tc : TE} {pos : Pos}
theorem fin_bl {pins : List (Addr × Obj)} {σ : St} {H : Hp} {s : Shared} {Q : VK} {k k' : Bool} (I : Inv X pins σ H s) (q : Q (.bl k) H) (e : k = k') : EP X pins σ Q (.bool k') s := by
  subst e
  exact ⟨.bl k, H, I, rfl, q⟩
theorem op_eq : OpR X (compareOp .Eq) rEq := by
  intro pins s σ H x y v u Q I rx ry h
  obtain ⟨hs, q⟩ := h
  cases x with
  | non =>
    cases rx
    cases y with
    | non => cases ry; exact PySem.EqNone.eq_none_none (fin_bl I q (by simp))
    | bl j => cases ry; exact PySem.EqNone.eq_none_bool (fin_bl I q (by simp))
    | int j => obtain ⟨t', rfl⟩ := ry; exact PySem.EqNone.eq_none_int (fin_bl I q (by simp))
    | str j => obtain ⟨t', rfl⟩ := ry; exact PySem.EqNone.eq_none_str (fin_bl I q (by simp))
    | _ => exact absurd (show false = true from hs) Bool.false_ne_true
  | bl i =>
    cases rx
    cases y with
    | non => cases ry; exact PySem.EqNone.eq_bool_none (fin_bl I q (by simp))
    | bl j => cases ry; exact eq_bool (fin_bl I q dec_bl)
    | str j => obtain ⟨t', rfl⟩ := ry; exact PySem.EqMixed.eq_bool_str (fin_bl I q (by simp))
    | _ => exact absurd (show false = true from hs) Bool.false_ne_true
  | int i =>
    obtain ⟨t, rfl⟩ := rx
    cases y with
    | non => cases ry; exact PySem.EqNone.eq_int_none (fin_bl I q (by simp))
    | int j => obtain ⟨t', rfl⟩ := ry; exact eq_int (fin_bl I q dec_int)
    | str j => obtain ⟨t', rfl⟩ := ry; exact PySem.EqMixed.eq_int_str (fin_bl I q (by simp))
    | _ => exact absurd (show false = true from hs) Bool.false_ne_true
  | str i =>
    obtain ⟨t, rfl⟩ := rx
    cases y with
    | non => cases ry; exact PySem.EqNone.eq_str_none (fin_bl I q (by simp))
    | bl j => cases ry; exact PySem.EqMixed.eq_str_bool (fin_bl I q (by simp))
    | int j => obtain ⟨t', rfl⟩ := ry; exact PySem.EqMixed.eq_str_int (fin_bl I q (by simp))
    | str j => obtain ⟨t', rfl⟩ := ry; exact eq_str (fin_bl I q dec_str)
    | _ => exact absurd (show false = true from hs) Bool.false_ne_true
  | byt i =>
    obtain ⟨t, rfl⟩ := rx
    cases y with
    | byt j => obtain ⟨t', rfl⟩ := ry; exact PySem.W.eq_bytes (fin_bl I q dec_byt)
    | _ => exact absurd (show false = true from hs) Bool.false_ne_true
  | _ => cases y <;> exact absurd (show false = true from hs) Bool.false_ne_true
/-- two rules for one operation: by cases -/
theorem OpR.or {f : Value → Value → Sem Value} {r r' : R2} (h : OpR X f r) (h' : OpR X f r') : OpR X f (fun x y H Q => r x y H Q ∨ r' x y H Q) := by
  intro pins s σ H x y v u Q I rx ry q
  rcases q with q | q
  · exact h pins s σ H x y v u Q I rx ry q
  · exact h' pins s σ H x y v u Q I rx ry q

theorem nomark (b : Expr) {op : CmpOp} (h : op ≠ .In := by decide) (h2 : op ≠ .NotIn := by decide) : behindInMarks op b = false := by
  have e1 : (op == CmpOp.In) = false := by cases op <;> first | rfl | exact absurd rfl h
  have e2 : (op == CmpOp.NotIn) = false := by cases op <;> first | rfl | exact absurd rfl h2
  cases b <;> simp [behindInMarks, e1, e2]
/-- a comparison as a value; hm: nomark b, or (for in, not in) by with_unfolding_all rfl -/
theorem pe_cmpR {op : CmpOp} {r : R2} (ho : OpR X (compareOp op) r) (ha : PE X a ta) (hb : PE X b tb) (hm : behindInMarks op b = false) : PE X (.Compare a [op] [b] pos) (tOp r ta tb) := by
  intro pins s σ H Q I h
  exact wpAny_Compare1 (binT ha hb I h fun v u s2 x y H2 I2 rx ry q => ho pins s2 σ H2 x y v u Q I2 rx ry q) hm
/-- a reading of a value as a test -/
def tTest (t : TE) : TT := fun σ H Q => t σ H fun x H' => ∃ k, x = .bl k ∧ Q k H'
theorem pt_cmpR {op : CmpOp} {r : R2} (ho : OpR X (compareOp op) r) (ha : PE X a ta) (hb : PE X b tb) (hm : behindInMarks op b = false) : PT X (.Compare a [op] [b] pos) (tTest (tOp r ta tb)) := by
  intro pins s σ H Q I h
  refine wpAny_isTrue_Compare1 (thn (ha pins s σ H _ I h) fun v s1 ⟨x, H1, I1, r1, q1⟩ => thn (hb pins s1 σ H1 _ I1 q1) fun u s2 ⟨y, H2, I2, r2, q2⟩ =>
    thn (ho pins s2 σ H2 x y v u _ I2 r1 r2 q2) fun c s3 ⟨z, H3, I3, r3, k, e, q3⟩ => ?_) hm
  subst e
  cases r3
  exact wpAny_truthy_bool ⟨H3, I3, q3⟩
theorem line63 : (sizeLine : Nat) < 2 ^ 63 := by rw [sizeLine_eq]; decide
theorem vals1 {x : V} {us : List Value} (r : Vals [x] us) : ∃ u, us = [u] ∧ RelV x u := by
  cases r with
  | cons r1 r2 => cases r2; exact ⟨_, rfl, r1⟩
end
end L2

namespace L2
open PySem PySem.Spec PyProof.Rows

structure ObjM (h : Heap) (x dx C : Addr) (mA : Str → Option Value) : Prop where
  obj : h.get? x = some (PySem.W.instObj C dx)
  ns : h.Ns1 dx mA
  ne : dx ≠ x

theorem lookIn_ns {h : Heap} {dx : Addr} {mA : Str → Option Value} (n : h.Ns1 dx mA) : ∃ od, h.get? dx = some od ∧ ∀ name, PySem.W.lookIn name od = some (mA name) := by
  obtain ⟨o, es, ep, ho, hd, hk, _, hm⟩ := n
  refine ⟨o, ho, fun name => ?_⟩
  have e := hm name
  unfold nsFind findBy at e
  rw [← Array.find?_toList] at e
  unfold PySem.W.lookIn
  rw [hd]
  dsimp only
  split
  · rename_i y q
    rw [q] at e
    exact congrArg some e
  · rename_i q
    rw [q] at e
    have a : es.toList.any (·.refKey) = false := by
      rw [List.any_eq_false]
      intro y hy
      obtain ⟨z, t, hkey⟩ := hk y (Array.mem_toList_iff.mp hy)
      simp [DictEntry.refKey, hkey]
    have a' : ¬ es.toList.any (·.refKey) = true := by rw [a]; exact Bool.false_ne_true
    rw [if_neg a']
    exact congrArg some e

theorem ObjM.look {h : Heap} {x dx C : Addr} {mA : Str → Option Value} (I : ObjM h x dx C mA) : ∃ od, PySem.W.InstAt h x (PySem.W.instObj C dx) C (some od) ∧ ∀ name, PySem.W.lookIn name od = some (mA name) :=
  let ⟨od, ho, hl⟩ := lookIn_ns I.ns
  ⟨od, ⟨I.obj, rfl, rfl, ho⟩, hl⟩

section
variable {prog : Program} {w : World} {A : Around} {E : Value → Shared → Prop} {s : Shared} {K : PySem.W.Frag} {x dx C f : Addr} {mA : Str → Option Value} {name : Str} {v : Value}

end

theorem RelO.some_of {v : V} {o : Option Value} (r : RelO (some v) o) : ∃ u, o = some u ∧ RelV v u := by
  cases o with
  | none => exact (show False from r).elim
  | some u => exact ⟨u, rfl, r⟩
theorem handed_of {v : V} {u : Value} (r : RelV v u) : PySem.W.handedIn u = true := by
  cases v with
  | non => cases (show u = Value.none from r); rfl
  | bl b => cases (show u = Value.bool b from r); rfl
  | int i => obtain ⟨t, e⟩ := (show ∃ t, u = Value.int i t from r); cases e; rfl
  | str x => obtain ⟨t, e⟩ := (show ∃ t, u = Value.str x t from r); cases e; rfl
  | byt b => obtain ⟨t, e⟩ := (show ∃ t, u = Value.bytes b t from r); cases e; rfl
  | flt b => obtain ⟨t, e⟩ := (show ∃ t, u = Value.float b t from r); cases e; rfl
  | ref a => cases (show u = Value.ref a from r); rfl
  | ty n => cases (show u = Value.type n from r); rfl

section
variable {P : Program} {w : World} {H H' : Hp} {h h' : Heap} {a C dx : Addr} {fs fs' : List (Str × V)}
end

structure Cls (K : PySem.W.Frag) (C : Addr) : Prop where
  pg : PySem.W.plainGet K C Str.empty = true
  hd : PySem.W.hasDictIn K C = true
  po : PySem.W.plainOver K C = true
  sa : PySem.W.findIn K (.ref C) "__setattr__" = some (some (.builtin "object.__setattr__"))
theorem Cls.get {K : PySem.W.Frag} {C : Addr} (c : Cls K C) (f : Str) : PySem.W.plainGet K C f = true := c.pg
/-- no class of it has the name -/
def NoAttr (K : PySem.W.Frag) (C : Addr) (f : Str) : Prop := PySem.W.findIn K (.ref C) f = some none
theorem NoAttr.taker {K : PySem.W.Frag} {C : Addr} {f : Str} (n : NoAttr K C f) : PySem.W.takerIn K C f = some none := by
  unfold PySem.W.takerIn
  rw [show PySem.W.findIn K (.ref C) f = some none from n]
  rfl
/-- a constant of the class -/
structure Con (K : PySem.W.Frag) (C : Addr) (f : Str) (v : V) (u : Value) : Prop where
  at_ : PySem.W.findIn K (.ref C) f = some (some u)
  rel : RelV v u
  get : PySem.W.specialIn K u "__get__" = some none
  cp : PySem.W.copiedNames.contains f = false
/-- a method: a plain def of the class or of one above it -/
structure Meth (K : PySem.W.Frag) (C : Addr) (m : Str) (f : Addr) : Prop where
  at_ : PySem.W.findIn K (.ref C) m = some (some (.ref f))
  fn : PySem.W.isFn K (.ref f) = true
  kp : PySem.W.keepIn K (.ref f) = true

section
variable {X : Cx} {pins : List (Addr × Obj)} {σ : St} {H : Hp} {s : Shared} {a C dx : Addr} {fs : List (Str × V)} {f : Str} {v : V} {A : Around} {E : Value → Shared → Prop}

/-- a new instance, tracked, without attributes -/
theorem Inv.made (I : Inv X pins σ H s) : Inv X pins σ (upd (upd H s.heap.objs.size (.own (s.heap.objs.size + 1))) (s.heap.objs.size + 1) (.ins C s.heap.objs.size []))
    { s with heap := (s.heap.push PySem.W.emptyDict).push (PySem.W.instObj C s.heap.objs.size) } := by
  have e1 : (s.heap.push PySem.W.emptyDict).get? s.heap.objs.size = some PySem.W.emptyDict := Heap.get?_push_size s.heap rfl
  have e2 : ((s.heap.push PySem.W.emptyDict).push (PySem.W.instObj C s.heap.objs.size)).get? (s.heap.objs.size + 1) = some (PySem.W.instObj C s.heap.objs.size) := by
    have := Heap.get?_push_size (s.heap.push PySem.W.emptyDict) (o := PySem.W.instObj C s.heap.objs.size) rfl
    rwa [Heap.size_push] at this
  have e3 : (s.heap.push PySem.W.emptyDict).Ns s.heap.objs.size (fun _ => none) := ⟨PySem.W.emptyDict, #[], _, e1, rfl, (fun e he => absurd he (by simp)), fun _ => rfl⟩
  have I1 := I.laid (a := s.heap.objs.size) (o := .own (s.heap.objs.size + 1)) (h' := s.heap.push PySem.W.emptyDict) (t' := s.toks) (fun b u q => Heap.get?_push_of_some _ q) (Nat.le_refl _) ⟨_, e1⟩
  refine I1.laid (a := s.heap.objs.size + 1) (o := .ins C s.heap.objs.size []) (t' := s.toks) (fun b u q => Heap.get?_push_of_some _ q) (Nat.le_of_eq (Heap.size_push _ _)) ?_
  have ne : s.heap.objs.size ≠ s.heap.objs.size + 1 := Nat.ne_of_lt (Nat.lt_succ_self _)
  refine ⟨by rw [upd_ne ne, upd_same], Nat.zero_le _, ne, e2, fun _ => none, (Heap.Ns1.of_empty e3).at fun o q => Heap.get?_push_of_some _ q, fun _ => True.intro, fun y hy => absurd rfl hy⟩

/-- e.f where nothing but the object is asked: through attributeBase (super) and the last hold -/
theorem attr_of {prog : Program} {w : World} {env : Env} {e : Expr} {f : Str} {pos : Pos} {s : Shared} {Q : Value → Shared → Prop} (hb : attributeBase e f env (eval e env) = eval e env)
    (h : wpAny (model prog w) A (eval e env) (fun o s₁ => wpAny (model prog w) A (getAttr o f true) Q E s₁) E s) : wpAny (model prog w) A (eval (.Attribute e f pos) env) Q E s :=
  Attribute_any_ h (by rw [arm_eval_Attribute, hb])
end

section
variable {X : Cx} {o e value : Expr} {f : Str} {pos pos' tpos : Pos} {ta tv : TE}
end

section
variable {X : Cx} {pins : List (Addr × Obj)} {σ : St} {H : Hp} {s : Shared} {A : Around} {E : Value → Shared → Prop} {Q : Value → Shared → Prop} {c : Value} {b : Bool}
/-- the type of a value, as the fragment's deciders take it; for an instance its class -/
inductive TyOf (K : PySem.W.Frag) (H : Hp) : V → Value → Prop where
  | non : TyOf K H .non (.type "NoneType")
  | bl (x : Bool) : TyOf K H (.bl x) (.type "bool")
  | int (i : Int) : TyOf K H (.int i) (.type "int")
  | str (x : Str) : TyOf K H (.str x) (.type "str")
  | flt (x : UInt64) : TyOf K H (.flt x) (.type "float")
  | lst {a : Addr} {xs : List V} (e : H a = some (.lst xs)) : TyOf K H (.ref a) (.type "list")
  | frz {a : Addr} {o : Obj} {xs : List V} (e : H a = some (.frz o (.lst xs))) : TyOf K H (.ref a) (.type "list")
  | tup {a : Addr} {xs : List V} (e : H a = some (.tup xs)) : TyOf K H (.ref a) (.type "tuple")
  | dK {a : Addr} {kvs : List (Key × V)} (e : H a = some (.dK kvs)) : TyOf K H (.ref a) (.type "dict")
  | dT {a : Addr} {kvs : List (List Key × V)} (e : H a = some (.dT kvs)) : TyOf K H (.ref a) (.type "dict")
  | ins {a C dx : Addr} {fs : List (Str × V)} (e : H a = some (.ins C dx fs)) (cl : Cls K C) (ha : PySem.W.findIn K (.ref C) "__class__" = some (some (.builtin "object.__class__")))
      (hn : PySem.W.specialIn K (.builtin "object.__class__") "__get__" = some (some (.builtin "getset_descriptor.__get__"))) (htk : PySem.W.takesIn K (.builtin "object.__class__") = some true)
      (hm : PySem.W.mroIn K C (.type "object") = some true) : TyOf K H (.ref a) (.ref C)
end
end L2

namespace L2
open PySem PySem.Spec PyProof.Rows

structure Room (k : Nat) (A : Around) : Prop where
  hd : A.handled = none
  dp : A.depth + 3 * k + 5 < recursionLimit
  un : A.units + 16 * k + 200 < cLine
theorem Room.mono {j k : Nat} {A : Around} (r : Room k A) (h : j ≤ k) : Room j A := ⟨r.hd, by have := r.dp; omega, by have := r.un; omega⟩
theorem Room.deeper {k : Nat} {A : Around} (r : Room (k + 1) A) (env : Env) : Room k (A.deeper env) :=
  ⟨r.hd, by have := r.dp; show A.depth + 1 + 3 * k + 5 < _; omega, by have := r.un; show A.units + 3 + 16 * k + 200 < _; omega⟩
theorem Room.in1 {k : Nat} {A : Around} (r : Room (k + 1) A) : Room k A.in1 :=
  ⟨r.hd, by have := r.dp; show A.depth + 3 * k + 5 < _; omega, by have := r.un; show A.units + 1 + 16 * k + 200 < _; omega⟩
theorem make_depth {A : Around} {C : Addr} {us : List Value} {kw : List (Str × Value)} : (A.under (.builtin "type.__call__" ⟨.ref C :: us, kw⟩)).depth = A.depth + 1 := by
  first | rfl | simp [Around.under, Code.weight, Code.isCreation, Code.isGuard, Code.isCaller, Code.frames, Code.isFrame, guardIds]
theorem make_units {A : Around} {C : Addr} {us : List Value} {kw : List (Str × Value)} : (A.under (.builtin "type.__call__" ⟨.ref C :: us, kw⟩)).units = A.units + 1 := by
  first | rfl | simp [Around.under, Code.cUnits, Code.frames, Code.isFrame]
theorem Room.make {k : Nat} {A : Around} (r : Room (k + 1) A) (C : Addr) (us : List Value) (kw : List (Str × Value)) : Room k (A.under (.builtin "type.__call__" ⟨.ref C :: us, kw⟩)) :=
  ⟨r.hd, by have := r.dp; rw [make_depth]; omega, by have := r.un; rw [make_units]; omega⟩
theorem Room.depth {k : Nat} {A : Around} (r : Room k A) : A.depth < recursionLimit := by have := r.dp; omega
theorem Room.units {k : Nat} {A : Around} (r : Room k A) : A.units + 64 < cLine := by have := r.un; omega
def tNil : TA := fun _ H Q => Q [] H
def tCons (ta : TE) (tr : TA) : TA := fun σ H Q => ta σ H fun x H1 => tr σ H1 fun xs H2 => Q (x :: xs) H2
section
variable {X : Cx} {e : Expr} {es : List Expr} {te : TE} {t : TA} {pos : Pos}
theorem pa_nil : PA X [] tNil := fun _ _ _ _ H Q I h => Calls.spliced_nil ⟨[], H, I, .nil, h⟩
theorem pa_cons (ha : PE X e te) (hr : PA X es t) (hs : starEach (e :: es) X.env = (false, eval e X.env) :: starEach es X.env := by rfl) : PA X (e :: es) (tCons te t) := by
  intro pos pins s σ H Q I h
  rw [hs]
  show wpAny _ _ (spliced ((false, eval e X.env) :: backTo pos (starEach es X.env))) _ _ s
  refine Calls.spliced_cons (thn (ha pins s σ H _ I h) fun u s1 ⟨x, H1, I1, r1, q1⟩ => ?_)
  exact thn (hr pos pins s1 σ H1 _ I1 q1) fun us s2 ⟨xs, H2, I2, r2, q2⟩ => ⟨x :: xs, H2, I2, .cons r1 r2, q2⟩

/-- a tuple, a list of written items -/
def tTup (t : TA) : TE := fun σ H Q => t σ H fun xs H1 => xs.length ≤ sizeLine ∧ ∀ p, H1 p = none → Q (.ref p) (upd H1 p (.tup xs))
def tLst (t : TA) : TE := fun σ H Q => t σ H fun xs H1 => xs.length ≤ sizeLine ∧ ∀ p, H1 p = none → Q (.ref p) (upd H1 p (.lst xs))
theorem pe_tup {x1} (h : PA X es t) : PE X (.Tuple es x1 pos) (tTup t) := by
  intro pins s σ H Q I hq
  refine wpAny_Tuple_spliced (thn (h pos pins s σ H _ I hq) fun us s1 ⟨xs, H1, I1, r, z, q⟩ => ⟨by rw [← r.length]; exact z, ?_⟩)
  have hf : H1 s1.heap.objs.size = none := I1.hok.fresh (Nat.le_refl _)
  refine ⟨.ref s1.heap.objs.size, upd H1 s1.heap.objs.size (.tup xs), I1.laid (t' := s1.toks) (fun b u e => Heap.get?_push_of_some _ e) (Nat.le_refl _) ?_, rfl, q _ hf⟩
  exact ⟨z, us, r, ⟨_, Heap.get?_push_size _ rfl, rfl, rfl, _, rfl⟩⟩
theorem pe_lst (h : PA X es t) : PE X (.List es pos) (tLst t) := by
  intro pins s σ H Q I hq
  refine wpAny_List_spliced (thn (h pos pins s σ H _ I hq) fun us s1 ⟨xs, H1, I1, r, z, q⟩ => ⟨by rw [← r.length]; exact z, ?_⟩)
  have hf : H1 s1.heap.objs.size = none := I1.hok.fresh (Nat.le_refl _)
  refine ⟨.ref s1.heap.objs.size, upd H1 s1.heap.objs.size (.lst xs), I1.laid (t' := s1.toks) (fun b u e => Heap.get?_push_of_some _ e) (Nat.le_refl _) ?_, rfl, q _ hf⟩
  exact ⟨z, us, 0, r, Heap.get?_push_size _ rfl⟩
end

/-- a def's promise: the bound arguments in the parameters' order, the heap, the wanted end, the wanted exception -/
abbrev Sp := List V → Hp → VK → XK → Prop
/-- how an exception lies behind a call (file 08 gives it): the callers' frames, abstract heap and state ahead of the call, the wish, the exception, the state -/
abbrev CXT := List Env → Hp → Shared → XK → Value → Shared → Prop

/-- the state at a call -/
structure Env0 (P : Program) (w : World) (K : PySem.W.Frag) (mg : Str → Option Value) (base : Heap) (A : Around) (outer : List Env) (s : Shared) (H : Hp) : Prop where
  frames : A.frames = some outer
  mod : Mod K mg base
  bs : ∀ b o, base.get? b = some o → s.heap.get? b = some o ∧ H b = none
  bsz : base.objs.size ≤ s.heap.objs.size
  funs : s.heap.FunFrames base outer
  frf : ∀ b ∈ frs outer, H b = none
  hok : HOk P w H s.heap
  bare : AllBare s.gens
/-- a call's end -/
def CE (outer : List Env) (P : Program) (w : World) (H : Hp) (s : Shared) (Q : VK) (u : Value) (s' : Shared) : Prop :=
  ∃ v H', s'.os = s.os ∧ AllBare s'.gens ∧ Un (frs outer) [] H H' s.heap s'.heap ∧ HOk P w H' s'.heap ∧ RelV v u ∧ Q v H'
def CR (CX : CXT) (outer : List Env) (P : Program) (w : World) (H : Hp) (s : Shared) (Q : VK) (E : XK) (r : Result) (s' : Shared) : Prop :=
  match r with
  | .ok (.ret u) => CE outer P w H s Q u s'
  | .ok _ => False
  | .error e => CX outer H s E e s'
structure FnOk (P : Program) (w : World) (K : PySem.W.Frag) (mg : Str → Option Value) (base : Heap) (CX : CXT) (k : Nat) (f : Addr) (fd : FuncData) (ps : List Str) (sp : Sp) : Prop where
  len : ∀ vs H Q E, sp vs H Q E → vs.length = ps.length
  run : ∀ (A : Around) (outer : List Env) (s : Shared) (H : Hp) (args : Args) (us : List Value) (vs : List V) (Q : VK) (E : XK), Room k A → Env0 P w K mg base A outer s H → BindsTo s fd args (ps.zip us) → Vals vs us → sp vs H Q E →
    codeAny (model P w) A (.call (.ref f) args) (CR CX outer P w H s Q E) s
theorem FnOk.mono {P : Program} {w : World} {K : PySem.W.Frag} {mg : Str → Option Value} {base : Heap} {CX : CXT} {j k : Nat} {f : Addr} {fd : FuncData} {ps : List Str} {sp : Sp} (F : FnOk P w K mg base CX j f fd ps sp) (h : j ≤ k) :
    FnOk P w K mg base CX k f fd ps sp := ⟨F.len, fun A outer s H args us vs Q E hr => F.run A outer s H args us vs Q E (hr.mono h)⟩
theorem Env0.make {P : Program} {w : World} {K : PySem.W.Frag} {mg : Str → Option Value} {base : Heap} {A : Around} {outer : List Env} {s : Shared} {H : Hp} (e : Env0 P w K mg base A outer s H) (C : Addr) (us : List Value) (kw : List (Str × Value)) :
    Env0 P w K mg base (A.under (.builtin "type.__call__" ⟨.ref C :: us, kw⟩)) outer s H := ⟨by first | exact e.frames | (simpa [Around.under, Code.envs, Code.isFrame, pushEnvs] using e.frames), e.mod, e.bs, e.bsz, e.funs, e.frf, e.hok, e.bare⟩
theorem Env0.in1 {P : Program} {w : World} {K : PySem.W.Frag} {mg : Str → Option Value} {base : Heap} {A : Around} {outer : List Env} {s : Shared} {H : Hp} (e : Env0 P w K mg base A outer s H) :
    Env0 P w K mg base A.in1 outer s H := ⟨e.frames, e.mod, e.bs, e.bsz, e.funs, e.frf, e.hok, e.bare⟩

section
variable {X : Cx} {pins : List (Addr × Obj)} {σ : St} {H : Hp} {s s' : Shared}
/-- from a body: what a callee wants -/
theorem Inv.env0 (I : Inv X pins σ H s) : Env0 X.prog X.w X.K X.mg X.base X.A X.stack s H :=
  ⟨I.ok.frames, I.ok.mod, I.bs, Nat.le_trans I.ok.bsz I.sz, I.stack, I.stkFree, I.hok, I.bare⟩
/-- behind a call -/
theorem Inv.after {Q : VK} {u : Value} (I : Inv X pins σ H s) (h : CE X.stack X.prog X.w H s Q u s') : EP X pins σ Q u s' := by
  obtain ⟨v, H', os, bare, un, hok, r, q⟩ := h
  obtain ⟨hh, g, d, t, os'⟩ := s'
  obtain rfl : os' = s.os := os
  exact ⟨v, H', I.call (h' := hh) (g' := g) (d' := d) (t' := t) (ch := []) un hok bare (fun b z => absurd z (by simp)), r, q⟩
end

/-- f(..): the written arguments, then the defaults dvs; E: what is wanted of an exception -/
def tCall (sp : Sp) (dvs : List V) (E : XK) (t : TA) : TE := fun σ H Q => t σ H fun vs H1 => sp (vs ++ dvs) H1 Q E
/-- how the parameters are bound: us the positional arguments, kw the keywords' values by name, ds the defaults that fill up -/
def Binds (K : PySem.W.Frag) (fd : FuncData) (ps : List Str) (ds : List Value) : Prop :=
  ∀ (s : Shared) (us : List Value), K.In s.heap → (us ++ ds).length = ps.length → BindsTo s fd ⟨us, []⟩ (ps.zip (us ++ ds))
/-- every parameter is given -/
theorem Binds.all {K : PySem.W.Frag} {fd : FuncData} {ps : List Str} (h : ∀ us : List Value, us.length = ps.length → bindArgs fd ⟨us, []⟩ = pure (ps.zip us)) : Binds K fd ps [] := fun s us _ hl => by
  rw [List.append_nil] at hl ⊢
  exact .of_eq (h us hl)

/-- an exception of a callee reaches what this body wants of exceptions -/
def Passes (CX : CXT) (X : Cx) (E : XK) : Prop := ∀ (pins : List (Addr × Obj)) (σ : St) (H : Hp) (s : Shared) (e : Value) (s' : Shared), Inv X pins σ H s → CX X.stack H s E e s' → X.xe e s'

section
variable {X : Cx} {CX : CXT} {k : Nat} {f C : Addr} {fd : FuncData} {ps : List Str} {sp : Sp} {dvs : List V} {ds : List Value} {E : XK} {x m : Str} {p pos apos : Pos} {e o : Expr} {es : List Expr} {ta : TE} {t : TA}

/-- the callee runs -/
theorem run_fn {pins : List (Addr × Obj)} {σ : St} {H : Hp} {s : Shared} {Q : VK} {us : List Value} {vs : List V} (F : FnOk X.prog X.w X.K X.mg X.base CX k f fd ps sp) (hr : Room k X.A) (hb : Binds X.K fd ps ds) (hd : Vals dvs ds) (hx : Passes CX X E)
    (I : Inv X pins σ H s) (r : Vals vs us) (h : sp (vs ++ dvs) H Q E) : wpAny (model X.prog X.w) X.A (call (.ref f) us) (EP X pins σ Q) X.xe s := by
  have r2 : Vals (vs ++ dvs) (us ++ ds) := r.append hd
  have hl : (us ++ ds).length = ps.length := by rw [← r2.length]; exact F.len _ _ _ _ h
  refine wpAny_call (codeAny_mono (F.run X.A X.stack s H ⟨us, []⟩ (us ++ ds) (vs ++ dvs) Q E hr I.env0 (hb s us I.kIn hl) r2 h) fun r s' hq => ?_)
  cases r with
  | error e => exact hx pins σ H s e s' I hq
  | ok fl =>
    cases fl with
    | ret u => exact I.after hq
    | next => exact False.elim hq
    | brk => exact False.elim hq
    | cont => exact False.elim hq

theorem pe_call (F : FnOk X.prog X.w X.K X.mg X.base CX k f fd ps sp) (hr : Room k X.A) (hg : Gl X x) (hm : X.mg x = some (.ref f)) (hk : PySem.W.keepIn X.K (.ref f) = true) (hb : Binds X.K fd ps ds) (hd : Vals dvs ds) (hx : Passes CX X E)
    (ha : PA X (e :: es) t) (hdb : (x == ("__debug__" : Str)) = false := by decide) (he : starEach (e :: es) X.env = (false, eval e X.env) :: starEach es X.env := by rfl) (hpl : (backTo pos (starEach es X.env)).any (·.1) = false := by rfl) :
    PE X (.Call (.Name x p) (e :: es) [] pos) (tCall sp dvs E t) := by
  intro pins s σ H Q I h
  refine wpAny_Call_Name_kw (ld_glob I hg hm ?_ hdb)
  refine PySem.W.callWith_K (h₀ := X.base) I.ok.mod.kin hk (thn (ha pos pins s σ H _ I h) fun us s1 ⟨vs, H1, I1, r, q⟩ => ⟨I1.kIn, ?_⟩) he hpl
  exact run_fn F hr hb hd hx I1 r q
/-- what a class must have to be made -/
structure Mk (K : PySem.W.Frag) (C f : Addr) : Prop where
  makes : PySem.W.makesIn K C = true
  init : PySem.W.findIn K (.ref C) "__init__" = some (some (.ref f))
  fn : PySem.W.isFn K (.ref f) = true
  kp : PySem.W.keepIn K (.ref C) = true

end

section
variable {X : Cx} {CX : CXT} {k : Nat} {f C : Addr} {fd : FuncData} {ps ks : List Str} {sp : Sp} {E : XK} {x m : Str} {p pos apos kpos : Pos} {e o : Expr} {es : List Expr} {kws : List Keyword} {te ta : TE} {t tk : TA} {nm : Option Str}
/-- how a call with keywords binds: g puts the positional values us and the keywords' values ws (names ks) in the parameters' order, defaults among them -/
structure KBinds (K : PySem.W.Frag) (fd : FuncData) (ps ks : List Str) (g : List Value → List Value → List Value) (gV : List V → List V → List V) : Prop where
  to : ∀ (s : Shared) (us ws : List Value), K.In s.heap → (g us ws).length = ps.length → BindsTo s fd ⟨us, ks.zip ws⟩ (ps.zip (g us ws))
  rel : ∀ {vs : List V} {us : List Value} {zs : List V} {ws : List Value}, Vals vs us → Vals zs ws → Vals (gV vs zs) (g us ws)
variable {g : List Value → List Value → List Value} {gV : List V → List V → List V}
end

/-- names: the parameters first -/
structure FnScope (N P : List Str) (sc : Scope) : Prop where
  kind : sc.kind = .function
  co : sc.isCoroutine = false
  gen : sc.isGenerator = false
  nd : N.Nodup
  pre : N.take P.length = P
  par : ∀ x ∈ P, sc.names.lookup x = some .local ∨ sc.names.lookup x = some .cell
  nofree : ∀ y ∈ sc.names, y.2 ≠ .free

theorem bindL_out {kindOf : Str → Option NameKind} {x : Str} : ∀ {binds : List (Str × Value)} {m : Str → Option Value}, (∀ v, (x, v) ∉ binds) → bindL kindOf binds m x = m x
  | [], _, _ => rfl
  | (n, v) :: r, m, h => by
    unfold bindL
    rw [bindL_out fun w hw => h w (List.mem_cons_of_mem _ hw)]
    split
    · have : x ≠ n := by rintro rfl; exact h v List.mem_cons_self
      simp [this]
    · rfl
theorem bindC_out {kindOf : Str → Option NameKind} {x : Str} : ∀ {binds : List (Str × Value)} {m : Str → Option Value}, (∀ v, (x, v) ∉ binds) → bindC kindOf binds m x = m x
  | [], _, _ => rfl
  | (n, v) :: r, m, h => by
    unfold bindC
    rw [bindC_out fun w hw => h w (List.mem_cons_of_mem _ hw)]
    split
    · rfl
    · have : x ≠ n := by rintro rfl; exact h v List.mem_cons_self
      simp [this]
theorem bindL_get {kindOf : Str → Option NameKind} {x : Str} {v : Value} : ∀ {P : List Str} {vs : List Value} {i : Nat} {m : Str → Option Value}, P.Nodup → P[i]? = some x → vs[i]? = some v → kindOf x = some .local →
    bindL kindOf (P.zip vs) m x = some v
  | [], _, _, _, _, h, _, _ => by simp at h
  | _ :: _, [], _, _, _, _, h, _ => by simp at h
  | p :: P, w :: vs, 0, m, nd, h1, h2, hk => by
    simp at h1 h2; subst h1; subst h2
    show bindL kindOf ((p, w) :: P.zip vs) m p = _
    unfold bindL
    rw [bindL_out fun v hv => (List.nodup_cons.mp nd).1 (List.of_mem_zip hv).1, if_pos hk]
    simp
  | p :: P, w :: vs, i + 1, m, nd, h1, h2, hk => by
    show bindL kindOf ((p, w) :: P.zip vs) m x = _
    unfold bindL
    exact bindL_get (i := i) (List.nodup_cons.mp nd).2 (by simpa using h1) (by simpa using h2) hk
theorem bindC_get {kindOf : Str → Option NameKind} {x : Str} {v : Value} : ∀ {P : List Str} {vs : List Value} {i : Nat} {m : Str → Option Value}, P.Nodup → P[i]? = some x → vs[i]? = some v → kindOf x ≠ some .local →
    bindC kindOf (P.zip vs) m x = some v
  | [], _, _, _, _, h, _, _ => by simp at h
  | _ :: _, [], _, _, _, _, h, _ => by simp at h
  | p :: P, w :: vs, 0, m, nd, h1, h2, hk => by
    simp at h1 h2; subst h1; subst h2
    show bindC kindOf ((p, w) :: P.zip vs) m p = _
    unfold bindC
    rw [bindC_out fun v hv => (List.nodup_cons.mp nd).1 (List.of_mem_zip hv).1, if_neg hk]
    simp
  | p :: P, w :: vs, i + 1, m, nd, h1, h2, hk => by
    show bindC kindOf ((p, w) :: P.zip vs) m x = _
    unfold bindC
    exact bindC_get (i := i) (List.nodup_cons.mp nd).2 (by simpa using h1) (by simpa using h2) hk

/-- the names' values at the entry -/
def start (N : List Str) (vs : List V) : St := vs.map some ++ List.replicate (N.length - vs.length) none

/-- the context of a def's body, at its entry; an exception leaves the frame, then lies as CX says -/
def cxOf (CX : CXT) (P : Program) (w : World) (K : PySem.W.Frag) (mg : Str → Option Value) (base : Heap) (N : List Str) (qual : Str) (scope : Scope) (f : Addr) (cd : Value) (A : Around) (outer : List Env) (s : Shared) (H : Hp) (E : XK) : Cx where
  prog := P
  w := w
  K := K
  mg := mg
  base := base
  A := A.deeper (envOfC qual scope s.heap.objs.size f cd)
  N := N
  s_0 := s
  H_0 := H
  env := envOfC qual scope s.heap.objs.size f cd
  outer := outer
  stack := envOfC qual scope s.heap.objs.size f cd :: outer
  ex := []
  calm := true
  fn := fun _ => true
  pn := []
  xe := fun e s' => wpAny (model P w) (A.deeper (envOfC qual scope s.heap.objs.size f cd)) (leaving (envOfC qual scope s.heap.objs.size f cd) e) (fun _ s'' => CX outer H s E e s'') (fun e' s'' => CX outer H s E e' s'') s'

theorem cell_has {sc : Scope} {n : Nat} {x : Str} (h : sc.names.lookup x = some .cell) : ∃ c, (cellsFrom n sc.names []).lookup x = some c := by
  have q := PySem.W.cellsFrom_some sc.names n [] (.inl h)
  exact Option.isSome_iff_exists.mp q

theorem inv_start {CX : CXT} {P : Program} {w : World} {K : PySem.W.Frag} {mg : Str → Option Value} {base : Heap} {N ps : List Str} {qual : Str} {scope : Scope} {f : Addr} {cd : Value} {A : Around} {outer : List Env} {s s1 : Shared} {H : Hp} {E : XK} {us : List Value} {vs : List V}
    (S : FnScope N ps scope) (hd : A.handled = none) (e0 : Env0 P w K mg base A outer s H) (hl : vs.length = ps.length) (r : Vals vs us)
    (x : InCallC s s.heap.objs.size (bindL (envOfC qual scope s.heap.objs.size f cd).kindOf (ps.zip us) fun _ => none) (cellsFrom (s.heap.objs.size + 1) scope.names []) (bindC (envOfC qual scope s.heap.objs.size f cd).kindOf (ps.zip us) fun _ => none) s1) :
    Inv (cxOf CX P w K mg base N qual scope f cd A outer s H E) [] (start N vs) H s1 := by
  have hpl : ps.length ≤ N.length := by have := congrArg List.length S.pre; rw [List.length_take] at this; omega
  obtain ⟨h1, tk, rfl, hk⟩ := x.done
  have noA : ∀ b : Addr, b ∉ (cxOf CX P w K mg base N qual scope f cd A outer s H E).ex := fun b z => absurd (show b ∈ ([] : List Addr) from z) (by simp)
  refine ⟨⟨e0.mod, S.kind, rfl, rfl, Nat.le_refl _, fun y z c h1 h2 => ?_, fun y hy => ?_, fun y c _ h => ?_, fun _ => hd, Around.frames_deeper e0.frames, .inr ⟨rfl, rfl⟩, fun b z => absurd z (noA b), e0.bs, e0.bsz, fun b _ _ => noA b, fun b z => absurd z (noA b), e0.funs, e0.frf⟩,
    rfl, e0.bare, Un.kept hk, ⟨_, x.toInCall.ns, fun i y v h1 h2 h3 => ?_⟩, fun y c h => ⟨_, x.cell y c h⟩, e0.hok.fresh (Nat.le_refl _), fun y c h => ?_, fun p hp => absurd (show p ∈ ([] : List (Addr × Obj)) from hp) (by simp), e0.hok.kept hk, ?_⟩
  · exact name_of_addr x.apart (PySem.mem_of_lookup h1) (PySem.mem_of_lookup h2)
  · have hy : scope.names.lookup y = some .cell ∨ scope.names.lookup y = some .free := hy
    rcases hy with hy | hy
    · exact cell_has hy
    · exact absurd rfl (S.nofree _ (PySem.mem_of_lookup hy))
  · exact Nat.le_of_lt (x.above y c (PySem.mem_of_lookup h))
  · have hi : i < vs.length := by
      unfold start at h2
      by_cases hi : i < vs.length
      · exact hi
      · rw [List.getElem?_append_right (by simpa using hi)] at h2
        rw [List.getElem?_replicate] at h2
        split at h2 <;> cases h2
    have ha : vs[i]? = some v := by
      unfold start at h2
      rw [List.getElem?_append_left (by simpa using hi), List.getElem?_map] at h2
      cases e : vs[i]? with
      | none => rw [e] at h2; cases h2
      | some a => rw [e] at h2; cases h2; rfl
    obtain ⟨u, hu, rv⟩ := r.get ha
    have hp : ps[i]? = some y := by
      rw [← S.pre, List.getElem?_take_of_lt (by omega)]; exact h1
    have ndP : ps.Nodup := by rw [← S.pre]; exact S.nd.sublist (List.take_sublist _ _)
    refine ⟨u, rv, ?_⟩
    rcases S.par y (List.mem_of_getElem? hp) with k | k
    · exact .inl ⟨k, bindL_get ndP hp hu k⟩
    · obtain ⟨c, e⟩ := cell_has (n := s.heap.objs.size + 1) k
      refine .inr ⟨.inl k, c, e, ?_⟩
      have q := x.cell y c e
      rw [bindC_get ndP hp hu (by show scope.names.lookup y ≠ _; rw [k]; decide)] at q
      exact q
  · exact e0.hok.fresh (Nat.le_of_lt (x.above y c (PySem.mem_of_lookup h)))
  · unfold start
    show _ = N.length
    rw [List.length_append, List.length_map, List.length_replicate]
    omega

/-- THE RULE: a def (or a method) of the text, by its body. The body's reading t is chosen for each entry; it is run at the parameters' values -/
theorem fn_of {CX : CXT} {P : Program} {w : World} {K : PySem.W.Frag} {mg : Str → Option Value} {base : Heap} {k : Nat} {f : Addr} {name qual : Str} {params : Arguments} {body : List Stmt} {scope : Scope} {dV kV doc pm cdv ct oc : Value} {an od : Option Addr}
    {osl : Array (Option Value)} {N ps : List Str} {sp : Sp} (lk : K.lookup f = some ⟨oc, od, .func (PySem.W.fnOf name qual params body scope dV kV doc pm an cdv ct), osl⟩) (hcd : PySem.W.codeIn K cdv qual = true) (S : FnScope N ps scope)
    (len : ∀ vs H Q E, sp vs H Q E → vs.length = ps.length)
    (hbody : ∀ (A : Around) (outer : List Env) (s : Shared) (H : Hp) (vs : List V) (Q : VK) (E : XK), Room k (A.deeper (envOfC qual scope s.heap.objs.size f cdv)) → sp vs H Q E →
      ∃ t, PSs (cxOf CX P w K mg base N qual scope f cdv A outer s H E) body t ∧ t { nx := fun _ H' => Q .non H', rt := Q } (start N vs) H) :
    FnOk P w K mg base CX (k + 1) f (PySem.W.fnOf name qual params body scope dV kV doc pm an cdv ct) ps sp := by
  refine ⟨len, fun A outer s H args us vs Q E hr e0 hb r hsp => ?_⟩
  have hl := len _ _ _ _ hsp
  have KX : K.In s.heap := e0.mod.kin.keeps fun b o e => (e0.bs b o e).1
  have lim : s.heap.NoLimit := e0.mod.nolimit.keeps fun b o e => (e0.bs b o e).1
  have hkind : ∀ y ∈ ps.zip us, scope.names.lookup y.1 = some .local ∨ (scope.names.lookup y.1 = some .cell ∧ ((cellsFrom (s.heap.objs.size + 1) scope.names []).lookup y.1).isSome = true) := fun ⟨n, v⟩ hy => by
    rcases S.par n (List.of_mem_zip hy).1 with q | q
    · exact .inl q
    · exact .inr ⟨q, PySem.W.cellsFrom_some _ _ _ (.inl q)⟩
  refine codeAny_call_function hr.depth (KX _ _ lk) rfl S.co S.gen rfl (PySem.W.codeRec_of KX hcd) (hb _ _ _ _ ?_)
  refine wpAny_newFunctionEnv_cells S.kind hkind fun env he s1 x => ?_
  subst he
  refine ⟨lim.keeps x.toInCall.keep, codeAny_func ?_⟩
  obtain ⟨t, ht, hq⟩ := hbody A outer s H vs Q E (hr.deeper _) hsp
  have I : Inv (cxOf CX P w K mg base N qual scope f cdv A outer s H E) [] (start N vs) H s1 := inv_start S hr.hd e0 hl r x
  refine wpAny_mono (ht [] s1 (start N vs) H _ I hq) (fun fl s' hs => ?_) fun e s' hs => hs
  have fin : ∀ {σ' : St} {H' : Hp} {v : V} {u : Value}, Inv (cxOf CX P w K mg base N qual scope f cdv A outer s H E) [] σ' H' s' → RelV v u → Q v H' → CE outer P w H s Q u s' :=
    fun {σ' H' v u} J rv q => ⟨v, H', J.os, J.bare, J.base, J.hok, rv, q⟩
  cases fl with
  | ret u =>
    obtain ⟨v, σ', H', J, rv, q⟩ := hs
    exact fin J rv q
  | next =>
    obtain ⟨σ', H', J, q⟩ := hs
    exact fin (v := V.non) (u := Value.none) J rfl q
  | brk =>
    obtain ⟨_, _, _, q⟩ := hs
    exact False.elim q
  | cont =>
    obtain ⟨_, _, _, q⟩ := hs
    exact False.elim q
end L2

namespace L2
open PySem PySem.Spec PyProof.Rows
section
variable {X : Cx} {x : Str} {p pos : Pos} {e : Expr} {es : List Expr} {t : TA} {id T : String} {r : List V → Hp → VK → Prop}

def tCB (r : List V → Hp → VK → Prop) (t : TA) : TE := fun σ H Q => t σ H fun vs H1 => r vs H1 Q
/-- f(e, ..), f a built-in function -/
theorem pe_callB (hc : CallR X (.builtin id) r) (hg : Gl X x) (hm : X.mg x = none) (hv : bootBuiltins x = some (.builtin id)) (ha : PA X (e :: es) t) (hn : x ≠ "__name__" := by decide) (hdb : (x == ("__debug__" : Str)) = false := by decide)
    (he : starEach (e :: es) X.env = (false, eval e X.env) :: starEach es X.env := by rfl) (hpl : (backTo pos (starEach es X.env)).any (·.1) = false := by rfl) : PE X (.Call (.Name x p) (e :: es) [] pos) (tCB r t) := by
  intro pins s σ H Q I h
  refine wpAny_Call_Name_kw (ld_blt I hg hm hv ?_ hn hdb)
  exact PyProof.Rows.callWith_builtin1 (thn (ha pos pins s σ H _ I h) fun us s1 ⟨vs, H1, I1, r1, q1⟩ => hc pins s1 σ H1 vs us Q I1 r1 q1) he hpl
end
end L2

namespace HT
open PySem PyProof.Rows

section
open PySem.SeqAt
open PySem.AutoSeq1 (wpAny_loadPart')
open PySem.MeetsSeq PySem.MeetsSeq2 PySem.MeetsSeq3

end

section
variable {prog : Program} {w : World} {A : Around} {E : Value → Shared → Prop} {s : Shared}

end
end HT

namespace L2
open PySem PySem.Spec PyProof.Rows

abbrev TO := St → Hp → (Option Int → Hp → Prop) → Prop
section
variable {X : Cx} {e : Expr} {te : TE} {lo hi : Option Expr} {tl th : TO} {pos p2 : Pos}

/-- what a slice of a value is, by values: the slice object stands at sl -/
def SlR (X : Cx) (r : V → Option Int → Option Int → Hp → VK → Prop) : Prop :=
  ∀ (pins : List (Addr × Obj)) (s : Shared) (σ : St) (H : Hp) (x : V) (v vl vu : Value) (lo hi : Option Int) (sl : Addr) (Q : VK), Inv X pins σ H s → RelV x v → s.heap.IsSliceOf sl vl vu .none → IsPart vl lo → IsPart vu hi → r x lo hi H Q →
    ∃ T id, typeLookup (.type T) "__getitem__" = pure (some (.builtin id)) ∧ s.TypeIs v T ∧ wpAny (model X.prog X.w) X.A (getItem v (.ref sl)) (EP X pins σ Q) X.xe s
theorem SlR.or {r r' : V → Option Int → Option Int → Hp → VK → Prop} (h : SlR X r) (h' : SlR X r') : SlR X (fun x lo hi H Q => r x lo hi H Q ∨ r' x lo hi H Q) := by
  intro pins s σ H x v vl vu lo hi sl Q I rx hs pl pu q
  rcases q with q | q
  · exact h pins s σ H x v vl vu lo hi sl Q I rx hs pl pu q
  · exact h' pins s σ H x v vl vu lo hi sl Q I rx hs pl pu q
end
end L2

namespace L2
open PySem PySem.Spec PyProof.Rows

/-- the place that an index of any sign means -/
def ixN (n : Nat) (i : Int) : Option Nat := if 0 ≤ i then (if i < n then some i.toNat else none) else if -(n : Int) ≤ i then some (i + n).toNat else none
def atI {α : Type} (xs : List α) (i : Int) : Option α := (ixN xs.length i).bind fun j => xs[j]?
theorem ixN_seq {n : Nat} {i : Int} {j : Nat} (h : ixN n i = some j) : seqIndex? i n = some j ∧ j < n ∧ -(n : Int) ≤ i ∧ i < n := by
  unfold ixN at h
  by_cases h0 : 0 ≤ i
  · rw [if_pos h0] at h
    by_cases h1 : i < n
    · rw [if_pos h1] at h
      have e : i.toNat = j := Option.some.inj h
      exact ⟨by rw [seqIndex_of h0 h1, e], by omega, by omega, h1⟩
    · rw [if_neg h1] at h; cases h
  · rw [if_neg h0] at h
    by_cases h1 : -(n : Int) ≤ i
    · rw [if_pos h1] at h
      have e : (i + n).toNat = j := Option.some.inj h
      exact ⟨by rw [seqIndex_neg (by omega) h1, e], by omega, h1, by omega⟩
    · rw [if_neg h1] at h; cases h
theorem atI_get {α : Type} {xs : List α} {i : Int} {v : α} (h : atI xs i = some v) : ∃ j, seqIndex? i xs.length = some j ∧ xs[j]? = some v ∧ j < xs.length ∧ -(xs.length : Int) ≤ i ∧ i < xs.length := by
  unfold atI at h
  cases e : ixN xs.length i with
  | none => rw [e] at h; cases h
  | some j =>
    rw [e] at h
    obtain ⟨h1, h2, h3, h4⟩ := ixN_seq e
    exact ⟨j, h1, h, h2, h3, h4⟩
theorem atI_nat {α : Type} {xs : List α} {j : Nat} {v : α} (h : xs[j]? = some v) : atI xs (j : Int) = some v := by
  have hj : j < xs.length := (List.getElem?_eq_some_iff.mp h).1
  have e : ixN xs.length (j : Int) = some j := by
    unfold ixN
    rw [if_pos (by omega), if_pos (by omega)]; simp
  unfold atI; rw [e]; exact h
/-- what stands as an index of a plain subscript -/
def PlainIx (b : Expr) : Prop := ∀ o i, subscripted b false o i = operate [o, i] (getItem o i)
/-- a subscript by values -/
def IxR (X : Cx) (r : R2) : Prop :=
  ∀ (value slice : Expr) (pins : List (Addr × Obj)) (s : Shared) (σ : St) (H : Hp) (x y : V) (v u : Value) (Q : VK), Inv X pins σ H s → RelV x v → RelV y u → r x y H Q →
    subscripted slice false v u = operate [v, u] (getItem v u) → wpAny (model X.prog X.w) X.A (subscriptTail value slice v u) (EP X pins σ Q) X.xe s
/-- a call of a builtin's method by values: the receiver, the arguments -/
def MtR (X : Cx) (id : String) (r : V → List V → Hp → VK → Prop) : Prop :=
  ∀ (pins : List (Addr × Obj)) (s : Shared) (σ : St) (H : Hp) (x : V) (xs : List V) (v : Value) (us : List Value) (Q : VK), Inv X pins σ H s → RelV x v → Vals xs us → r x xs H Q →
    wpAny (model X.prog X.w) X.A (call (.builtin id) (v :: us)) (EP X pins σ Q) X.xe s
section
variable {X : Cx} {a b : Expr} {ta tb : TE} {pos : Pos}
theorem IxR.or {r r' : R2} (h : IxR X r) (h' : IxR X r') : IxR X (fun x y H Q => r x y H Q ∨ r' x y H Q) := by
  intro value slice pins s σ H x y v u Q I rx ry q hs
  rcases q with q | q
  · exact h value slice pins s σ H x y v u Q I rx ry q hs
  · exact h' value slice pins s σ H x y v u Q I rx ry q hs
theorem MtR.or {id : String} {r r' : V → List V → Hp → VK → Prop} (h : MtR X id r) (h' : MtR X id r') : MtR X id (fun x xs H Q => r x xs H Q ∨ r' x xs H Q) := by
  intro pins s σ H x xs v us Q I rx rs q
  rcases q with q | q
  · exact h pins s σ H x xs v us Q I rx rs q
  · exact h' pins s σ H x xs v us Q I rx rs q
/-- a[b] -/
theorem pe_ix {r : R2} (hr : IxR X r) (ha : PE X a ta) (hb : PE X b tb) (hs : PlainIx b) : PE X (.Subscript a b pos) (tOp r ta tb) := by
  intro pins s σ H Q I h
  exact Subscript_ (binT ha hb I h fun v u s2 x y H2 I2 rx ry q => hr a b pins s2 σ H2 x y v u Q I2 rx ry q (hs _ _))

def rIxL (K : PySem.W.Frag) : R2 := fun x y H Q => ∃ p xs i v, x = .ref p ∧ y = .int i ∧ SqL K H p xs ∧ atI xs i = some v ∧ Q v H
theorem ix_list : IxR X (rIxL X.K) := by
  intro value slice pins s σ H x y v u Q I rx ry h hs
  obtain ⟨p, xs, i, z, rfl, rfl, hq, he, q⟩ := h
  cases rx
  obtain ⟨t, rfl⟩ := ry
  obtain ⟨its, r, pl, hz⟩ := I.list hq
  obtain ⟨j, h1, h2, h3, h4, h5⟩ := atI_get he
  obtain ⟨w, ew, rw'⟩ := r.get h2
  have hl := r.length
  have hn := line63
  have fin : EP X pins σ Q w s := ⟨z, H, I, rw', q⟩
  by_cases h0 : 0 ≤ i
  · have hj : i.toNat = j := by
      rw [seqIndex_of h0 h5] at h1
      exact Option.some.inj h1
    exact item_listR pl.isList h0 (by omega) (by rw [hj]; simpa using ew) fin hs
  · have hj : (i + (its.toArray.size : Int)).toNat = j := by
      rw [seqIndex_neg (by omega) h4] at h1
      rw [List.size_toArray, ← hl]
      exact Option.some.inj h1
    exact subscriptTail_builtinR (x := w) pl.isList.typeIs slot_list_getitem.lookup
      (wpAny_getItem_list_neg (Q := fun r s' => r = w ∧ EP X pins σ Q r s') pl.isList (by omega) (by rw [List.size_toArray] <;> omega) (by omega) (by rw [hj]; simpa using ew) ⟨rfl, fin⟩) hs
theorem Inv.lst {pins : List (Addr × Obj)} {σ : St} {H : Hp} {s : Shared} {p : Addr} {xs : List V} (I : Inv X pins σ H s) (h : H p = some (.lst xs)) :
    ∃ (its : List Value) (n : Nat), Vals xs its ∧ s.heap.get? p = some { cls := .type "list", data := .seq its.toArray n } ∧ xs.length ≤ sizeLine := by
  obtain ⟨z, its, n, r, e⟩ := I.hok p _ h
  exact ⟨its, n, r, e, z⟩
theorem call_len_seq : CallR X (.builtin "len") (fun xs H Q => ∃ p ys, xs = [.ref p] ∧ (SqL X.K H p ys ∨ SqT X.K H p ys) ∧ Q (.int ys.length) H) := by
  intro pins s σ H xs us Q I r h
  obtain ⟨p, ys, rfl, hq, q⟩ := h
  obtain ⟨u, rfl, rx⟩ := vals1 r
  cases rx
  have hn := line63
  rcases hq with hq | hq
  · obtain ⟨its, r', pl, hz⟩ := I.list hq
    have hlen := r'.length
    exact Calls.call_len_list pl.isList (by simp only [List.size_toArray] <;> omega) ⟨.int ys.length, H, I.tok _, ⟨s.toks + 1, by rw [List.size_toArray, hlen]⟩, q⟩
  · obtain ⟨its, r', pl, hz⟩ := I.tuple hq
    have hlen := r'.length
    exact len_tuple pl (by simp only [List.size_toArray] <;> omega) ⟨.int ys.length, H, I.tok _, ⟨s.toks + 1, by rw [List.size_toArray, hlen]⟩, q⟩
theorem CallR.or {f : Value} {r r' : List V → Hp → VK → Prop} (h : CallR X f r) (h' : CallR X f r') : CallR X f (fun xs H Q => r xs H Q ∨ r' xs H Q) := by
  intro pins s σ H xs us Q I rs q
  rcases q with q | q
  · exact h pins s σ H xs us Q I rs q
  · exact h' pins s σ H xs us Q I rs q
/-- the value is of that builtin type -/
def tyV (K : PySem.W.Frag) (T : String) (x : V) (H : Hp) : Prop := match x with
  | .str _ => T = "str"
  | .int _ => T = "int"
  | .ref p => (T = "list" ∧ ∃ xs, SqL K H p xs) ∨ (T = "tuple" ∧ ∃ o, K.lookup p = some o ∧ o.cls = .type "tuple" ∧ o.dict = none) ∨
      (T = "dict" ∧ ((∃ kvs, H p = some (.dK kvs)) ∨ ∃ kvs, H p = some (.dT kvs))) ∨ (T = "set" ∧ ∃ S n, H p = some (.set S n))
  | _ => False
theorem tyV_is {pins : List (Addr × Obj)} {σ : St} {H : Hp} {s : Shared} {T : String} {x : V} {v : Value} (I : Inv X pins σ H s) (r : RelV x v) (ty : tyV X.K T x H) :
    s.TypeIs v T ∧ ∀ a, v = .ref a → ∃ ob, s.heap.get? a = some ob ∧ ob.dict = none := by
  cases x with
  | str z =>
    obtain ⟨t, rfl⟩ := r
    cases (show T = "str" from ty)
    exact ⟨typeIs_str s z t, fun _ e => nomatch e⟩
  | int i =>
    obtain ⟨t, rfl⟩ := r
    cases (show T = "int" from ty)
    exact ⟨typeIs_int s i t, fun _ e => nomatch e⟩
  | ref p =>
    cases r
    rcases ty with ⟨rfl, xs, hq⟩ | ⟨rfl, o, hk, hc, hd⟩ | ⟨rfl, hk⟩ | ⟨rfl, S, n, hk⟩
    · obtain ⟨its, _, pl, _⟩ := I.list hq
      refine ⟨pl.isList.typeIs, fun a e => ?_⟩
      cases e
      obtain ⟨o, n, e, c, hd, _⟩ := pl
      exact ⟨o, e, hd⟩
    · refine ⟨⟨o, I.kIn p o hk, hc⟩, fun a e => ?_⟩
      cases e
      exact ⟨o, I.kIn _ o hk, hd⟩
    · have z : ∃ o, s.heap.get? p = some o ∧ o.ExactDict := by
        rcases hk with ⟨kvs, hk⟩ | ⟨kvs, hk⟩
        · obtain ⟨_, _, _, _, o, _, _, e, ex, _⟩ := I.hok p _ hk
          exact ⟨o, e, ex⟩
        · obtain ⟨_, _, _, _, o, _, _, e, ex, _⟩ := I.hok p _ hk
          exact ⟨o, e, ex⟩
      obtain ⟨o, e, ex⟩ := z
      refine ⟨⟨o, e, ex.1⟩, fun a e2 => ?_⟩
      cases e2
      exact ⟨o, e, ex.2.1⟩
    · obtain ⟨o, _, _, _, e, ex, _⟩ := I.hok p _ hk
      refine ⟨⟨o, e, ex.1⟩, fun a e2 => ?_⟩
      cases e2
      exact ⟨o, e, ex.2.1⟩
  | _ => exact False.elim ty
def tBM (K : PySem.W.Frag) (T : String) (r : V → List V → Hp → VK → Prop) (to : TE) (t : TA) : TE := fun σ H Q => to σ H fun x H1 => tyV K T x H1 ∧ t σ H1 fun xs H2 => r x xs H2 Q
variable {o e : Expr} {es : List Expr} {to : TE} {t : TA} {name : Str} {apos cpos : Pos} {T id : String} {r : V → List V → Hp → VK → Prop}
theorem pe_bm (pa : PlainAttrs T) (slot : Slot T name id) (hty : typeOf (.builtin id) = pure (.type "method_descriptor")) (hm : MtR X id r) (ho : PE X o to) (ha : PA X (e :: es) t)
    (hbase : attributeBase o name X.env (eval o X.env) = eval o X.env := by rfl)
    (hfew : ((backTo cpos (starEach (e :: es) X.env)).all (fun x => !x.1) && (backToKw cpos (keywordEach [] X.env)).all (fun x => x.1.isSome)
      && decide ((e :: es).length + ([] : List Keyword).length + (if ([] : List Keyword).isEmpty then 0 else 1) < 30)) = true := by rfl)
    (hline : (apos.endLine == cpos.line) = true := by rfl) (hs : starEach (e :: es) X.env = (false, eval e X.env) :: starEach es X.env := by rfl) (hplain : (backTo cpos (starEach es X.env)).any (·.1) = false := by rfl) :
    PE X (.Call (.Attribute o name apos) (e :: es) [] cpos) (tBM X.K T r to t) := by
  intro pins s σ H Q I h
  refine wpAny_Call_method_late hbase hfew hline rfl (thn (ho pins s σ H _ I h) fun v s1 ⟨x, H1, I1, r1, ty, q1⟩ => ?_)
  obtain ⟨h1, h2⟩ := tyV_is I1 r1 ty
  refine ⟨T, id, pa, slot, hty, h1, h2, ?_⟩
  have hA := ha cpos pins s1 σ H1 _ I1 q1
  rw [hs] at hA ⊢
  refine Calls.callWith_builtin (by show (false || (backTo cpos (starEach es X.env)).any (·.1)) = false; rw [hplain] <;> rfl) (Calls.evalArgs_plain ?_)
  exact thn hA fun us s2 ⟨vs, H2, I2, r2, q2⟩ => hm pins s2 σ H2 x vs v us Q I2 r1 r2 q2
end
end L2

namespace L2
open PySem PySem.Spec PyProof.Rows

def MtM (X : Cx) (id : String) (r : V → List V → Hp → VK → Prop) : Prop :=
  ∀ (pins : List (Addr × Obj)) (s : Shared) (σ : St) (H : Hp) (x : V) (xs : List V) (v : Value) (us : List Value) (Q : VK), Inv X pins σ H s → RelV x v → Vals xs us → r x xs H Q →
    wpAny (model X.prog X.w) X.A (call (.builtin id) (v :: us)) (EP X pins σ Q) X.xe s

theorem Vals.one : ∀ {x : V} {us : List Value}, Vals [x] us → ∃ u, us = [u] ∧ RelV x u
  | _, _, .cons r .nil => ⟨_, rfl, r⟩
theorem Vals.two : ∀ {x y : V} {us : List Value}, Vals [x, y] us → ∃ u v, us = [u, v] ∧ RelV x u ∧ RelV y v
  | _, _, _, .cons r (.cons q .nil) => ⟨_, _, rfl, r, q⟩
theorem Vals.zero : ∀ {us : List Value}, Vals [] us → us = []
  | _, .nil => rfl
section
variable {X : Cx} {pins : List (Addr × Obj)} {σ : St} {H : Hp} {s : Shared} {l b : Addr} {xs ys zs : List V}

theorem Inv.lset {its its' : List Value} {n : Nat} {f : Array Value → Array Value} {t' : Nat} (I : Inv X pins σ H s) (hH : H l = some (.lst xs))
    (e : s.heap.get? l = some { cls := .type "list", data := .seq its.toArray n }) (hf : f its.toArray = its'.toArray) (hv : Vals ys its') (hz : ys.length ≤ sizeLine) :
    Inv X pins σ (upd H l (.lst ys)) { s with heap := s.heap.update l (Obj.mapSeq f), toks := t' } := by
  have q := PySem.IsL.update e f
  rw [hf] at q
  refine I.write (x := l) (e := l) (by rw [hH]; exact trivial) (.inl rfl) (fun b' u hb hu => (Heap.get?_update_other s.heap (Obj.mapSeq f) (Ne.symm hb)).trans hu) ⟨_, q⟩ ?_
  exact ⟨hz, its', _, hv, q⟩
theorem Inv.lnew {its : List Value} {t' : Nat} (I : Inv X pins σ H s) (hv : Vals ys its) (hz : ys.length ≤ sizeLine) :
    Inv X pins σ (upd H s.heap.objs.size (.lst ys)) { s with heap := s.heap.push { cls := .type "list", data := .seq its.toArray }, toks := t' } :=
  I.laid (fun _ _ q => Heap.get?_push_of_some _ q) (Nat.le_refl _) ⟨hz, its, 0, hv, Heap.get?_push_size _ rfl⟩
theorem Inv.fresh (I : Inv X pins σ H s) : H s.heap.objs.size = none := I.hok.fresh (Nat.le_refl _)
theorem Inv.lstM (I : Inv X pins σ H s) (hH : H l = some (.lst xs)) : xs.length ≤ sizeLine ∧ ∃ (its : List Value) (n : Nat), Vals xs its ∧ xs.length = its.length ∧ s.heap.get? l = some { cls := .type "list", data := .seq its.toArray n } := by
  obtain ⟨z, its, n, r, e⟩ := I.hok l _ hH
  exact ⟨z, its, n, r, r.length, e⟩

theorem notLongL {n : Nat} (h : n ≤ sizeLine) : Builtin.List.listTooLong n = false := by
  unfold Builtin.List.listTooLong
  exact decide_eq_false (by omega)
end

section
variable {X : Cx}

def rAppend : V → List V → Hp → VK → Prop := fun x vs H Q => ∃ l xs y, x = .ref l ∧ vs = [y] ∧ H l = some (.lst xs) ∧ xs.length < sizeLine ∧ Q .non (upd H l (.lst (xs ++ [y])))
theorem mt_append : MtM X "list.append" rAppend := by
  intro pins s σ H x vs v us Q I rx rv h
  obtain ⟨l, xs, y, rfl, rfl, hH, hz, q⟩ := h
  cases rx
  obtain ⟨u, rfl, ru⟩ := rv.one
  obtain ⟨z, its, n, r, hl, e⟩ := I.lstM hH
  refine call_meets F.slot_list_append ⟨_, e, rfl⟩ F.entry_list_append (F.args_list_append_2 _ _) (PySem.list_append l its.toArray n u (by rw [List.size_toArray]; omega)) ⟨e, ?_⟩
  refine ⟨.non, _, I.lset (its' := its ++ [u]) hH e (by simp) (r.append (.cons ru .nil)) ?_, rfl, q⟩
  rw [List.length_append, List.length_singleton]
  omega

def rExtend : V → List V → Hp → VK → Prop := fun x vs H Q => ∃ l b xs zs, x = .ref l ∧ vs = [.ref b] ∧ H l = some (.lst xs) ∧ H b = some (.lst zs) ∧ xs.length + zs.length ≤ sizeLine ∧ Q .non (upd H l (.lst (xs ++ zs)))
theorem mt_extend : MtM X "list.extend" rExtend := by
  intro pins s σ H x vs v us Q I rx rv h
  obtain ⟨l, b, xs, zs, rfl, rfl, hH, hB, hz, q⟩ := h
  cases rx
  obtain ⟨u, rfl, ru⟩ := rv.one
  cases ru
  obtain ⟨z, its, n, r, hl, e⟩ := I.lstM hH
  obtain ⟨z2, its2, n2, r2, hl2, e2⟩ := I.lstM hB
  have hsz : its.toArray.size + its2.toArray.size ≤ sizeLine := by rw [List.size_toArray, List.size_toArray]; omega
  have hlong : ¬ (!its.toArray.isEmpty && Builtin.List.listTooLong (its.toArray.size + its2.toArray.size)) = true := by
    rw [notLongL hsz, Bool.and_false]
    exact Bool.false_ne_true
  refine call_meets F.slot_list_extend ⟨_, e, rfl⟩ F.entry_list_extend (F.args_list_extend_2 _ _)
    (AutoSeq1.list_extend_list_list_0 l its.toArray n b its2.toArray n2 hlong (by rw [List.size_toArray]; omega) (by omega)) ⟨e, e2, ?_⟩
  refine ⟨.non, _, I.lset (its' := its ++ its2) hH e (by simp) (r.append r2) ?_, rfl, q⟩
  rw [List.length_append]
  omega

end

section
variable {prog : Program} {w : World} {A : Around} {E : Value → Shared → Prop} {s : Shared}
end

section
variable {X : Cx}
end
end L2

namespace L2
open PySem PySem.Spec PyProof.Rows

theorem Vals.ints : ∀ {ns : List Int} {us : List Value}, Vals (ns.map V.int) us → IntsAre us ns
  | [], us, h => by
    rw [List.map_nil] at h
    cases h
    exact IntsAre.nil
  | n :: ns, us, h => by
    rw [List.map_cons] at h
    cases h with
    | cons r t =>
      obtain ⟨k, rfl⟩ := r
      exact IntsAre.cons n k (Vals.ints t)
section
variable {prog : Program} {w : World} {A : Around} {E : Value → Shared → Prop} {s : Shared} {l : Addr} {its : List Value} {ns : List Int} {Q : Value → Shared → Prop}
end

section
variable {X : Cx}
end

section
variable {X : Cx}
end

section
variable {X : Cx}
end

section
variable {X : Cx}
end

mutual
inductive Dp (K : PySem.W.Frag) (H : Hp) : V → PyData → Prop
  | non : Dp K H .non .none
  | bl (b : Bool) : Dp K H (.bl b) (.bool b)
  | int (i : Int) : Dp K H (.int i) (.int i)
  | str (x : Str) : Dp K H (.str x) (.str x)
  | lst {a : Addr} {xs : List V} {ds : List PyData} : SqL K H a xs → DpAll K H xs ds → Dp K H (.ref a) (.list ds)
  | tup {a : Addr} {xs : List V} {ds : List PyData} : SqT K H a xs → DpAll K H xs ds → Dp K H (.ref a) (.tuple ds)
inductive DpAll (K : PySem.W.Frag) (H : Hp) : List V → List PyData → Prop
  | nil : DpAll K H [] []
  | cons {v : V} {vs : List V} {d : PyData} {ds : List PyData} : Dp K H v d → DpAll K H vs ds → DpAll K H (v :: vs) (d :: ds)
end
section
variable {X : Cx} {pins : List (Addr × Obj)} {σ : St} {H : Hp} {s : Shared}
mutual
theorem Dp.reads (I : Inv X pins σ H s) : ∀ (d : PyData) (v : V) (u : Value), Dp X.K H v d → RelV v u → ∃ as, Reads s.heap u d as
  | .none, _, _, h, r => by
    cases h
    cases r
    exact ⟨_, Reads.none⟩
  | .bool b, _, _, h, r => by
    cases h
    cases r
    exact ⟨_, Reads.bool b⟩
  | .int i, _, _, h, r => by
    cases h
    obtain ⟨t, rfl⟩ := r
    exact ⟨_, Reads.int i t⟩
  | .str x, _, _, h, r => by
    cases h
    obtain ⟨t, rfl⟩ := r
    exact ⟨_, Reads.str x t⟩
  | .list ds, _, _, h, r => by
    cases h with
    | lst hs ha =>
      cases r
      obtain ⟨its, rv, ⟨o, n, ho, hc, _, hd⟩, _⟩ := I.list hs
      obtain ⟨as, hr⟩ := Dp.readsAll I ds _ its ha rv
      exact ⟨_, Reads.list ho hc hd hr⟩
  | .tuple ds, _, _, h, r => by
    cases h with
    | tup hs ha =>
      cases r
      obtain ⟨its, rv, ⟨o, ho, hc, n, hd⟩, _⟩ := I.tuple hs
      obtain ⟨as, hr⟩ := Dp.readsAll I ds _ its ha rv
      exact ⟨_, Reads.tuple ho hc hd hr⟩
  | .dict _, _, _, h, _ => by cases h
theorem Dp.readsAll (I : Inv X pins σ H s) : ∀ (ds : List PyData) (vs : List V) (us : List Value), DpAll X.K H vs ds → Vals vs us → ∃ as, ReadsAll s.heap us ds as
  | [], _, _, h, r => by
    cases h
    cases r
    exact ⟨_, ReadsAll.nil⟩
  | d :: ds, _, _, h, r => by
    cases h with
    | cons h1 h2 =>
      cases r with
      | cons r1 r2 =>
        obtain ⟨as, q1⟩ := Dp.reads I d _ _ h1 r1
        obtain ⟨bs, q2⟩ := Dp.readsAll I ds _ _ h2 r2
        exact ⟨_, ReadsAll.cons q1 q2⟩
end
end
section
variable {X : Cx}
def rNeD (K : PySem.W.Frag) : R2 := fun x y H Q => ∃ d e, Dp K H x d ∧ Dp K H y e ∧ SeqAt.shaped d = true ∧ SeqAt.shaped e = true ∧ Q (.bl (!PyData.eqv d e)) H
theorem op_neD (hu : X.A.units + 64 < cLine) : OpR X (compareOp .NotEq) (rNeD X.K) := by
  intro pins s σ H x y v u Q I rx ry h
  obtain ⟨d, e, hd, he, sd, se, q⟩ := h
  obtain ⟨as, r1⟩ := Dp.reads I d x v hd rx
  obtain ⟨bs, r2⟩ := Dp.reads I e y u he ry
  exact SeqAt.compareNe_shaped r1 r2 sd se hu ⟨.bl _, H, I, rfl, q⟩
end
end L2

namespace L2
open PySem PySem.Spec PyProof.Rows
abbrev CellAt (h : Heap) (c : Addr) (v : Option Value) : Prop := h.IsCell c v
def relS (scope sc : Scope) : Scope :=
  { scope with names := scope.names.map fun (n, k) => if (k == .free && sc.kind == .function && sc.names.lookup n == some .cell) then (n, .cell) else (n, k) }

def cloFrom (cells : List (Str × Addr)) : List (Str × NameKind) → List (Str × Addr) → List (Str × Addr)
  | [], acc => acc
  | (n, k) :: r, acc => if k == .free then cloFrom cells r ((n, (cells.lookup n).getD 0) :: acc) else cloFrom cells r acc

theorem closure_loop (env : Env) (f : Str × NameKind → List (Str × Addr) → Sem (ForInStep (List (Str × Addr))))
    (hf : ∀ n k c, f (n, k) c = if k == .free then (do let a ← cellOf env n; pure (.yield ((n, a) :: c))) else pure (.yield c)) :
    ∀ (names : List (Str × NameKind)) (acc : List (Str × Addr)), (∀ y ∈ names, y.2 = .free → ∃ c, env.cells.lookup y.1 = some c) → forIn names acc f = pure (cloFrom env.cells names acc)
  | [], acc, _ => by rw [List.forIn_nil]; rfl
  | (n, k) :: r, acc, h => by
    rw [List.forIn_cons, hf]
    have ih := fun acc => closure_loop env f hf r acc fun y hy => h y (List.mem_cons_of_mem _ hy)
    unfold cloFrom
    by_cases hk : (k == NameKind.free) = true
    · rw [if_pos hk, if_pos hk]
      obtain ⟨c, hc⟩ := h (n, k) List.mem_cons_self (by simpa using hk)
      have e : cellOf env n = pure c := by unfold cellOf; rw [hc]
      rw [e]
      have e2 : (env.cells.lookup n).getD 0 = c := by rw [hc]; rfl
      rw [e2]
      exact ih _
    · rw [if_neg hk, if_neg hk]
      exact ih _
theorem closure_ok {scope : Scope} {env : Env} (h : ∀ y ∈ scope.names, y.2 = .free → ∃ c, env.cells.lookup y.1 = some c) : closureFor scope env = pure (cloFrom env.cells scope.names []) := by
  simp only [closureFor]
  rw [closure_loop env _ (fun n k c => rfl) scope.names [] h]
  rfl

theorem mem_lookup {α : Type} : ∀ {l : List (Str × α)} {n : Str} {c : α}, (n, c) ∈ l → ∃ c', l.lookup n = some c'
  | (k, v) :: r, n, c, h => by
    rw [List.lookup_cons]
    cases hb : n == k with
    | true => exact ⟨_, rfl⟩
    | false =>
      rcases List.mem_cons.mp h with e | h
      · cases e; simp at hb
      · exact mem_lookup h

theorem cloFrom_mem {cells : List (Str × Addr)} : ∀ {names : List (Str × NameKind)} {acc : List (Str × Addr)} {n : Str} {c : Addr}, (n, c) ∈ cloFrom cells names acc → (n, c) ∈ acc ∨ ((n, .free) ∈ names ∧ c = (cells.lookup n).getD 0)
  | [], _, _, _, h => .inl h
  | (m, k) :: r, acc, n, c, h => by
    unfold cloFrom at h
    split at h
    · rename_i hk
      have hk : k = .free := by simpa using hk
      rcases cloFrom_mem h with h | ⟨h1, h2⟩
      · rcases List.mem_cons.mp h with e | h
        · cases e; exact .inr ⟨hk ▸ List.mem_cons_self, rfl⟩
        · exact .inl h
      · exact .inr ⟨List.mem_cons_of_mem _ h1, h2⟩
    · rcases cloFrom_mem h with h | ⟨h1, h2⟩
      · exact .inl h
      · exact .inr ⟨List.mem_cons_of_mem _ h1, h2⟩
theorem cloFrom_acc {cells : List (Str × Addr)} : ∀ {names : List (Str × NameKind)} {acc : List (Str × Addr)} {p : Str × Addr}, p ∈ acc → p ∈ cloFrom cells names acc
  | [], _, _, h => h
  | (m, k) :: r, acc, p, h => by
    unfold cloFrom
    split
    · exact cloFrom_acc (List.mem_cons_of_mem _ h)
    · exact cloFrom_acc h
theorem cloFrom_has {cells : List (Str × Addr)} : ∀ {names : List (Str × NameKind)} {acc : List (Str × Addr)} {n : Str}, (n, .free) ∈ names → (n, (cells.lookup n).getD 0) ∈ cloFrom cells names acc
  | (m, k) :: r, acc, n, h => by
    unfold cloFrom
    rcases List.mem_cons.mp h with e | h
    · cases e
      exact cloFrom_acc List.mem_cons_self
    · split
      · exact cloFrom_has h
      · exact cloFrom_has h

theorem cells_mem : ∀ {names : List (Str × NameKind)} {h : Heap} {acc : List (Str × Addr)} {x : Str} {c : Addr}, (x, c) ∈ cellsFrom h.objs.size names acc →
    (x, c) ∈ acc ∨ ((x, .cell) ∈ names ∧ h.objs.size ≤ c ∧ CellAt (pushCells h names) c none)
  | [], _, _, _, _, h => .inl h
  | (n, k) :: r, h, acc, x, c, hm => by
    unfold cellsFrom at hm
    unfold pushCells
    split at hm
    · rename_i hk
      rw [if_pos hk]
      have hk : k = .cell := by simpa using hk
      rw [← Heap.size_push h { cls := .type "cell", data := .cell none }] at hm
      rcases cells_mem hm with hm | ⟨h1, h2, h3⟩
      · rcases List.mem_cons.mp hm with e | hm
        · cases e
          exact .inr ⟨hk ▸ List.mem_cons_self, Nat.le_refl _, _, pushCells_keeps r _ _ _ (Heap.get?_push_size _ rfl), rfl⟩
        · exact .inl hm
      · rw [Heap.size_push] at h2
        exact .inr ⟨List.mem_cons_of_mem _ h1, Nat.le_of_succ_le h2, h3⟩
    · rename_i hk
      rw [if_neg hk]
      rcases cells_mem hm with hm | ⟨h1, h2, h3⟩
      · exact .inl hm
      · exact .inr ⟨List.mem_cons_of_mem _ h1, h2, h3⟩
theorem cells_acc : ∀ {names : List (Str × NameKind)} {n : Nat} {acc : List (Str × Addr)} {p : Str × Addr}, p ∈ acc → p ∈ cellsFrom n names acc
  | [], _, _, _, h => h
  | (m, k) :: r, n, acc, p, h => by
    unfold cellsFrom
    split
    · exact cells_acc (List.mem_cons_of_mem _ h)
    · exact cells_acc h
theorem cells_has : ∀ {names : List (Str × NameKind)} {n : Nat} {acc : List (Str × Addr)} {x : Str}, (x, .cell) ∈ names → ∃ c, (x, c) ∈ cellsFrom n names acc
  | (m, k) :: r, n, acc, x, h => by
    unfold cellsFrom
    rcases List.mem_cons.mp h with e | h
    · cases e
      exact ⟨n, cells_acc List.mem_cons_self⟩
    · split
      · exact cells_has h
      · exact cells_has h
theorem cells_inj : ∀ {names : List (Str × NameKind)} {h : Heap} {acc : List (Str × Addr)} {x y : Str} {c : Addr}, (∀ p ∈ acc, p.2 < h.objs.size) → (∀ x y c, (x, c) ∈ acc → (y, c) ∈ acc → x = y) →
    (x, c) ∈ cellsFrom h.objs.size names acc → (y, c) ∈ cellsFrom h.objs.size names acc → x = y
  | [], _, _, _, _, _, _, hi, h1, h2 => hi _ _ _ h1 h2
  | (n, k) :: r, h, acc, x, y, c, hl, hi, h1, h2 => by
    unfold cellsFrom at h1 h2
    split at h1
    · rename_i hk
      rw [if_pos hk] at h2
      rw [← Heap.size_push h { cls := .type "cell", data := .cell none }] at h1 h2
      refine cells_inj (h := h.push _) (fun p hp => ?_) (fun x y c a b => ?_) h1 h2
      · rw [Heap.size_push]
        rcases List.mem_cons.mp hp with rfl | hp
        · exact Nat.lt_succ_self _
        · exact Nat.lt_succ_of_lt (hl p hp)
      · rcases List.mem_cons.mp a with e | a <;> rcases List.mem_cons.mp b with e' | b
        · cases e; cases e'; rfl
        · cases e; exact absurd (hl _ b) (Nat.lt_irrefl _)
        · cases e'; exact absurd (hl _ a) (Nat.lt_irrefl _)
        · exact hi _ _ _ a b
    · rename_i hk
      rw [if_neg hk] at h2
      exact cells_inj hl hi h1 h2

theorem newEnv_comp {M : Model} {A : Around} {E : Value → Shared → Prop} {s : Shared} {scope : Scope} {globals : Addr} {closure : List (Str × Addr)} {qual : Str} {func : Option Addr} {code : Value} {around : Env} {builtins : Addr} {Q : Env → Shared → Prop}
    (h : Q (newEnv scope s.heap.objs.size globals (cellsFrom (s.heap.objs.size + 1) scope.names closure) qual func code (some around) builtins)
      { s with heap := pushCells (s.heap.push { cls := .type "dict", data := .dict #[] }) scope.names }) :
    wpAny M A (newFunctionEnv scope globals closure [] qual func code (some around) builtins) Q E s := by
  simp only [newFunctionEnv, Option.isSome_some, if_true]
  refine wpAny_bind (wpAny_alloc ?_)
  refine wpAny_bind (wpAny_layCells _ (fun n k c => rfl) scope.names closure _ _ ?_)
  rw [show ({ s with heap := s.heap.push { cls := .type "dict", data := .dict #[] } } : Shared).heap.objs.size = s.heap.objs.size + 1 from Heap.size_push ..]
  rw [List.forIn_nil]
  exact wpAny_bind (wpAny_pure (wpAny_pure h))

/-- every name of the written scope, in the scope that runs -/
theorem lookup_relS {sc : Scope} : ∀ {names : List (Str × NameKind)} {x : Str} {k : NameKind},
    (names.map fun (n, k) => if (k == NameKind.free && sc.kind == .function && sc.names.lookup n == some .cell) then (n, NameKind.cell) else (n, k)).lookup x = some k →
    ∃ k', names.lookup x = some k' ∧ (k = k' ∨ (k' = .free ∧ k = .cell))
  | [], _, _, h => by simp at h
  | (n, k₀) :: r, x, k, h => by
    have ih := @lookup_relS sc r x k
    have h' : List.lookup x ((if (k₀ == NameKind.free && sc.kind == .function && sc.names.lookup n == some .cell) = true then (n, NameKind.cell) else (n, k₀)) :: (r.map _)) = some k := h
    cases hx : x == n with
    | true =>
      simp only [List.lookup_cons, hx]
      by_cases hc : (k₀ == NameKind.free && sc.kind == .function && sc.names.lookup n == some .cell) = true
      · rw [if_pos hc] at h'
        simp only [List.lookup_cons, hx] at h'
        cases h'
        simp only [Bool.and_eq_true, beq_iff_eq] at hc
        exact ⟨k₀, rfl, .inr ⟨hc.1.1, rfl⟩⟩
      · rw [if_neg hc] at h'
        simp only [List.lookup_cons, hx] at h'
        cases h'
        exact ⟨_, rfl, .inl rfl⟩
    | false =>
      simp only [List.lookup_cons, hx]
      by_cases hc : (k₀ == NameKind.free && sc.kind == .function && sc.names.lookup n == some .cell) = true
      · rw [if_pos hc] at h'
        simp only [List.lookup_cons, hx] at h'
        exact ih h'
      · rw [if_neg hc] at h'
        simp only [List.lookup_cons, hx] at h'
        exact ih h'
/-- the names of a comprehension's block: its own (with their places in N), or captured -/
structure BlkOk (N : List Str) (sc scope : Scope) (own : List (Str × Nat)) : Prop where
  kind : scope.kind = .function
  uniq : ∀ y ∈ scope.names, scope.names.lookup y.1 = some y.2
  ix : ∀ p ∈ own, N[p.2]? = some p.1
  free : ∀ y ∈ scope.names, y.2 = .free → sc.names.lookup y.1 = some .cell ∨ sc.names.lookup y.1 = some .free
  own : ∀ y ∈ scope.names, y.2 = .local ∨ y.2 = .cell → y.1 ∈ own.map (·.1) ∨ y.1 ∉ N
/-- the slots of the block's own names forgotten -/
def wipe (σ : St) : List Nat → St
  | [] => σ
  | v :: vs => (wipe σ vs).set v none
theorem wipe_length (σ : St) : ∀ vs : List Nat, (wipe σ vs).length = σ.length
  | [] => rfl
  | v :: vs => by unfold wipe; rw [List.length_set, wipe_length σ vs]
theorem wipe_some {σ : St} {i : Nat} {x : V} : ∀ {vs : List Nat}, (wipe σ vs)[i]? = some (some x) → σ[i]? = some (some x) ∧ i ∉ vs
  | [], h => ⟨h, by simp⟩
  | v :: vs, h => by
    unfold wipe at h
    by_cases hi : v = i
    · subst hi
      by_cases hv : v < (wipe σ vs).length
      · rw [List.getElem?_set_self hv] at h; cases h
      · rw [List.getElem?_eq_none (by simpa using hv)] at h; cases h
    · rw [List.getElem?_set_ne hi] at h
      obtain ⟨h1, h2⟩ := wipe_some h
      exact ⟨h1, by simp only [List.mem_cons, not_or]; exact ⟨fun e => hi e.symm, h2⟩⟩

/-- the context of a block that starts at s, its iterator's objects at fp -/
abbrev Cx.blk (X : Cx) (s : Shared) (H : Hp) (scope : Scope) (cenv : Env) (fp : List Addr) : Cx := { X with s_0 := s, H_0 := H, env := cenv, outer := X.stack, ex := fp, fn := fun x => scope.names.lookup x == some .cell, pn := [], xe := fun _ _ => False }
section
variable {X : Cx} {pins : List (Addr × Obj)} {σ : St} {H : Hp} {s : Shared}
theorem block_start {scope : Scope} {own : List (Str × Nat)} {fp : List Addr} (I : Inv X pins σ H s) (ok : BlkOk X.N X.env.scope scope own) (hN : X.N.Nodup) (hfp : ∀ b ∈ fp, FpOk X pins H b ∧ b < s.heap.objs.size) :
    Inv (X.blk s H scope (compEnvC scope (cellsFrom (s.heap.objs.size + 1) scope.names (cloFrom X.env.cells scope.names [])) s.heap.objs.size X.env) fp) [] (wipe σ (own.map (·.2))) H { s with heap := pushCells (s.heap.push { cls := .type "dict", data := .dict #[] }) scope.names } := by
  have hfree : ∀ y ∈ scope.names, y.2 = .free → ∃ c, X.env.cells.lookup y.1 = some c := fun y hy e => by
    rcases ok.free y hy e with k | k
    · exact I.ok.has _ (.inl k)
    · exact I.ok.has _ (.inr k)
  generalize hcenv : compEnvC scope (cellsFrom (s.heap.objs.size + 1) scope.names (cloFrom X.env.cells scope.names [])) s.heap.objs.size X.env = cenv
  have kp : ∀ b o, s.heap.get? b = some o → (pushCells (s.heap.push { cls := .type "dict", data := .dict #[] }) scope.names).get? b = some o := fun b o e => pushCells_keeps _ _ _ _ (Heap.get?_push_of_some _ e)
  have hL : cenv.locals = s.heap.objs.size := by rw [← hcenv]; rfl
  have hcl : cenv.cells = cellsFrom (s.heap.objs.size + 1) scope.names (cloFrom X.env.cells scope.names []) := by rw [← hcenv]; rfl
  have hsc : cenv.scope = relS scope X.env.scope := by rw [← hcenv]; rfl
  rw [← Heap.size_push s.heap { cls := .type "dict", data := .dict #[] }] at hcl
  have cm : ∀ {y c}, (y, c) ∈ cloFrom X.env.cells scope.names [] → X.env.cells.lookup y = some c ∧ c < s.heap.objs.size := fun {y c} hm => by
    rcases cloFrom_mem hm with hm | ⟨h1, rfl⟩
    · cases hm
    · obtain ⟨c, hc⟩ := hfree _ h1 rfl
      rw [hc]
      obtain ⟨w, z⟩ := I.cell _ _ hc
      exact ⟨rfl, z.lt⟩
  have mem : ∀ {y c}, cenv.cells.lookup y = some c → (X.env.cells.lookup y = some c ∧ c < s.heap.objs.size) ∨ (s.heap.objs.size + 1 ≤ c ∧ CellAt (pushCells (s.heap.push { cls := .type "dict", data := .dict #[] }) scope.names) c none) := fun {y c} e => by
    rw [hcl] at e
    rcases cells_mem (PySem.mem_of_lookup e) with hm | ⟨_, h2, h3⟩
    · exact .inl (cm hm)
    · rw [Heap.size_push] at h2; exact .inr ⟨h2, h3⟩
  have look : ∀ {y}, scope.names.lookup y = some .free → ∃ c, cenv.cells.lookup y = some c ∧ X.env.cells.lookup y = some c := fun {y} hl => by
    have hy : (y, NameKind.free) ∈ scope.names := PySem.mem_of_lookup hl
    obtain ⟨c', e'⟩ := mem_lookup (cells_acc (names := scope.names) (n := (s.heap.push { cls := .type "dict", data := .dict #[] }).objs.size) (cloFrom_has (cells := X.env.cells) (acc := []) hy))
    rw [← hcl] at e'
    refine ⟨c', e', ?_⟩
    rw [hcl] at e'
    rcases cells_mem (PySem.mem_of_lookup e') with hm | ⟨h1, _, _⟩
    · exact (cm hm).1
    · have := ok.uniq _ h1
      rw [hl] at this; cases this
  have okB : (X.blk s H scope cenv fp).Ok := by
    refine ⟨I.ok.mod, by show cenv.scope.kind = _; rw [hsc]; exact ok.kind, by show cenv.globals = _; rw [← hcenv]; exact I.ok.glob, by show cenv.builtins = _; rw [← hcenv]; exact I.ok.blt, by show s.heap.objs.size ≤ cenv.locals; rw [hL]; exact Nat.le_refl _,
      fun y z c e1 e2 => ?_, fun y hy => ?_, fun y c z e => ?_, I.ok.hd, I.ok.frames, .inl rfl, fun b hb => ⟨?_, fun y c e z => ?_⟩, I.bs, Nat.le_trans I.ok.bsz I.sz, fun b o e hb => ?_, fun b hb z => ?_, I.stack, I.stkFree⟩
    · have e1 : cenv.cells.lookup y = some c := e1
      have e2 : cenv.cells.lookup z = some c := e2
      rw [hcl] at e1 e2
      refine cells_inj (fun p hp => ?_) (fun y z c a b => I.ok.inj y z c (cm a).1 (cm b).1) (PySem.mem_of_lookup e1) (PySem.mem_of_lookup e2)
      rw [Heap.size_push]
      exact Nat.lt_succ_of_lt (cm (y := p.1) (c := p.2) hp).2
    · show ∃ c, cenv.cells.lookup y = some c
      have key : ∀ k, cenv.kindOf y = some k → (k = .cell ∨ k = .free) → ∃ c, cenv.cells.lookup y = some c := fun k hk hk' => by
        unfold Env.kindOf at hk
        rw [hsc] at hk
        obtain ⟨k', e, r⟩ := lookup_relS hk
        have : k' = .cell ∨ k' = .free := by
          rcases r with rfl | ⟨rfl, _⟩
          · exact hk'
          · exact .inr rfl
        rcases this with rfl | rfl
        · obtain ⟨c, hm⟩ := cells_has (n := (s.heap.push { cls := .type "dict", data := .dict #[] }).objs.size) (acc := cloFrom X.env.cells scope.names []) (PySem.mem_of_lookup e)
          obtain ⟨c', e'⟩ := mem_lookup hm
          exact ⟨c', by rw [hcl]; exact e'⟩
        · obtain ⟨c, h1, _⟩ := look e
          exact ⟨c, h1⟩
      rcases hy with hy | hy
      · exact key _ hy (.inl rfl)
      · exact key _ hy (.inr rfl)
    · have z : (scope.names.lookup y == some NameKind.cell) = true := z
      have z : scope.names.lookup y = some .cell := by simpa using z
      have e : cenv.cells.lookup y = some c := e
      rw [hcl] at e
      rcases cells_mem (PySem.mem_of_lookup e) with hm | ⟨_, h2, _⟩
      · rcases cloFrom_mem hm with hm | ⟨h1, _⟩
        · cases hm
        · have q := ok.uniq _ h1
          rw [z] at q; cases q
      · rw [Heap.size_push] at h2
        exact Nat.le_of_succ_le h2
    · show b ≠ cenv.locals
      rw [hL]; exact Nat.ne_of_lt (hfp b hb).2
    · have e : cenv.cells.lookup y = some c := e
      rcases mem e with ⟨h1, _⟩ | ⟨h1, _⟩
      · exact (hfp b hb).1.2.2.2.2.1 y c h1 z
      · have h2 : s.heap.objs.size + 1 ≤ b := by rw [← z]; exact h1
        exact absurd (Nat.lt_of_lt_of_le (hfp b hb).2 (Nat.le_of_succ_le h2)) (Nat.lt_irrefl _)
    · rcases (hfp b hb).1.2.2.2.1 with z | z
      · exact I.ok.noex b o e z
      · exact absurd (Nat.lt_of_lt_of_le (Heap.lt_size e) (Nat.le_trans I.ok.bsz z)) (Nat.lt_irrefl _)
    · rcases List.mem_cons.mp (I.stkSub b z) with z | z
      · exact (hfp b hb).1.2.1 z
      · exact (hfp b hb).1.2.2.1 z
  refine ⟨okB, rfl, I.bare, Un.kept kp, ⟨fun _ => none, ?_, fun i y av e1 e2 e3 => ?_⟩, fun y c e => ?_, ?_, fun y c e => ?_, fun p hp => ?_, I.hok.kept kp, by rw [wipe_length]; exact I.len⟩
  · show Heap.Ns _ cenv.locals _
    rw [hL]
    exact Heap.Ns.keeps (Heap.Ns.new ..) fun b o e => pushCells_keeps _ _ _ _ e
  · obtain ⟨e2, hne⟩ := wipe_some e2
    have hfr : scope.names.lookup y = some .free ∧ (cenv.kindOf y = some .cell ∨ cenv.kindOf y = some .free) := by
      have key : ∀ k, cenv.scope.names.lookup y = some k → k = .local ∨ k = .cell ∨ k = .free → scope.names.lookup y = some .free ∧ (cenv.kindOf y = some .cell ∨ cenv.kindOf y = some .free) := fun k hk hk' => by
        have hk0 := hk
        rw [hsc] at hk
        obtain ⟨k', e, r⟩ := lookup_relS hk
        have no : ¬ (k' = .local ∨ k' = .cell) := fun hh => by
          rcases ok.own _ (PySem.mem_of_lookup e) hh with e' | e'
          · obtain ⟨p, hp, hpy⟩ := List.mem_map.mp e'
            have e3 := ok.ix p hp
            have : p.1 = y := hpy
            rw [this] at e3
            exact hne (List.mem_map.mpr ⟨p, hp, nodup_ix hN e3 e1⟩)
          · exact e' (List.mem_of_getElem? e1)
        rcases r with rfl | ⟨rfl, rfl⟩
        · rcases hk' with rfl | rfl | rfl
          · exact absurd (.inl rfl) no
          · exact absurd (.inr rfl) no
          · exact ⟨e, .inr hk0⟩
        · exact ⟨e, .inl hk0⟩
      have e3 : Vis cenv.scope y := e3
      rcases e3 with e3 | e3 | e3
      · exact key _ e3 (.inl rfl)
      · exact key _ e3 (.inr (.inl rfl))
      · exact key _ e3 (.inr (.inr rfl))
    obtain ⟨m, hn, hl⟩ := I.loc
    have hvis : Vis X.env.scope y := (ok.free _ (PySem.mem_of_lookup hfr.1) rfl).elim (fun k => .inr (.inl k)) (fun k => .inr (.inr k))
    obtain ⟨w, r, q⟩ := hl i y av e1 e2 hvis
    refine ⟨w, r, .inr ⟨hfr.2, ?_⟩⟩
    obtain ⟨c, h1, h2⟩ := look hfr.1
    rcases q with ⟨k, _⟩ | ⟨_, c', e', z⟩
    · have k : X.env.scope.names.lookup y = some .local := k
      rcases ok.free _ (PySem.mem_of_lookup hfr.1) rfl with k' | k' <;> rw [show X.env.scope.names.lookup y = _ from k'] at k <;> cases k
    · rw [h2] at e'; cases e'
      exact ⟨c, h1, z.keeps kp⟩
  · have e : cenv.cells.lookup y = some c := e
    rcases mem e with ⟨h1, _⟩ | ⟨_, z⟩
    · obtain ⟨w, z⟩ := I.cell y c h1
      exact ⟨w, z.keeps kp⟩
    · exact ⟨_, z⟩
  · show H cenv.locals = none
    rw [hL]; exact I.hok.fresh (Nat.le_refl _)
  · have e : cenv.cells.lookup y = some c := e
    rcases mem e with ⟨h1, _⟩ | ⟨h1, _⟩
    · exact I.freeC y c h1
    · exact I.hok.fresh (Nat.le_of_succ_le h1)
  · exact absurd (show p ∈ ([] : List (Addr × Obj)) ++ [] from hp) (by simp)

/-- an item appended to a tracked list -/
theorem app_ok {E : Value → Shared → Prop} {D : Addr} {xs : List V} {y : V} {v : Value} {Q : Value → Shared → Prop} (I : Inv X pins σ H s) (hD : H D = some (.lst xs)) (hz : xs.length < sizeLine) (r : RelV y v)
    (h : ∀ s', Inv X pins σ (upd H D (.lst (xs ++ [y]))) s' → Q .none s') : wpAny (model X.prog X.w) X.A (call (.builtin "list.append") [.ref D, v]) Q E s := by
  obtain ⟨hz', its, n, ri, e⟩ := I.hok D _ hD
  have hl := ri.length
  refine append_at (hsz := by rw [List.size_toArray]; omega) e fun h' sb ho' => ?_
  refine h { s with heap := h' } (I.write (t' := s.toks) (by rw [hD]; trivial) (.inl rfl) (fun b u hb q => (sb.2 b hb).trans q) ⟨_, ho'⟩ ⟨by rw [List.length_append]; exact hz, its ++ [v], n + 1, ri.append (.cons r .nil), ?_⟩)
  rw [ho']
  simp

/-- a clause's tests -/
def PTs (X : Cx) (ifs : List Expr) (t : TT) : Prop :=
  ∀ (pins : List (Addr × Obj)) (s : Shared) (σ : St) (H : Hp) (Q : Bool → Hp → Prop), Inv X pins σ H s → t σ H Q →
    wpAny (model X.prog X.w) X.A (forIn ifs true fun c r => if r = true then do let ok ← isTrue c X.env (eval c X.env); pure (ForInStep.yield ok) else pure (ForInStep.yield r)) (TP X pins σ Q) X.xe s
def tYes : TT := fun _ H Q => Q true H
theorem pts_nil : PTs X [] tYes := fun _ _ _ H _ I h => wpAny_tests_nil ⟨H, I, h⟩
end

theorem thnF {α : Type} {t : Sem α} {Q Q' : α → Shared → Prop} {M : Model} {A : Around} {E : Value → Shared → Prop} {s : Shared} (h : wpAny M A t Q (fun _ _ => False) s) (hQ : ∀ a s, Q a s → Q' a s) : wpAny M A t Q' E s := wpAny_mono h hQ fun _ _ z => False.elim z

/-- the loop of a list comprehension's block, the target of any form (codeAny_compLoop_tests asks a target that no tuple goes to; statement and proof follow it, PyProof/CompMap.lean:41-61, with the step letOwnedTupleGo kept) -/
theorem compLoop_any {prog : Program} {w : World} {A : Around} {R : Result → Shared → Prop} {s : Shared} {elt target iter : Expr} {ifs : List Expr} {scope : Scope} {pos : Pos} {it acc : Value} {env : Env} (I : Nat → Shared → Prop)
    (turn : ∀ n s, I n s → wpAny (model prog w) A (pyNext it) (fun r s₁ => match r with
      | none => R (.ok .next) s₁
      | some v => wpAny (model prog w) A (letOwnedTupleGo target it v) (fun _ s₁' => wpAny (model prog w) A (assign target env v) (fun _ s₂ =>
          wpAny (model prog w) A (forIn ifs true fun c r => if r = true then do let ok ← isTrue c env (eval c env); pure (ForInStep.yield ok) else pure (ForInStep.yield r)) (fun ok s₃ =>
            if ok = true then wpAny (model prog w) A (eval elt env) (fun x s₄ =>
              wpAny (model prog w) A (call (.builtin "list.append") [acc, x]) (fun _ s₅ => ∃ m, m < n ∧ I m s₅) (notedBy (model prog w) A env fun e s' => R (.error e) s') s₄) (notedBy (model prog w) A env fun e s' => R (.error e) s') s₃
            else ∃ m, m < n ∧ I m s₃) (notedBy (model prog w) A env fun e s' => R (.error e) s') s₂) (notedBy (model prog w) A env fun e s' => R (.error e) s') s₁') (notedBy (model prog w) A env fun e s' => R (.error e) s') s₁) (notedBy (model prog w) A env fun e s' => R (.error e) s') s)
    (n : Nat) (h : I n s) :
    codeAny (model prog w) A (.compLoop (.ListComp elt [⟨target, iter, ifs, 0⟩] scope pos) 0 it acc env) R s := by
  refine codeAny_loop rfl I (fun n s hI => ?_) n h
  show wpAny _ A ((compTurn (.ListComp elt [⟨target, iter, ifs, 0⟩] scope pos) 0 it acc env).onRaise (fun x => do noteFrame x env; theTreesLotGoes x)) _ _ s
  refine wpAny_noted ?_
  rw [compTurn_list]
  refine wpAny_bind (wpAny_standAt (wpAny_bind (wpAny_mono (turn n s hI) (fun r s₁ h₁ => ?_) fun _ _ h' => h')))
  cases r with
  | none => exact wpAny_pure h₁
  | some v =>
    refine wpAny_bind (wpAny_mono h₁ (fun _ s₁' h₁' => ?_) fun _ _ h' => h')
    refine wpAny_bind (wpAny_mono h₁' (fun _ s₂ h₂ => wpAny_bind (wpAny_mono h₂ (fun ok s₃ h₃ => ?_) fun _ _ h' => h')) fun _ _ h' => h')
    cases ok with
    | false => exact wpAny_pure ⟨rfl, h₃⟩
    | true =>
      exact wpAny_bind (wpAny_bind (wpAny_mono h₃ (fun x s₄ h₄ => wpAny_bind (wpAny_mono h₄ (fun _ s₅ h₅ => wpAny_pure (wpAny_pure ⟨rfl, h₅⟩)) fun _ _ h' => h')) fun _ _ h' => h'))

section
variable {X : Cx}
/-- [elt for target in iter if ..]: D the new list; W by the turn and a measure, Nx what a turn is to reach -/
def tLc (wi : TI) (g : TG) (tt : TT) (te : TE) (vs : List Nat) : TE := fun σ H Q => wi σ H fun J H1 => ∀ D, H1 D = none → ∃ W : Nat → Nat → Hp → Prop, (∃ m, W 0 m (upd H1 D (.lst []))) ∧ ∀ i m H, W i m H →
  (J.stop i H ∧ Q (.ref D) H) ∨ (J.go i H ∧ ∃ Nx : Hp → Prop, (∀ H', Nx H' → ∃ m', m' < m ∧ W (i + 1) m' H') ∧ ∀ x H', J.yld i H x H' → g x (wipe σ vs) H' fun σ2 H2 => wipe σ2 vs = wipe σ vs ∧ tt σ2 H2 fun b H3 =>
    if b = true then te σ2 H3 fun y H4 => ∃ acc, H4 D = some (.lst acc) ∧ acc.length < sizeLine ∧ Nx (upd H4 D (.lst (acc ++ [y]))) else Nx H3)
theorem lc_core {pins : List (Addr × Obj)} {s : Shared} {σ : St} {H : Hp} {Q : VK} {elt tg iter : Expr} {ifs : List Expr} {scope : Scope} {own : List (Str × Nat)} {pos pos' : Pos} {wi : TI} {g : TG} {tt : TT} {te : TE} {use : Option (Value → Sem Unit)} {Qf : Value → Shared → Prop}
    (hc : X.calm = true) (hN : X.N.Nodup) (I : Inv X pins σ H s) (hi : PI X tg iter wi) (ok : BlkOk X.N X.env.scope scope own)
    (hg : ∀ (s : Shared) (H : Hp) (C : Addr) (cl : List (Str × Addr)) (fp : List Addr), PG (X.blk s H scope (compEnvC scope cl C X.env) fp) tg g) (ht : ∀ (s : Shared) (H : Hp) (C : Addr) (cl : List (Str × Addr)) (fp : List Addr), PTs (X.blk s H scope (compEnvC scope cl C X.env) fp) ifs tt)
    (he : ∀ (s : Shared) (H : Hp) (C : Addr) (cl : List (Str × Addr)) (fp : List Addr), PE (X.blk s H scope (compEnvC scope cl C X.env) fp) elt te) (hs : ∀ x, foldedSetIterable iter X.env x = pure x)
    (h : tLc wi g tt te (own.map (·.2)) σ H Q)
    (hRR : ∀ D C s' m H', Inv X pins σ H' s' → Q (.ref D) H' → s'.heap.Ns C m → FpOk X pins H' C → compPost (model X.prog X.w) X.A X.xe use Qf (.ref D) C (.ok .next) s') :
    wpAny (model X.prog X.w) X.A (comprehension (.ListComp elt [⟨tg, iter, ifs, 0⟩] scope pos) scope X.env pos' (newList []) false (eval iter X.env) use) Qf X.xe s := by
  have hfree : ∀ y ∈ scope.names, y.2 = .free → ∃ c, X.env.cells.lookup y.1 = some c := fun y hy e => by
    rcases ok.free y hy e with k | k
    · exact I.ok.has _ (.inl k)
    · exact I.ok.has _ (.inr k)
  refine wpAny_comprehension_free (use := use) rfl hs (closure_ok hfree) ok.kind (fun y hy e => by rw [ok.uniq y hy, e])
    (thn (hi pins s σ H _ I h) fun xv s1 hx => thn hx fun itv s2 h2 => ?_)
  obtain ⟨it, fp, tn, J, H2, e, I2, T, st2, f2, q⟩ := h2
  subst e
  refine wpAny_newObj_type (newEnv_comp ?_) (by show 0 ≤ sizeLine; decide)
  generalize hD : s2.heap.objs.size = D
  have hDn : H2 D = none := I2.hok.fresh (Nat.le_of_eq hD)
  obtain ⟨W, ⟨m0, w0⟩, turn⟩ := q D hDn
  -- the new list
  generalize hs3 : ({ s2 with heap := s2.heap.push { cls := .type "list", data := .seq ([] : List Value).toArray } } : Shared) = s3
  have I3 : Inv X pins σ (upd H2 D (.lst [])) s3 := by
    rw [← hs3]
    refine I2.laid (t' := s2.toks) (fun b o e => Heap.get?_push_of_some _ e) (Nat.le_of_eq hD) ⟨Nat.zero_le _, [], 0, .nil, ?_⟩
    rw [← hD]
    exact Heap.get?_push_size _ rfl
  have h3 : s3.heap = s2.heap.push { cls := .type "list", data := .seq ([] : List Value).toArray } := by rw [← hs3]
  have sz : ∀ b ∈ fp, b < s2.heap.objs.size := fun b hb => by
    obtain ⟨o, e, _⟩ := T.obj _ _ st2 b hb
    exact Heap.lt_size e
  have f3 : ∀ b ∈ fp, FpOk X pins (upd H2 D (.lst [])) b ∧ b < s3.heap.objs.size := fun b hb => by
    have hlt := sz b hb
    refine ⟨⟨?_, (f2 b hb).2⟩, by rw [h3, Heap.size_push]; exact Nat.lt_succ_of_lt hlt⟩
    rw [upd_ne (by rw [← hD]; exact Nat.ne_of_lt hlt)]
    exact (f2 b hb).1
  have st3 : tn 0 s3.heap := T.keep _ _ _ st2 fun b _ o e => by rw [h3]; exact Heap.get?_push_of_some _ e
  have I4 := block_start I3 ok hN f3
  have pg := hg s3 (upd H2 D (.lst [])) s3.heap.objs.size (cellsFrom (s3.heap.objs.size + 1) scope.names (cloFrom X.env.cells scope.names [])) fp
  have pt := ht s3 (upd H2 D (.lst [])) s3.heap.objs.size (cellsFrom (s3.heap.objs.size + 1) scope.names (cloFrom X.env.cells scope.names [])) fp
  have pe := he s3 (upd H2 D (.lst [])) s3.heap.objs.size (cellsFrom (s3.heap.objs.size + 1) scope.names (cloFrom X.env.cells scope.names [])) fp
  show codeAny _ _ (.compStart (.ListComp elt [⟨tg, iter, ifs, 0⟩] scope pos) 0 (.ref it) (.ref D) (compEnvC scope (cellsFrom (s3.heap.objs.size + 1) scope.names (cloFrom X.env.cells scope.names [])) s3.heap.objs.size X.env)) (compPost (model X.prog X.w) X.A X.xe use Qf (.ref D) s3.heap.objs.size) { s3 with heap := pushCells (s3.heap.push { cls := .type "dict", data := .dict #[] }) scope.names }
  have nfp : ∀ b ∈ fp, (upd H2 D (.lst [])) b = none := fun b hb => (f3 b hb).1.1
  generalize hce : compEnvC scope (cellsFrom (s3.heap.objs.size + 1) scope.names (cloFrom X.env.cells scope.names [])) s3.heap.objs.size X.env = ce at I4 pg pt pe ⊢
  have cL : ce.locals = s3.heap.objs.size := by subst hce; rfl
  generalize hH3 : upd H2 D (.lst []) = H3 at I3 I4 pg pt pe w0 nfp f3
  generalize hs4 : ({ s3 with heap := pushCells (s3.heap.push { cls := .type "dict", data := .dict #[] }) scope.names } : Shared) = s4 at I4 ⊢
  have st4 : tn 0 s4.heap := T.keep _ _ _ st3 fun b _ o e => by rw [← hs4]; exact pushCells_keeps _ _ _ _ (Heap.get?_push_of_some _ e)
  have stat : ∀ {σ' : St} {H' : Hp} {s' : Shared}, Inv (X.blk s3 H3 scope ce fp) [] σ' H' s' → (∀ b ∈ fp, H' b = none) → ∀ b ∈ fp, FpOk (X.blk s3 H3 scope ce fp) [] H' b := fun {σ' H' s'} I' hn b hb =>
    ⟨hn b hb, (I'.ok.exf b hb).1, I'.ok.exfs b hb, .inl hb, fun x c e => (I'.ok.exf b hb).2 x c e, fun p hp => absurd (show p ∈ ([] : List (Addr × Obj)) ++ [] from hp) (by simp)⟩
  have loop : codeAny (model X.prog X.w) X.A (.compLoop (.ListComp elt [⟨tg, iter, ifs, 0⟩] scope pos) 0 (.ref it) (.ref D) ce) (compPost (model X.prog X.w) X.A X.xe use Qf (.ref D) s3.heap.objs.size) s4 := by
    refine compLoop_any (fun n s' => ∃ i H', Inv (X.blk s3 H3 scope ce fp) [] (wipe σ (own.map (·.2))) H' s' ∧ tn i s'.heap ∧ (∀ b ∈ fp, H' b = none) ∧ W i n H') ?_ m0 ⟨0, H3, I4, st4, nfp, w0⟩
    rintro n s5 ⟨i, H5, I5, st5, n5, w5⟩
    rcases turn i n H5 w5 with ⟨stop, qq⟩ | ⟨go, Nx, hNx, step⟩
    · have td := T.done (X.blk s3 H3 scope ce fp) rfl rfl rfl hc i [] s5 _ H5 (fun _ _ => False) I5 (stat I5 n5) st5 stop
      refine thnF td fun r s6 ⟨hr, I6⟩ => ?_
      subst hr
      -- back in the def's context
      have I7 : Inv X pins σ H5 s6 := I3.call' (ch := fp) I6.os I6.base I6.hok I6.bare fun b hb => ⟨(f3 b hb).1.2.2.2.1, (f3 b hb).1.2.1, (f3 b hb).1.2.2.2.2.1, (f3 b hb).1.2.2.2.2.2⟩
      have nC : H5 s3.heap.objs.size = none := by
        have z : H5 ce.locals = none := I6.free
        rw [cL] at z
        exact z
      obtain ⟨m, hn, _⟩ := I6.loc
      have hn : s6.heap.Ns ce.locals m := hn
      rw [cL] at hn
      exact hRR D s3.heap.objs.size s6 m H5 I7 qq hn (I3.fpOk (Nat.le_refl _) nC)
    · have ti := T.item (X.blk s3 H3 scope ce fp) rfl rfl rfl hc i [] s5 _ H5 (fun _ _ => False) I5 (stat I5 n5) st5 go
      refine thnF ti fun r s6 ⟨u, hr, h6⟩ => ?_
      subst hr
      refine thnF h6 fun _ s7 ⟨x, H7, I7, r7, y7, st7, n7⟩ => ?_
      have I7' := I7.pinned (stat I7 n7) (T.obj _ _ st7)
      refine thnF (pg _ s7 _ H7 x u _ I7' r7 (step x H7 y7)) fun _ s8 ⟨σ8, H8, I8, hw8, q8⟩ => ?_
      refine thnF (pt _ s8 σ8 H8 _ I8 q8) fun b s9 ⟨H9, I9, q9⟩ => ?_
      -- the turn's end
      have fin : ∀ {s' : Shared} {H' : Hp}, Inv (X.blk s3 H3 scope ce fp) ([] ++ pinsAt fp s7.heap) σ8 H' s' → Nx H' → ∃ m, m < n ∧ ∃ i H', Inv (X.blk s3 H3 scope ce fp) [] (wipe σ (own.map (·.2))) H' s' ∧ tn i s'.heap ∧ (∀ b ∈ fp, H' b = none) ∧ W i m H' := fun {s' H'} I' nx => by
        obtain ⟨m', hm, w'⟩ := hNx H' nx
        have pin' : ∀ b ∈ fp, ∀ o, s7.heap.get? b = some o → s'.heap.get? b = some o ∧ H' b = none := fun b hb o e =>
          let z := I'.pin (b, o) (List.mem_append_right _ (List.mem_append_right _ (mem_pinsAt hb e)))
          ⟨z.1, z.2.1⟩
        have hl : (wipe σ (own.map (·.2))).length = σ8.length := by rw [← hw8, wipe_length]
        refine ⟨m', hm, i + 1, H', (I'.unpinned (pins := [])).weak hl (fun j v e => ?_), T.keep _ _ _ st7 fun b hb o e => (pin' b hb o e).1, fun b hb => ?_, w'⟩
        · rw [← hw8] at e
          exact (wipe_some e).1
        · obtain ⟨o, e, _⟩ := T.obj _ _ st7 b hb
          exact (pin' b hb o e).2
      cases b with
      | false =>
        simp only [Bool.false_eq_true, if_false] at q9 ⊢
        exact fin I9 q9
      | true =>
        simp only [if_true] at q9 ⊢
        refine thnF (pe _ s9 σ8 H9 _ I9 q9) fun z s10 ⟨yv, H10, I10, r10, acc, hD10, hz10, nx⟩ => ?_
        exact app_ok (X := X.blk s3 H3 scope ce fp) I10 hD10 hz10 r10 fun s11 I11 => fin I11 nx
  exact codeAny_compStart_list loop (T.self X.A 0 _ _ _ st4 loop)
/-- as a value -/
theorem pe_lc {elt tg iter : Expr} {ifs : List Expr} {scope : Scope} {own : List (Str × Nat)} {pos : Pos} {wi : TI} {g : TG} {tt : TT} {te : TE} (hc : X.calm = true) (hN : X.N.Nodup) (hi : PI X tg iter wi) (ok : BlkOk X.N X.env.scope scope own)
    (hg : ∀ (s : Shared) (H : Hp) (C : Addr) (cl : List (Str × Addr)) (fp : List Addr), PG (X.blk s H scope (compEnvC scope cl C X.env) fp) tg g) (ht : ∀ (s : Shared) (H : Hp) (C : Addr) (cl : List (Str × Addr)) (fp : List Addr), PTs (X.blk s H scope (compEnvC scope cl C X.env) fp) ifs tt)
    (he : ∀ (s : Shared) (H : Hp) (C : Addr) (cl : List (Str × Addr)) (fp : List Addr), PE (X.blk s H scope (compEnvC scope cl C X.env) fp) elt te) (hs : ∀ x, foldedSetIterable iter X.env x = pure x := by intro _; rfl) :
    PE X (.ListComp elt [⟨tg, iter, ifs, 0⟩] scope pos) (tLc wi g tt te (own.map (·.2))) := by
  intro pins s σ H Q I h
  rw [eval_ListComp]
  refine lc_core hc hN I hi ok hg ht he hs h fun D C s' m H' I' q hn f => ⟨m, hn, fun h'' sb => ?_⟩
  obtain ⟨f0, f1, f2, f3, f4, f5⟩ := f
  exact ⟨.ref D, H', I'.turned (t' := s'.toks) (fun b o hb e => (sb.2 b hb).trans e) f0 f1 f3 f4 f5, rfl, q⟩
end

/-- over a range: Pv by the turn and the heap (the new list at D within) -/
theorem lc_range {lo : Int} {n : Nat} {g : TG} {tt : TT} {te : TE} {vs : List Nat} {σ : St} {H1 : Hp} {D : Addr} {Qd : Hp → Prop} (Pv : Nat → Hp → Prop) (h0 : Pv 0 (upd H1 D (.lst [])))
    (hs : ∀ i H, i < n → Pv i H → g (.int (lo + i)) (wipe σ vs) H fun σ2 H2 => wipe σ2 vs = wipe σ vs ∧ tt σ2 H2 fun b H3 =>
      if b = true then te σ2 H3 fun y H4 => ∃ acc, H4 D = some (.lst acc) ∧ acc.length < sizeLine ∧ Pv (i + 1) (upd H4 D (.lst (acc ++ [y]))) else Pv (i + 1) H3) (hd : ∀ H, Pv n H → Qd H) :
    ∃ W : Nat → Nat → Hp → Prop, (∃ m, W 0 m (upd H1 D (.lst []))) ∧ ∀ i m H, W i m H →
      ((Itr lo n).stop i H ∧ Qd H) ∨ ((Itr lo n).go i H ∧ ∃ Nx : Hp → Prop, (∀ H', Nx H' → ∃ m', m' < m ∧ W (i + 1) m' H') ∧ ∀ x H', (Itr lo n).yld i H x H' → g x (wipe σ vs) H' fun σ2 H2 => wipe σ2 vs = wipe σ vs ∧ tt σ2 H2 fun b H3 =>
        if b = true then te σ2 H3 fun y H4 => ∃ acc, H4 D = some (.lst acc) ∧ acc.length < sizeLine ∧ Nx (upd H4 D (.lst (acc ++ [y]))) else Nx H3) := by
  refine ⟨fun i m H => m = n - i ∧ i ≤ n ∧ Pv i H, ⟨n, by simp, Nat.zero_le _, h0⟩, ?_⟩
  rintro i m H ⟨rfl, hi, p⟩
  by_cases hlt : i < n
  · refine .inr ⟨hlt, Pv (i + 1), fun H' p' => ⟨n - (i + 1), by omega, rfl, hlt, p'⟩, fun x H' y => ?_⟩
    obtain ⟨e, y⟩ := y
    subst e y
    exact hs i _ hlt p
  · have e : i = n := by omega
    subst e
    exact .inl ⟨Nat.le_refl _, hd H p⟩
def blkC (N : List Str) (sc scope : Scope) (own : List (Str × Nat)) : Bool :=
  (match scope.kind with | .function => true | _ => false) && (scope.names.all fun y => decide (scope.names.lookup y.1 = some y.2)) && (own.all fun p => decide (N[p.2]? = some p.1)) &&
    (scope.names.all fun y => match y.2 with
      | .free => (match sc.names.lookup y.1 with | some .cell => true | some .free => true | _ => false)
      | .local => decide (y.1 ∈ own.map (·.1)) || decide (y.1 ∉ N)
      | .cell => decide (y.1 ∈ own.map (·.1)) || decide (y.1 ∉ N)
      | _ => true)
theorem blkOk_by {N : List Str} {sc scope : Scope} {own : List (Str × Nat)} (h : blkC N sc scope own = true) : BlkOk N sc scope own := by
  unfold blkC at h
  simp only [Bool.and_eq_true, List.all_eq_true, decide_eq_true_eq] at h
  obtain ⟨⟨⟨h1, h2⟩, h3⟩, h4⟩ := h
  refine ⟨?_, h2, h3, fun y hy e => ?_, fun y hy e => ?_⟩
  · split at h1
    · assumption
    · cases h1
  · have q := h4 y hy
    simp only [e] at q
    split at q <;> first | exact .inl (by assumption) | exact .inr (by assumption) | cases q
  · have q := h4 y hy
    rcases e with e | e <;> (simp only [e, Bool.or_eq_true, decide_eq_true_eq] at q; exact q)
end L2

namespace L2
open PySem PySem.Spec PyProof.Rows

section
variable {prog : Program} {w : World} {A : Around} {R : Result → Shared → Prop} {s : Shared} {elt t0 i0 t1 i1 : Expr} {ifs0 ifs1 : List Expr} {scope : Scope} {pos : Pos} {it acc : Value} {env : Env}
end

section
variable {X : Cx}
end
end L2

namespace L2
open PySem PySem.Spec PyProof.Rows

section
variable {κ : Type} [DecidableEq κ]
def valV (kvs : List (κ × V)) (k : κ) : Option V := (kvs.find? fun kv => decide (kv.1 = k)).map (·.2)
/-- in its place, or at the end -/
def putK (kvs : List (κ × V)) (k : κ) (v : V) : List (κ × V) :=
  if (kvs.any fun kv => decide (kv.1 = k)) = true then kvs.map (fun kv => if kv.1 = k then (kv.1, v) else kv) else kvs ++ [(k, v)]
def dropK (kvs : List (κ × V)) (k : κ) : List (κ × V) := kvs.filter fun kv => decide (kv.1 ≠ k)

theorem valV_pos {p : κ × V} {r : List (κ × V)} {k : κ} (e : p.1 = k) : valV (p :: r) k = some p.2 := by simp [valV, List.find?_cons, e]
theorem valV_neg {p : κ × V} {r : List (κ × V)} {k : κ} (e : ¬ p.1 = k) : valV (p :: r) k = valV r k := by simp [valV, List.find?_cons, e]
theorem RelO.getD {o : Option V} {u : Option Value} {d : V} {d' : Value} (r : RelO o u) (rd : RelV d d') : RelV (o.getD d) (u.getD d') := by
  cases o with
  | none => cases u with
    | none => exact rd
    | some _ => exact (show False from r).elim
  | some _ => cases u with
    | none => exact (show False from r).elim
    | some _ => exact r

/-- raw tables of the same keys -/
theorem KV.val {kvs : List (κ × V)} {vs : List (κ × Value)} (r : KV kvs vs) (k : κ) : RelO (valV kvs k) (valueAt vs k) := by
  unfold KV at r
  induction r with
  | nil => exact True.intro
  | @cons p q ps qs h t ih =>
    obtain ⟨h1, h2⟩ := h
    by_cases e : p.1 = k
    · have e' : q.1 = k := h1.symm.trans e
      have b : valueAt (q :: qs) k = some q.2 := by simp [valueAt, List.find?_cons, e']
      rw [valV_pos e, b]; exact h2
    · have e' : ¬ q.1 = k := fun z => e (h1.trans z)
      have b : valueAt (q :: qs) k = valueAt qs k := by simp [valueAt, List.find?_cons, e']
      rw [valV_neg e, b]; exact ih
theorem KV.any {kvs : List (κ × V)} {vs : List (κ × Value)} (r : KV kvs vs) (k : κ) : (kvs.any fun kv => decide (kv.1 = k)) = vs.any fun kv => decide (kv.1 = k) := by
  unfold KV at r
  induction r with
  | nil => rfl
  | cons h t ih => rw [List.any_cons, List.any_cons, ih, h.1]
theorem KV.drop {kvs : List (κ × V)} {vs : List (κ × Value)} (r : KV kvs vs) (k : κ) : KV (dropK kvs k) (without vs k) := by
  unfold KV at r ⊢
  unfold dropK without
  induction r with
  | nil => exact .nil
  | @cons p q ps qs h t ih =>
    obtain ⟨h1, h2⟩ := h
    rw [List.filter_cons, List.filter_cons]
    by_cases e : p.1 = k
    · have a : ¬ decide (p.1 ≠ k) = true := by simp [e]
      have b : ¬ decide (q.1 ≠ k) = true := by simp [h1.symm.trans e]
      rw [if_neg a, if_neg b]; exact ih
    · have e' : ¬ q.1 = k := fun z => e (h1.trans z)
      have a : decide (p.1 ≠ k) = true := by simp [e]
      have b : decide (q.1 ≠ k) = true := by simp [e']
      rw [if_pos a, if_pos b]; exact .cons ⟨h1, h2⟩ ih
theorem KV.keys {kvs : List (κ × V)} {vs : List (κ × Value)} (r : KV kvs vs) : kvs.map (·.1) = vs.map (·.1) := by
  unfold KV at r
  induction r with
  | nil => rfl
  | cons h t ih => rw [List.map_cons, List.map_cons, ih, h.1]
theorem KV.length {kvs : List (κ × V)} {vs : List (κ × Value)} (r : KV kvs vs) : kvs.length = vs.length := Paired.length r
end


/-- raw entries of a dict with tuple keys -/
abbrev KT (H : Hp) : List (List Key × V) → List (List Key × Addr × Value) → Prop := Paired fun p q => p.1 = q.1 ∧ H q.2.1 = some (.tup (p.1.map kV)) ∧ RelV p.2 q.2.2
theorem KT.val {H : Hp} {kvs : List (List Key × V)} {xs : List (List Key × Addr × Value)} (r : KT H kvs xs) (k : List Key) : RelO (valV kvs k) ((atKey xs k).map (·.2)) := by
  induction r with
  | nil => exact True.intro
  | @cons p q ps qs h t ih =>
    obtain ⟨h1, _, h2⟩ := h
    by_cases e : p.1 = k
    · have e' : q.1 = k := h1.symm.trans e
      have b : atKey (q :: qs) k = some q.2 := by simp [atKey, List.find?_cons, e']
      rw [valV_pos e, b]; exact h2
    · have e' : ¬ q.1 = k := fun z => e (h1.trans z)
      have b : atKey (q :: qs) k = atKey qs k := by simp [atKey, List.find?_cons, e']
      rw [valV_neg e, b]; exact ih
theorem KT.keeps {H H' : Hp} {kvs : List (List Key × V)} {xs : List (List Key × Addr × Value)} (r : KT H kvs xs) (ht : ∀ b ys, H b = some (.tup ys) → H' b = some (.tup ys)) : KT H' kvs xs :=
  Paired.mapP r fun _ _ z => ⟨z.1, ht _ _ z.2.1, z.2.2⟩

section
variable {P : Program} {w : World} {H : Hp} {h : Heap} {a : Addr}
end

/-- what the dict at a holds at the key y -/
def DGet (H : Hp) (a : Addr) (y : V) (r : Option V) : Prop :=
  (∃ kvs k, Rd H a (.dK kvs) ∧ y = kV k ∧ r = valV kvs k) ∨ ∃ kvs k b, Rd H a (.dT kvs) ∧ y = .ref b ∧ H b = some (.tup (k.map kV)) ∧ r = valV kvs k
/-- the heap behind a[y] = v -/
def DPut (H : Hp) (a : Addr) (y v : V) (H' : Hp) : Prop :=
  (∃ kvs k, H a = some (.dK kvs) ∧ y = kV k ∧ kvs.length < sizeLine ∧ H' = upd H a (.dK (putK kvs k v))) ∨
  ∃ kvs k b, H a = some (.dT kvs) ∧ y = .ref b ∧ H b = some (.tup (k.map kV)) ∧ kvs.length < sizeLine ∧ H' = upd H a (.dT (putK kvs k v))
theorem DGet.k {H : Hp} {a : Addr} {kvs : List (Key × V)} {k : Key} (e : H a = some (.dK kvs)) : DGet H a (kV k) (valV kvs k) := .inl ⟨kvs, k, .inl e, rfl, rfl⟩
theorem DGet.t {H : Hp} {a b : Addr} {kvs : List (List Key × V)} {k : List Key} (e : H a = some (.dT kvs)) (eb : H b = some (.tup (k.map kV))) : DGet H a (.ref b) (valV kvs k) := .inr ⟨kvs, k, b, .inl e, rfl, eb, rfl⟩
theorem DPut.k {H : Hp} {a : Addr} {kvs : List (Key × V)} {k : Key} {v : V} (e : H a = some (.dK kvs)) (hl : kvs.length < sizeLine) : DPut H a (kV k) v (upd H a (.dK (putK kvs k v))) := .inl ⟨kvs, k, e, rfl, hl, rfl⟩
theorem DPut.t {H : Hp} {a b : Addr} {kvs : List (List Key × V)} {k : List Key} {v : V} (e : H a = some (.dT kvs)) (eb : H b = some (.tup (k.map kV))) (hl : kvs.length < sizeLine) :
    DPut H a (.ref b) v (upd H a (.dT (putK kvs k v))) := .inr ⟨kvs, k, b, e, rfl, eb, hl, rfl⟩


section
variable {X : Cx} {pins : List (Addr × Obj)} {σ : St} {H : Hp} {s : Shared} {a : Addr} {y v : V} {u r : Value} {o : Option V} {A : Around} {E : Value → Shared → Prop}

end

section
variable {X : Cx} {pins : List (Addr × Obj)} {σ : St} {H : Hp} {s : Shared} {a : Addr} {kvs : List (Key × V)} {k : Key} {u : Value} {A : Around} {E : Value → Shared → Prop}
end


section
variable {X : Cx} {o i e value : Expr} {pos pos' tpos : Pos} {td ty tv : TE}
end


section
variable {X : Cx} {pos : Pos}
end

/-- a method call o.m(e) of a built-in, with one argument: what must be seen of the text -/
structure M1 (X : Cx) (o : Expr) (m : Str) (apos : Pos) (e : Expr) (cpos : Pos) : Prop where
  base : attributeBase o m X.env (eval o X.env) = eval o X.env
  few : ((backTo cpos (starEach [e] X.env)).all (fun x => !x.1) && (backToKw cpos (keywordEach [] X.env)).all (fun x => x.1.isSome)
    && decide (([e] : List Expr).length + ([] : List Keyword).length + (if ([] : List Keyword).isEmpty then 0 else 1) < 30)) = true
  line : (apos.endLine == cpos.line) = true
  trees : backTo cpos (starEach [e] X.env) = [(false, eval e X.env)]
structure M2 (X : Cx) (o : Expr) (m : Str) (apos : Pos) (e f : Expr) (cpos : Pos) : Prop where
  base : attributeBase o m X.env (eval o X.env) = eval o X.env
  few : ((backTo cpos (starEach [e, f] X.env)).all (fun x => !x.1) && (backToKw cpos (keywordEach [] X.env)).all (fun x => x.1.isSome)
    && decide (([e, f] : List Expr).length + ([] : List Keyword).length + (if ([] : List Keyword).isEmpty then 0 else 1) < 30)) = true
  line : (apos.endLine == cpos.line) = true
  trees : backTo cpos (starEach [e, f] X.env) = [(false, eval e X.env), (false, eval f X.env)]

section
variable {X : Cx} {pins : List (Addr × Obj)} {σ : St} {H : Hp} {s : Shared} {a : Addr} {y d : V} {u r : Value} {o : Option V} {A : Around} {E : Value → Shared → Prop}
end

section
variable {X : Cx} {o e f : Expr} {apos cpos : Pos} {td ty tx : TE}
end

section
variable {X : Cx} {pins : List (Addr × Obj)} {σ : St} {H : Hp} {s : Shared} {a : Addr} {kvs : List (Key × V)} {A : Around} {E : Value → Shared → Prop}
end


section
variable {X : Cx} {pins : List (Addr × Obj)} {σ : St} {H : Hp} {s : Shared} {a : Addr} {y : V} {u : Value} {A : Around} {E : Value → Shared → Prop}
end
end L2

namespace L2
open PySem PySem.Spec PyProof.Rows

section
variable {prog : Program} {w : World} {A : Around} {E : Value → Shared → Prop}
end

section
variable {X : Cx}
end
end L2

namespace L2
open PySem PySem.Spec PyProof.Rows

section
variable {X : Cx} {pins : List (Addr × Obj)} {σ : St} {H : Hp} {s : Shared} {h' : Heap}
end
section
variable {X : Cx}
end

section
variable {X : Cx} {tg : Expr}
end
section
variable {X : Cx} {tg : Expr}
end

section
variable {prog : Program} {w : World} {A : Around} {E : Value → Shared → Prop} {s : Shared}
end

section
variable {X : Cx} {pins : List (Addr × Obj)} {σ : St} {H : Hp} {s : Shared} {d : Addr} {o : Obj}
end

section
variable {P : Program} {w : World} {K : PySem.W.Frag} {tg : Expr} {d : Addr} {o : Obj} {es : Array DictEntry} {ep : Nat}
end

section
variable {X : Cx} {tg e : Expr} {td : TE} {apos cpos : Pos}
end

end L2

section 
namespace Bits
open PySem PyProof.Rows

end Bits
end 

section 
namespace TL
open PySem PySem.Builtin PySem.Builtin.Str PySem.StrLaws

abbrev tl (x : Str) : List Nat := x.cps.toList
theorem len_tl (x : Str) : x.length = (tl x).length := by simp [tl, Str.length]
/-- S stands at the head of l -/
def pre (S l : List Nat) : Bool := l.take S.length == S
/-- what stands before the first S, and behind it -/
def par (S : List Nat) : List Nat → List Nat → Option (List Nat × List Nat)
  | _, [] => none
  | acc, c :: r => if pre S (c :: r) = true then some (acc, (c :: r).drop S.length) else par S (acc ++ [c]) r

theorem len1 {y : Str} (hy : tl y ≠ []) : 1 ≤ y.length := by
  have e2 : 0 < (tl y).length := List.length_pos_iff.mpr hy
  rw [len_tl y]
  exact e2
end TL
end 

namespace L2
open PySem PySem.Spec PyProof.Rows

theorem notLong {n : Nat} (h : n ≤ 16777216) : Builtin.Str.tooLong n = false := by
  have e : (2 : Nat) ^ 24 = 16777216 := by decide
  unfold Builtin.Str.tooLong sizeLine
  exact decide_eq_false (by omega)

section
variable {X : Cx} {pins : List (Addr × Obj)} {σ : St} {H : Hp} {s : Shared} {Q : VK}
end

section
variable {X : Cx}

end

section
variable {X : Cx} {o e : Expr} {to te : TE}
end
end L2

namespace L2
open PySem PySem.Spec PyProof.Rows

section
variable {X : Cx}
end

theorem IsPart.raw {v : Value} {o : Option Int} (p : IsPart v o) : ∃ l : Option (Int × Tok), v = partValue l ∧ l.map (·.1) = o := by
  cases p with
  | none => exact ⟨none, rfl, rfl⟩
  | int i t => exact ⟨some (i, t), rfl, rfl⟩

end L2

namespace Att
open PySem PySem.W PySem.Calls PyProof.Rows

theorem ints_of_wellAll {P : Params} {h : Heap} : ∀ (ns : List Int) (vs : List Value), WellAll P h vs (ns.map WData.int) → IntsAre vs ns := by
  intro ns
  induction ns with
  | nil =>
    intro vs w
    rw [List.map_nil] at w
    cases w
    exact .nil
  | cons n ns ih =>
    intro vs w
    rw [List.map_cons] at w
    cases w with
    | cons a b =>
      cases a
      exact .cons _ _ (ih _ b)

theorem script_of {l : OpenLaw} {n : Nat} (hn : l.most = some n) {P : Params} {h : Heap} {args : List WData} {vals : List Value}
    (hpre : l.row.toRowW.claim.pre args = true) (hwl : WellAll P h vals args) :
    ∃ a vs ns, vals = [Value.ref a] ∧ args = [WData.list (ns.map WData.int)] ∧ h.get? a = some { cls := .type "list", data := .seq vs.toArray } ∧ IntsAre vs ns ∧ ns.length ≤ n := by
  have hsh : WShape.hasAll [] args [.list .int] = true := (pre_splitW hpre).1
  have hc : l.pre.holds [] { args := args } = true := (pre_splitW hpre).2
  obtain ⟨d, r, rfl, h1, h2⟩ := hasAllW_cons hsh
  obtain rfl := hasAllW_nil h2
  obtain ⟨xs, rfl, h3⟩ := hasW_list h1
  obtain ⟨ns, rfl⟩ := items_int h3
  have hlen : ns.length ≤ n := by
    unfold OpenLaw.pre at hc
    have h4 : (WTm.not (.lt (.lit (.int (n : Int))) (.len (.arg 0)))).holds [] { args := [.list (ns.map .int)] } = true := by
      have h4 := (holds_andW hc).1
      rw [hn] at h4
      exact h4
    have h5 := condW_of h4 (w_not (w_lt w_lit (w_len_list (w_arg rfl))))
    rw [List.length_map] at h5
    refine Nat.le_of_not_lt fun q => ?_
    have q' : (n : Int) < ((ns.length : Nat) : Int) := by omega
    first
      | (rw [decide_eq_true q'] at h5; exact absurd h5 (by decide))
      | (simp at h5; omega)
  cases hwl with
  | cons w1 w2 =>
    cases w2
    cases w1 with
    | list ho hall => exact ⟨_, _, ns, rfl, rfl, ho, ints_of_wellAll ns _ hall, hlen⟩

theorem post_true (l : OpenLaw) (args : List WData) : l.row.toRowW.claim.post args (.bool true) args = true :=
  postW_of (r := l.row.toRowW) (X := (true == true))
    (show WShape.has [] (.bool true) .bool = true by first | rfl | decide | simp [WShape.has, WShape.arms, WShape.armsAll])
    (show (WTm.eq .res (.lit (.bool true))).value [] { args := args, res := some (.bool true), after := args } = some (.bool (true == true)) from w_eq_bool (w_res rfl) w_lit) rfl

/-- the same from a codeAny of the CALL (for a layer whose function contracts speak of calls) -/
theorem attach_call {l : OpenLaw} {n : Nat} {q : Program} {loose : List Str} {XP : (Str → Option Value) → Heap → Prop} {YP : World → Heap → Prop} {d : DefRec}
    (hn : l.most = some n) (hdf : d.params.defaults = [])
    (call : ∀ (w : World) (s₀ s₁ : Shared) (mg mb : Str → Option Value) (fa : Addr) (o : Obj) (pm cd doc : Value) (a : Addr) (vs : List Value) (ns : List Int),
      Ground q loose [] XP w s₀ mg mb s₁.heap → YP w s₁.heap →
      s₁.heap.get? fa = some o → o.data = .func (docDef d.name d.params d.body d.scope pm cd doc) → s₁.heap.CodeRec cd d.name → mg d.name = some (.ref fa) →
      s₁.heap.get? a = some { cls := .type "list", data := .seq vs.toArray } → IntsAre vs ns → ns.length ≤ n → s₁.gens = #[] →
      codeAny (model l.prog w) callerA (.call (.ref fa) ⟨[.ref a], []⟩) (fun r s' => r = .ok (.ret (.bool true)) ∧ OldK s₁.heap s'.heap ∧ s'.os = s₁.os ∧ AllBare s'.gens) s₁) :
    WalkO q loose XP YP l.row.toRowW d [] (fun f vs => PySem.call f vs) := by
  intro w s₀ s₁ mg mb G Y fa o pm cd doc dV kV ho hd hcd hD hmg hg args vals as hpre hlay hrd hwl hlo
  obtain rfl : dV = .none := Dflts.none hD hdf
  obtain rfl : kV = .none := Dflts.noKw hD
  obtain ⟨a, vs, ns, rfl, rfl, hobj, hints, hlen⟩ := script_of hn hpre hwl
  refine enter_call (codeAny_mono (call w s₀ s₁ mg mb fa o pm cd doc a vs ns G Y ho (fd_plain hd) hcd hmg hobj hints hlen hg) fun r s' hq => ?_)
  obtain ⟨rfl, h2, h3, h4⟩ := hq
  exact ⟨.inl ⟨.bool true, .bool true, [], rfl, fun _ => rfl, .bool true, post_true l _, fun _ => ⟨List.Pairwise.nil, fun _ hm => (nomatch hm)⟩⟩, h2, h3, h4⟩

section
variable {prog : Program} {w : World} {A : Around} {E : Value → Shared → Prop} {s : Shared} {K : Frag}

end
end Att

namespace L2
open PySem PySem.Spec PyProof.Rows

theorem vals_ints : ∀ {vs : List Value} {ns : List Int}, IntsAre vs ns → Vals (ns.map V.int) vs
  | _, _, .nil => .nil
  | _, _, .cons n t h => .cons ⟨t, rfl⟩ (vals_ints h)

end L2

namespace L2
open PySem PySem.Spec PyProof.Rows

abbrev KOf {K : PySem.W.Frag} {h : Heap} (_ : K.In h) : PySem.W.Frag := K

end L2



namespace L2
open PySem PySem.Spec PyProof.Rows

/-- the j-th statement of a class's body -/
def inClass (s : Stmt) (j : Nat) : Stmt := match s with
  | .ClassDef _ _ _ body _ _ _ _ _ _ _ => body.getD j (.Pass ⟨0, 0, 0, 0⟩)
  | _ => .Pass ⟨0, 0, 0, 0⟩
def defArgs (s : Stmt) : Arguments := match s with
  | .FunctionDef _ a _ _ _ _ _ _ _ _ => a
  | _ => { posonlyargs := [], args := [], vararg := none, kwonlyargs := [], kw_defaults := [], kwarg := none, defaults := [] }
def defBody (s : Stmt) : List Stmt := match s with
  | .FunctionDef _ _ b _ _ _ _ _ _ _ => b
  | _ => []
def defScope (s : Stmt) : Scope := match s with
  | .FunctionDef _ _ _ _ _ _ sc _ _ _ => sc
  | _ => { kind := .function, names := [], isGenerator := false, isCoroutine := false }

abbrev CX0 : CXT := fun _ _ _ _ _ _ => False
abbrev E0 : XK := fun _ _ _ => False
theorem pass0 {X : Cx} : Passes CX0 X E0 := fun _ _ _ _ _ _ _ h => h.elim

structure Fun (K : PySem.W.Frag) (x qual : Str) (st : Stmt) (f : Addr) (fd : FuncData) : Prop where
  ex : ∃ (oc : Value) (od : Option Addr) (kV doc pm : Value) (an : Option Addr) (cdv ct : Value) (osl : Array (Option Value)),
    fd = PySem.W.fnOf x qual (defArgs st) (defBody st) (defScope st) .none kV doc pm an cdv ct ∧ K.lookup f = some ⟨oc, od, .func fd, osl⟩ ∧ PySem.W.codeIn K cdv qual = true
  kp : PySem.W.keepIn K (.ref f) = true
section
variable {P : Program} {w : World} {K : PySem.W.Frag} {mg : Str → Option Value} {base : Heap}
/-- THE RULE for a def: its body as a term of rules, and the reading of that term -/
theorem Fun.ok {x qual : Str} {st : Stmt} {f : Addr} {fd : FuncData} {N ps : List Str} {k : Nat} {sp : Sp} (F : Fun K x qual st f fd) (S : FnScope N ps (defScope st)) (len : ∀ vs H Q E, sp vs H Q E → vs.length = ps.length)
    (hbody : ∀ (cdv : Value) (A : Around) (outer : List Env) (s : Shared) (H : Hp) (vs : List V) (Q : VK) (E : XK), Room k (A.deeper (envOfC qual (defScope st) s.heap.objs.size f cdv)) → sp vs H Q E →
      ∃ t, PSs (cxOf CX0 P w K mg base N qual (defScope st) f cdv A outer s H E).nox (defBody st) t ∧ t { nx := fun _ H' => Q .non H', rt := Q } (start N vs) H) : FnOk P w K mg base CX0 (k + 1) f fd ps sp := by
  obtain ⟨oc, od, kV, doc, pm, an, cdv, ct, osl, rfl, lk, hcd⟩ := F.ex
  refine fn_of lk hcd S len fun A outer s H vs Q E hr hsp => ?_
  obtain ⟨t, h, q⟩ := hbody cdv A outer s H vs Q E hr hsp
  exact ⟨t, h.nox, q⟩
/-- how its arguments bind (no defaults): h is «fun _ _ _ _ _ _ us hl => match us, hl with | [_, _], _ => rfl», one _ a parameter -/
theorem Fun.binds {x qual : Str} {st : Stmt} {f : Addr} {fd : FuncData} {ps : List Str} (F : Fun K x qual st f fd)
    (h : ∀ (kV doc pm : Value) (an : Option Addr) (cdv ct : Value) (us : List Value), us.length = ps.length → bindArgs (PySem.W.fnOf x qual (defArgs st) (defBody st) (defScope st) .none kV doc pm an cdv ct) ⟨us, []⟩ = pure (ps.zip us)) : Binds K fd ps [] := by
  obtain ⟨oc, od, kV, doc, pm, an, cdv, ct, osl, rfl, lk, hcd⟩ := F.ex
  exact .all (h kV doc pm an cdv ct)
theorem fun_mk {x qual : Str} {st : Stmt} {f : Addr} {oc : Value} {od an : Option Addr} {osl : Array (Option Value)} {kV doc pm cdv ct : Value} (l : K.lookup f = some ⟨oc, od, .func (PySem.W.fnOf x qual (defArgs st) (defBody st) (defScope st) .none kV doc pm an cdv ct), osl⟩)
    (c : PySem.W.codeIn K cdv qual = true) (k : PySem.W.keepIn K (.ref f) = true) : Fun K x qual st f (PySem.W.fnOf x qual (defArgs st) (defBody st) (defScope st) .none kV doc pm an cdv ct) := ⟨⟨oc, od, kV, doc, pm, an, cdv, ct, osl, rfl, l, c⟩, k⟩
end
theorem small1000 {n : Nat} (h : n ≤ 1000) : n < sizeLine := Nat.lt_of_le_of_lt h (by decide)

section
variable {X : Cx}
theorem pv (i : Nat) {x : Str} {pos : Pos} (hN : X.N[i]? = some x := by rfl) (hv : Vis X.env.scope x := by first | exact Or.inl rfl | exact Or.inr (Or.inl rfl) | exact Or.inr (Or.inr rfl)) (hd : (x == ("__debug__" : Str)) = false := by decide)
    (hcd : (x == ("__classdict__" : Str)) = false := by decide) : PE X (.Name x pos) (tVar i) := pe_var hN hv hd hcd
end

theorem iteF {A B : Prop} (h : B) : if false = true then A else B := by
  rw [if_neg Bool.false_ne_true]
  exact h
theorem ite2 {c A B : Prop} [Decidable c] (h1 : c → A) (h2 : ¬ c → B) : if c then A else B := by
  by_cases h : c
  · rw [if_pos h]
    exact h1 h
  · rw [if_neg h]
    exact h2 h
/-- all that was tracked is as it was -/
def Same (H H' : Hp) : Prop := ∀ b o, H b = some o → H' b = some o
theorem Same.refl (H : Hp) : Same H H := fun _ _ h => h
theorem Same.trans {H H1 H2 : Hp} (a : Same H H1) (b : Same H1 H2) : Same H H2 := fun c o h => b c o (a c o h)
theorem Same.free {H H' : Hp} (e : Same H H') {l : Addr} (h : H' l = Option.none) : H l = Option.none := by
  cases q : H l with
  | none => rfl
  | some o =>
    rw [e l o q] at h
    cases h
theorem Same.seq {K : PySem.W.Frag} {H H' : Hp} {a : Addr} {xs : List V} (e : Same H H') (h : SqL K H a xs) : SqL K H' a xs := by
  rcases h with (h | ⟨o, h⟩) | h
  · exact .inl (.inl (e _ _ h))
  · exact .inl (.inr ⟨o, e _ _ h⟩)
  · exact .inr h

section
variable {κ : Type} [DecidableEq κ]
end
theorem nd_ix {α : Type} {l : List α} (hN : l.Nodup) {i j : Nat} {x : α} (a : l[i]? = some x) (b : l[j]? = some x) : i = j := by
  obtain ⟨h1, e1⟩ := List.getElem?_eq_some_iff.mp a
  obtain ⟨h2, e2⟩ := List.getElem?_eq_some_iff.mp b
  exact (List.getElem_inj hN).mp (e1.trans e2.symm)
/-- a new instance and its __init__ leave all that was tracked as it was -/
theorem Same.made {H H1 : Hp} {x dx C : Addr} (nx : H x = Option.none) (nd : H dx = Option.none) (k : ∀ b o, (upd (upd H dx (.own x)) x (.ins C dx [])) b = some o → b ≠ x → H1 b = some o) : Same H H1 := fun b o e =>
  k b o (by rw [upd_ne (ne_of_none e nx), upd_ne (ne_of_none e nd)]; exact e) (ne_of_none e nx)
end L2

set_option Elab.async false
set_option linter.all false
set_option maxRecDepth 100000
set_option maxHeartbeats 4000000
namespace PySem
theorem size_setGen (s : Shared) (g : Nat) (x : GenState) : (s.setGen g x).gens.size = s.gens.size := by simp [Shared.setGen]
theorem Runs.gens_le {M : Model} {Γ : Ctx} {p : Pos} {t : Sem Fin} {fs : List Frame} {s s' : Shared} {e : End} (h : Runs M Γ p t fs s e s') : s.gens.size ≤ s'.gens.size := by
  induction h <;> (try simp only [size_setGen, Array.size_push] at *) <;> omega
theorem Returns.gens_le {M : Model} {Γ : Ctx} {p : Pos} {s s' : Shared} {r : Result} (h : Returns M Γ p s r s') : s.gens.size ≤ s'.gens.size := Runs.gens_le h
theorem Wakes.gens_le {M : Model} {Γ : Ctx} {p : Pos} {g : Nat} {r : Resume} {s s' : Shared} {res : GenResult} (h : Wakes M Γ p g r s res s') : s.gens.size ≤ s'.gens.size := by
  have k : ∀ {e₁ : End} {s₁ : Shared} {Γ' p' t'} {x y : GenState}, Runs M Γ' p' t' [] (s.setGen g x) e₁ s₁ → s.gens.size ≤ (s₁.setGen g y).gens.size := fun {e₁ s₁ Γ' p' t' x y} q => by
    have := Runs.gens_le q
    rw [size_setGen] at this ⊢
    exact this
  have k2 : ∀ {e₁ : End} {s₁ : Shared} {Γ' p' t' fs'} {x y : GenState}, Runs M Γ' p' t' fs' (s.setGen g x) e₁ s₁ → s.gens.size ≤ (s₁.setGen g y).gens.size := fun {e₁ s₁ Γ' p' t' fs' x y} q => by
    have := Runs.gens_le q
    rw [size_setGen] at this ⊢
    exact this
  unfold Wakes at h
  split at h
  · exact h.elim
  · split at h
    · obtain ⟨e₁, s₁, hr, _, _, rfl⟩ := h
      exact k hr
    · rw [h.2]; first | exact Nat.le_refl _ | (rw [size_setGen]; exact Nat.le_refl _)
    · rw [h.2]; first | exact Nat.le_refl _ | (rw [size_setGen]; exact Nat.le_refl _)
  · obtain ⟨e₁, s₁, hr, _, _, rfl⟩ := h
    exact k2 hr
  · rw [h.2]; exact Nat.le_refl _
  · rw [h.2]; exact Nat.le_refl _
namespace Sem
theorem wp_gens {α : Type} (M : Model) (Γ : Ctx) (n : Nat) (t : Sem α) : ∀ (Q : α → Pos → Shared → Prop) (E : Value → Pos → Shared → Prop) (p : Pos) (s : Shared), n ≤ s.gens.size → wp M Γ t Q E p s →
    wp M Γ t (fun a p' s' => n ≤ s'.gens.size ∧ Q a p' s') (fun e p' s' => n ≤ s'.gens.size ∧ E e p' s') p s := by
  induction t with
  | pure a => intro Q E p s hn h; exact ⟨hn, h⟩
  | raise e => intro Q E p s hn h; exact ⟨hn, h⟩
  | unsupported _ => intro Q E p s _ h; exact h
  | finish _ => intro Q E p s _ h; exact h
  | rule _ k ih => intro Q E p s hn h; exact ih () Q E p s hn h
  | «at» p' k ih => intro Q E p s hn h; exact ih () Q E p' s hn h
  | load a _ k ih => intro Q E p s hn h; obtain ⟨o, ho, h⟩ := h; exact ⟨o, ho, ih o Q E p s hn h⟩
  | update a _ f k ih => intro Q E p s hn h; exact ⟨h.1, ih () Q E p _ hn h.2⟩
  | loadIfAlive a k ih => intro Q E p s hn h; exact ih _ Q E p s hn h
  | point _ k ih => intro Q E p s hn h; exact ih () Q E p s hn h
  | register _ _ => intro Q E p s _ h; exact h
  | alloc o k ih => intro Q E p s hn h; exact ih _ Q E p _ hn h
  | fresh k ih => intro Q E p s hn h; exact ih _ Q E p _ hn h
  | ask k ih => intro Q E p s hn h; exact ih _ Q E p s hn h
  | choose src m k ih => intro Q E p s hn h; exact ⟨h.1, ih _ Q E p _ hn h.2⟩
  | os q _ k ih => intro Q E p s hn h; exact ih _ Q E p _ hn h
  | call c hd _ _ k ih => intro Q E p s hn h; obtain ⟨r, s', hr, h⟩ := h; exact ⟨r, s', hr, ih r Q E p s' (Nat.le_trans hn hr.gens_le) h⟩
  | handled own k ih => intro Q E p s hn h; exact ih _ Q E p s hn h
  | genState g k ih => intro Q E p s hn h; obtain ⟨st, hs, h⟩ := h; exact ⟨st, hs, ih _ Q E p s hn h⟩
  | newGen c k ih => intro Q E p s hn h; exact ih _ Q E p _ (by simp only [Array.size_push]; exact Nat.le_succ_of_le hn) h
  | resume g r _ k ih => intro Q E p s hn h; obtain ⟨res, s', hw, h⟩ := h; exact ⟨res, s', hw, ih res Q E p s' (Nat.le_trans hn hw.gens_le) h⟩
  | yield _ _ _ _ => intro Q E p s _ h; exact h
  | stack k ih => intro Q E p s hn h; exact ih _ Q E p s hn h
  | fork _ _ => intro Q E p s _ h; exact h
  | thread k ih => intro Q E p s hn h; exact ih _ Q E p s hn h
  | await _ _ _ _ _ => intro Q E p s _ h; exact h
end Sem
theorem wpAny_gens_of {α : Type} {M : Model} {A : Around} {s : Shared} {t : Sem α} {Q : α → Shared → Prop} {E : Value → Shared → Prop} {n : Nat} (hn : n ≤ s.gens.size) (h : wpAny M A t Q E s) :
    wpAny M A t (fun a s' => n ≤ s'.gens.size ∧ Q a s') (fun e s' => n ≤ s'.gens.size ∧ E e s') s :=
  fun Γ p hΓ => Sem.wp_gens M Γ n t _ _ p s hn (h Γ p hΓ)
end PySem

set_option Elab.async false
set_option linter.all false
set_option maxRecDepth 100000
set_option maxHeartbeats 4000000
namespace L2
open PySem PySem.Spec PyProof.Rows
abbrev Cx.gblk (X : Cx) (A' : Around) (s : Shared) (H : Hp) (cenv : Env) (fp : List Addr) : Cx := { X with A := A', s_0 := s, H_0 := H, env := cenv, outer := X.stack, stack := cenv :: X.stack, ex := fp, fn := fun _ => false, pn := [], xe := fun _ _ => False }
section
variable {X : Cx} {pins : List (Addr × Obj)} {σ : St} {H : Hp} {s s' : Shared}
end
end L2

set_option Elab.async false
set_option linter.all false
set_option maxRecDepth 100000
set_option maxHeartbeats 4000000
namespace L2
open PySem PySem.Spec PyProof.Rows
theorem thnG {α : Type} {t : Sem α} {Q Q' : α → Shared → Prop} {M : Model} {A : Around} {E : Value → Shared → Prop} {s : Shared} {n : Nat} (h : wpAny M A t Q (fun _ _ => False) s) (hn : n < s.gens.size) (hQ : ∀ a s, n < s.gens.size → Q a s → Q' a s) : wpAny M A t Q' E s :=
  wpAny_mono (wpAny_gens_of (n := n + 1) hn h) (fun a s x => hQ a s x.1 x.2) fun _ _ z => False.elim z.2
/-- a generator that has stopped at a yield, or has not begun -/
def GenP (Xg : Cx) (pl : List (Addr × Obj)) (fp : List Addr) (tn : Nat → Heap → Prop) (σw : St) (W : Nat → Nat → Hp → Prop) (Yl : Nat → Nat → V → Hp → Prop) (gn : Nat) : Protocol := fun n s₀ v s kap =>
  ∃ (i m : Nat) (y : V) (H : Hp), RelV y v ∧ Inv Xg pl σw H s ∧ tn (i + 1) s.heap ∧ (∀ b ∈ fp, H b = none) ∧ gn < s.gens.size ∧ m ≤ n ∧ Yl i m y H ∧
    ∀ (m' : Nat) (s'' : Shared), m' < m → W (i + 1) m' H → s''.heap = s.heap → s''.os = s.os → AllBare s''.gens → gn < s''.gens.size → kap (.send .none) s''
theorem Inv.gens {X : Cx} {pins : List (Addr × Obj)} {σ : St} {H : Hp} {s s' : Shared} (I : Inv X pins σ H s) (hh : s'.heap = s.heap) (ho : s'.os = s.os) (hb : AllBare s'.gens) : Inv X pins σ H s' :=
  ⟨I.ok, ho.trans I.os, hb, by rw [hh]; exact I.base, by rw [hh]; exact I.loc, by rw [hh]; exact I.cell, I.free, I.freeC, by rw [hh]; exact I.pin, by rw [hh]; exact I.hok, I.len⟩
section
variable {X : Cx} {AA : Around} {s0 : Shared} {H0 : Hp} {cenv : Env} {fp : List Addr} {it : Addr} {tn : Nat → Heap → Prop} {J : It} {elt tg iter : Expr} {ifs : List Expr} {scope : Scope} {pos : Pos} {g : TG} {tt : TT} {te : TE} {vs : List Nat}
  {σw : St} {W : Nat → Nat → Hp → Prop} {Yl : Nat → Nat → V → Hp → Prop} {En : Hp → Prop} {pl : List (Addr × Obj)} {gn : Nat}
abbrev cL (elt tg iter : Expr) (ifs : List Expr) (scope : Scope) (pos : Pos) (it : Addr) (cenv : Env) : Code := .compLoop (.GeneratorExp elt [⟨tg, iter, ifs, 0⟩] scope pos) 0 (.ref it) .none cenv
abbrev GenR (Xg : Cx) (pl : List (Addr × Obj)) (σw : St) (En : Hp → Prop) (gn : Nat) : GenEnd := fun _ _ r s₁ => r = .ok .next ∧ ∃ H', Inv Xg pl σw H' s₁ ∧ En H' ∧ gn < s₁.gens.size
theorem seg_gl (hc : X.calm = true) (T : Turn X.prog X.w X.K tg J fp it tn) (hco : cenv.scope.isCoroutine = false)
    (pg : PG (X.gblk (AA.over (cL elt tg iter ifs scope pos it cenv) []) s0 H0 cenv fp) tg g) (pt : PTs (X.gblk (AA.over (cL elt tg iter ifs scope pos it cenv) []) s0 H0 cenv fp) ifs tt) (pe : PE (X.gblk (AA.over (cL elt tg iter ifs scope pos it cenv) []) s0 H0 cenv fp) elt te)
    (hpl : ∀ p ∈ pl, p.1 ∉ fp)
    (turn : ∀ i m H, W i m H → (J.stop i H ∧ En H) ∨ (J.go i H ∧ ∃ Nx : Hp → Prop, (∀ H', Nx H' → ∃ m', m' < m ∧ W (i + 1) m' H') ∧ ∀ x H', J.yld i H x H' → g x σw H' fun σ2 H2 => wipe σ2 vs = σw ∧ tt σ2 H2 fun b H3 =>
      if b = true then te σ2 H3 fun y H4 => Yl i m y H4 else Nx H3)) :
    ∀ (m n i : Nat) (s₀ s : Shared) (H : Hp), m < n → Inv (X.gblk (AA.over (cL elt tg iter ifs scope pos it cenv) []) s0 H0 cenv fp) pl σw H s → tn i s.heap → (∀ b ∈ fp, H b = none) → gn < s.gens.size → W i m H →
      Seg (model X.prog X.w) AA (GenR (X.gblk (AA.over (cL elt tg iter ifs scope pos it cenv) []) s0 H0 cenv fp) pl σw En gn) (GenP (X.gblk (AA.over (cL elt tg iter ifs scope pos it cenv) []) s0 H0 cenv fp) pl fp tn σw W Yl gn) n s₀ (cL elt tg iter ifs scope pos it cenv)
        ((model X.prog X.w).den (cL elt tg iter ifs scope pos it cenv)) [] s := by
  intro m
  induction m using Nat.strongRecOn with
  | ind m ih =>
  intro n i s₀ s H hmn I st nf hgn w
  have stat : ∀ {σ' : St} {H' : Hp} {s' : Shared}, Inv (X.gblk (AA.over (cL elt tg iter ifs scope pos it cenv) []) s0 H0 cenv fp) pl σ' H' s' → (∀ b ∈ fp, H' b = none) → ∀ b ∈ fp, FpOk (X.gblk (AA.over (cL elt tg iter ifs scope pos it cenv) []) s0 H0 cenv fp) pl H' b := fun {σ' H' s'} I' hn b hb =>
    ⟨hn b hb, (I'.ok.exf b hb).1, I'.ok.exfs b hb, .inl hb, fun x c e => (I'.ok.exf b hb).2 x c e, fun p hp z => hpl p (by simpa using hp) (by rw [z]; exact hb)⟩
  show Seg _ AA _ _ _ s₀ _ ((compTurn (.GeneratorExp elt [⟨tg, iter, ifs, 0⟩] scope pos) 0 (.ref it) .none cenv).onRaise (leaving cenv)) [] s
  rw [compTurn_gen, Sem.onRaise_eq_wrap]
  refine seg_bind_wrap (wpAny_standAt ?_)
  rcases turn i m H w with ⟨stop, qq⟩ | ⟨go, Nx, hNx, step⟩
  · have td := T.done (X.gblk (AA.over (cL elt tg iter ifs scope pos it cenv) []) s0 H0 cenv fp) rfl rfl rfl hc i pl s _ H (fun _ _ => False) I (stat I nf) st stop
    refine seg_bind_wrap (thnG td hgn fun r s6 g6 ⟨hr, I6⟩ => ?_)
    subst hr
    exact seg_end (.ok .next) ⟨rfl, H, I6, qq, g6⟩
  · have ti := T.item (X.gblk (AA.over (cL elt tg iter ifs scope pos it cenv) []) s0 H0 cenv fp) rfl rfl rfl hc i pl s _ H (fun _ _ => False) I (stat I nf) st go
    refine seg_bind_wrap (thnG ti hgn fun r s6 g6 ⟨u, hr, h6⟩ => ?_)
    subst hr
    refine seg_bind_wrap (thnG h6 g6 fun _ s7 g7 ⟨x, H7, I7, r7, y7, st7, n7⟩ => ?_)
    have I7' := I7.pinned (stat I7 n7) (T.obj _ _ st7)
    refine seg_bind_wrap (thnG (pg _ s7 _ H7 x u _ I7' r7 (step x H7 y7)) g7 fun _ s8 g8 ⟨σ8, H8, I8, hw8, q8⟩ => ?_)
    refine seg_bind_wrap (thnG (pt _ s8 σ8 H8 _ I8 q8) g8 fun b s9 g9 ⟨H9, I9, q9⟩ => ?_)
    have back : ∀ {s' : Shared} {H' : Hp}, Inv (X.gblk (AA.over (cL elt tg iter ifs scope pos it cenv) []) s0 H0 cenv fp) (pl ++ pinsAt fp s7.heap) σ8 H' s' → Inv (X.gblk (AA.over (cL elt tg iter ifs scope pos it cenv) []) s0 H0 cenv fp) pl σw H' s' ∧ tn (i + 1) s'.heap ∧ ∀ b ∈ fp, H' b = none := fun {s' H'} I' => by
      have pin' : ∀ b ∈ fp, ∀ o, s7.heap.get? b = some o → s'.heap.get? b = some o ∧ H' b = none := fun b hb o e =>
        let z := I'.pin (b, o) (List.mem_append_right _ (List.mem_append_right _ (mem_pinsAt hb e)))
        ⟨z.1, z.2.1⟩
      have hl : σw.length = σ8.length := by rw [← hw8, wipe_length]
      refine ⟨(I'.unpinned (pins := pl)).weak hl (fun j v e => ?_), T.keep _ _ _ st7 fun b hb o e => (pin' b hb o e).1, fun b hb => ?_⟩
      · rw [← hw8] at e
        exact (wipe_some e).1
      · obtain ⟨o, e, _⟩ := T.obj _ _ st7 b hb
        exact (pin' b hb o e).2
    cases b with
    | false =>
      simp only [Bool.false_eq_true, if_false] at q9 ⊢
      obtain ⟨m', hm, w'⟩ := hNx H9 q9
      obtain ⟨Ib, tb, nb⟩ := back I9
      exact seg_again rfl (ih m' hm n (i + 1) s₀ s9 H9 (by omega) Ib tb nb g9 w')
    | true =>
      simp only [if_true] at q9 ⊢
      have hy : ∀ v, yieldOut cenv v = yieldValue v := fun v => by simp only [yieldOut, hco, Bool.false_eq_true, if_false]
      simp only [hy]
      rw [Sem.bind_eq_wrap', Sem.bind_eq_wrap', Sem.wrap_wrap, Sem.wrap_wrap]
      refine seg_wrap (thnG (pe _ s9 σ8 H9 _ I9 q9) g9 fun z s10 g10 ⟨yv, H10, I10, r10, q10⟩ => ?_)
      obtain ⟨Ib, tb, nb⟩ := back I10
      obtain ⟨n', rfl⟩ : ∃ n', n = n' + 1 := ⟨n - 1, by omega⟩
      refine seg_at (seg_yield rfl rfl rfl ⟨i, m, yv, H10, r10, Ib, tb, nb, g10, by omega, q10, fun m' s'' hm w' hh ho hb hg'' => ?_⟩)
      exact seg_again rfl (ih m' hm n' (i + 1) s'' s'' H10 (by omega) (Ib.gens hh ho hb) (by rw [hh]; exact tb) nb hg'' w')
end
end L2

set_option Elab.async false
set_option linter.all false
set_option maxRecDepth 100000
set_option maxHeartbeats 4000000
namespace L2
open PySem PySem.Spec PyProof.Rows
def tabPh (P : Addr) : Heap → Prop := fun h => ∃ ps, h.get? P = some { cls := .none, data := .fields ps } ∧ TriplesOk ps.toList
def tabO (P : Addr) : HO := .ext (tabPh P)
structure CodeAt (h : Heap) (c P : Addr) : Prop where
  ex : ∃ o vs file tf flags tg inF text tt, h.get? c = some o ∧ o.data = .fields vs ∧ vs.getD 11 .none = .ref P ∧ vs.getD 18 .none = .str file tf ∧ vs.getD 7 .none = .int flags tg ∧ vs.getD 9 .none = .bool inF ∧ vs.getD 10 .none = .int text tt ∧ c ≠ P ∧ o.cls = .type "code" ∧ vs[11]? = some (.ref P)
theorem tab_ok {P' : Program} {w : World} {H : Hp} {h : Heap} {P : Addr} {ps : Array Value} (e : h.get? P = some { cls := .none, data := .fields ps }) (t : TriplesOk ps.toList) : ObjOk P' w H h P (tabO P) :=
  ⟨⟨ps, e, t⟩, ⟨_, e⟩, fun h1 h2 ⟨qs, q, t⟩ k => ⟨qs, k _ q, t⟩⟩
theorem CodeAt.code {h : Heap} {c P : Addr} (x : CodeAt h c P) {ps : Array Value} (e : h.get? P = some { cls := .none, data := .fields ps }) (t : TriplesOk ps.toList) : h.IsCode c P ps ∧ h.TableAt c P ps := by
  obtain ⟨o, vs, file, tf, flags, tg, inF, text, tt, h1, h2, h3, h4, h5, h6, h7, h8, h9, h10⟩ := x.ex
  exact ⟨⟨o, vs, file, tf, flags, tg, inF, text, tt, _, h1, h2, h3, h4, h5, h6, h7, e, rfl, t, h8⟩, ⟨o, vs, h1, h9, h2, h10⟩, e⟩
theorem CodeAt.keeps {h h' : Heap} {c P : Addr} (x : CodeAt h c P) (k : ∀ b o, h.get? b = some o → h'.get? b = some o) : CodeAt h' c P := by
  obtain ⟨o, vs, file, tf, flags, tg, inF, text, tt, h1, r⟩ := x.ex
  exact ⟨o, vs, file, tf, flags, tg, inF, text, tt, k _ _ h1, r⟩
section
variable {X : Cx} {pins : List (Addr × Obj)} {σ : St} {H : Hp} {s : Shared}
end
section
variable {X : Cx} {AA : Around} {s0 : Shared} {H0 : Hp} {cenv : Env} {fp : List Addr} {it : Addr} {tn : Nat → Heap → Prop} {J : It} {elt tg iter : Expr} {ifs : List Expr} {scope : Scope} {pos : Pos} {g : TG} {tt : TT} {te : TE} {vs : List Nat}
  {σw : St} {W : Nat → Nat → Hp → Prop} {Yl : Nat → Nat → V → Hp → Prop} {En : Hp → Prop} {pl : List (Addr × Obj)} {gn : Nat}
abbrev cS (elt tg iter : Expr) (ifs : List Expr) (scope : Scope) (pos : Pos) (it : Addr) (cenv : Env) : Code := .compStart (.GeneratorExp elt [⟨tg, iter, ifs, 0⟩] scope pos) 0 (.ref it) .none cenv
theorem seg_gs {M : Model} {R : GenEnd} {Y : Protocol} {n : Nat} {s₀ s : Shared} (hM : M = model X.prog X.w) (T : Turn X.prog X.w X.K tg J fp it tn) (st : tn 0 s.heap) (loop : Seg M AA R Y n s₀ (cL elt tg iter ifs scope pos it cenv) (M.den (cL elt tg iter ifs scope pos it cenv)) [] s) :
    Seg M AA R Y n s₀ (cS elt tg iter ifs scope pos it cenv) (M.den (cS elt tg iter ifs scope pos it cenv)) [] s := by
  subst hM
  show Seg _ AA _ _ _ s₀ _ ((compStart (.GeneratorExp elt [⟨tg, iter, ifs, 0⟩] scope pos) 0 (.ref it) .none cenv).onRaise (leaving cenv)) [] s
  unfold compStart
  rw [Sem.onRaise_eq_wrap]
  show Seg _ AA _ _ _ s₀ _ ((ask >>= _).wrap _ _ _ _) [] s
  refine seg_bind_wrap (wpAny_askSetting ?_)
  split
  · exact seg_again rfl loop
  · first
      | exact seg_bind_wrap (wpAny_rule (seg_bind_wrap (wpAny_standAt (seg_bind_wrap (T.self _ 0 s _ _ st (seg_again rfl loop))))))
      | (refine seg_bind_wrap (wpAny_rule ?_); show Seg _ AA _ _ _ s₀ _ ((standAt iter.pos >>= _).wrap _ _ _ _) [] s; exact seg_bind_wrap (wpAny_standAt (seg_bind_wrap (T.self _ 0 s _ _ st (seg_again rfl loop)))))
/-- what a generator that stands still is worth -/
def Goeson (Xg : Cx) (AA : Around) (pl : List (Addr × Obj)) (fp : List Addr) (tn : Nat → Heap → Prop) (σw : St) (W : Nat → Nat → Hp → Prop) (Yl : Nat → Nat → V → Hp → Prop) (En : Hp → Prop) (gn n : Nat) (s : Shared) : Prop :=
  ∃ gs, s.gens[gn]? = some gs ∧ ∀ s'' : Shared, s''.heap = s.heap → s''.os = s.os → AllBare s''.gens → gn < s''.gens.size → gs.Goes (model Xg.prog Xg.w) AA (GenR Xg pl σw En gn) (GenP Xg pl fp tn σw W Yl gn) n (.send .none) s''
end
end L2

set_option Elab.async false
set_option linter.all false
set_option maxRecDepth 100000
set_option maxHeartbeats 4000000
namespace L2
open PySem PySem.Spec PyProof.Rows
section
variable {X : Cx} {elt tg iter : Expr} {ifs : List Expr} {scope : Scope} {own : List (Str × Nat)} {gpos : Pos} {wi : TI} {g : TG} {tt : TT} {te : TE} {c P : Addr} {k : Nat}
abbrev gAr (A : Around) (elt tg iter : Expr) (ifs : List Expr) (scope : Scope) (gpos : Pos) (it : Addr) (cenv : Env) : Around := A.in1.in1.over (cL elt tg iter ifs scope gpos it cenv) []
/-- what stands when a generator expression has been made -/
structure GenMade (X : Cx) (pins : List (Addr × Obj)) (σ : St) (elt tg iter : Expr) (ifs : List Expr) (scope : Scope) (own : List (Str × Nat)) (gpos : Pos) (R : It → Hp → Prop) (a : Addr) (s5 : Shared) (it : Addr) (fp : List Addr) (tn : Nat → Heap → Prop) (J : It) (H1 : Hp) (gn : Nat) (gobj : Obj) (s4 : Shared) (cenv : Env) : Prop where
  T : Turn X.prog X.w X.K tg J fp it tn
  r : R J H1
  i4 : Inv X pins σ H1 s4
  f4 : ∀ b ∈ fp, FpOk X pins H1 b
  ce : ∃ code, cenv = genEnv scope (cloFrom X.env.cells scope.names []) s4.heap.objs.size code builtinsNs X.env
  i5 : Inv (X.gblk (gAr X.A elt tg iter ifs scope gpos it cenv) s4 H1 cenv fp) [(a, gobj)] (wipe σ (own.map (·.2))) H1 s5
  st : tn 0 s5.heap
  gs : s5.gens[gn]? = some (.fresh (cS elt tg iter ifs scope gpos it cenv))
  ob : ∃ nm qn, gobj.cls = .type "generator" ∧ gobj.data = .fields #[.int gn 0, nm, qn] ∧ gobj.slots = #[]
  af : a ∉ fp
theorem GenMade.back {pins : List (Addr × Obj)} {σ : St} {R : It → Hp → Prop} {a : Addr} {s5 : Shared} {it : Addr} {fp : List Addr} {tn : Nat → Heap → Prop} {J : It} {H1 : Hp} {gn : Nat} {gobj : Obj} {s4 : Shared} {cenv : Env}
    (G : GenMade X pins σ elt tg iter ifs scope own gpos R a s5 it fp tn J H1 gn gobj s4 cenv) {A' : Around} {pl : List (Addr × Obj)} {σ' : St} {H' : Hp} {s' : Shared} (I : Inv (X.gblk A' s4 H1 cenv fp) pl σ' H' s') : Inv X pins σ H' s' :=
  G.i4.call' (ch := fp) I.os I.base I.hok I.bare fun b hb => ⟨(G.f4 b hb).2.2.2.1, (G.f4 b hb).2.1, (G.f4 b hb).2.2.2.2.1, (G.f4 b hb).2.2.2.2.2⟩
/-- its turns -/
theorem GenMade.goes {pins : List (Addr × Obj)} {σ : St} {R : It → Hp → Prop} {a : Addr} {s5 : Shared} {it : Addr} {fp : List Addr} {tn : Nat → Heap → Prop} {J : It} {H1 : Hp} {gn : Nat} {gobj : Obj} {s4 : Shared} {cenv : Env}
    (G : GenMade X pins σ elt tg iter ifs scope own gpos R a s5 it fp tn J H1 gn gobj s4 cenv) {W : Nat → Nat → Hp → Prop} {Yl : Nat → Nat → V → Hp → Prop} {En : Hp → Prop} {m0 : Nat} (hc : X.calm = true) (hco : scope.isCoroutine = false)
    (pg : PG (X.gblk (gAr X.A elt tg iter ifs scope gpos it cenv) s4 H1 cenv fp) tg g) (pt : PTs (X.gblk (gAr X.A elt tg iter ifs scope gpos it cenv) s4 H1 cenv fp) ifs tt) (pe : PE (X.gblk (gAr X.A elt tg iter ifs scope gpos it cenv) s4 H1 cenv fp) elt te)
    (w0 : W 0 m0 H1) (turn : ∀ i m H, W i m H → (J.stop i H ∧ En H) ∨ (J.go i H ∧ ∃ Nx : Hp → Prop, (∀ H', Nx H' → ∃ m', m' < m ∧ W (i + 1) m' H') ∧ ∀ x H', J.yld i H x H' → g x (wipe σ (own.map (·.2))) H' fun σ2 H2 => wipe σ2 (own.map (·.2)) = wipe σ (own.map (·.2)) ∧ tt σ2 H2 fun b H3 =>
      if b = true then te σ2 H3 fun y H4 => Yl i m y H4 else Nx H3)) :
    Goeson (X.gblk (gAr X.A elt tg iter ifs scope gpos it cenv) s4 H1 cenv fp) X.A.in1.in1 [(a, gobj)] fp tn (wipe σ (own.map (·.2))) W Yl En gn (m0 + 1) s5 := by
  refine ⟨_, G.gs, fun s'' e1 e2 e3 e4 => ⟨rfl, seg_gs rfl G.T (by rw [e1]; exact G.st) ?_⟩⟩
  have nf : ∀ b ∈ fp, H1 b = none := fun b hb => (G.f4 b hb).1
  have hco' : cenv.scope.isCoroutine = false := by
    obtain ⟨code, e⟩ := G.ce
    rw [e]; exact hco
  have af := G.af
  have hpl : ∀ p ∈ [(a, gobj)], p.1 ∉ fp := fun p hp z => by
    have hp : p = (a, gobj) := by simpa using hp
    rw [hp] at z
    exact af z
  exact seg_gl (AA := X.A.in1.in1) (vs := own.map (·.2)) hc G.T hco' pg pt pe hpl turn m0 (m0 + 1) 0 s'' s'' H1 (Nat.lt_succ_self _) (G.i5.gens e1 e2 e3) (by rw [e1]; exact G.st) nf e4 w0
end
end L2

set_option Elab.async false
set_option linter.all false
set_option maxRecDepth 100000
set_option maxHeartbeats 4000000
namespace L2
open PySem PySem.Spec PyProof.Rows
section
variable {X : Cx} {elt tg iter : Expr} {ifs : List Expr} {scope : Scope} {own : List (Str × Nat)} {gpos pos np : Pos} {wi : TI} {g : TG} {tt : TT} {te : TE} {c P : Addr} {k : Nat}
end
end L2

set_option Elab.async false
set_option linter.all false
set_option maxRecDepth 100000
set_option maxHeartbeats 4000000
namespace L2
open PySem PySem.Spec PyProof.Rows
section
variable {X : Cx}
def CDivB (i j : Int) : Prop := 0 < j ∧ j.natAbs.log2 < 9000
theorem op_fdivB : OpR X (binaryOp .FloorDiv) (rI CDivB fun i j => .int (i / j)) := opI fun i j _ _ _ _ _ hc q => by
  have h1 : (0 : Int) < j := hc.1
  exact floordiv_int (by omega) (by rw [Int.fdiv_eq_ediv_of_nonneg i (by omega)]; exact q) (.inl (PyProof.noPylong_of_log2 hc.2))
end
end L2

set_option Elab.async false
set_option linter.all false
set_option maxRecDepth 100000
set_option maxHeartbeats 4000000
namespace L2
open PySem PySem.Spec PyProof.Rows
/-- the tables of the codes of the defs that bear these names -/
def TabsOf (names : List Str) (mg : Str → Option Value) (base : Heap) (H : Hp) : Prop :=
  ∀ n ∈ names, ∀ f, mg n = some (.ref f) → ∃ o fd c P, base.get? f = some o ∧ o.data = .func fd ∧ fd.code = .ref c ∧ CodeAt base c P ∧ H P = some (tabO P)
theorem TabsOf.same {names : List Str} {mg : Str → Option Value} {base : Heap} {H H' : Hp} (t : TabsOf names mg base H) (h : Same H H') : TabsOf names mg base H' := fun n hn f hf => by
  obtain ⟨o, fd, c, P, h1, h2, h3, h4, h5⟩ := t n hn f hf
  exact ⟨o, fd, c, P, h1, h2, h3, h4, h _ _ h5⟩
theorem TabsOf.at {names : List Str} {mg : Str → Option Value} {base : Heap} {H : Hp} (t : TabsOf names mg base H) {n x qual : Str} {st : Stmt} {f : Addr} {fd : FuncData} {K : PySem.W.Frag} (hn : n ∈ names) (hf : mg n = some (.ref f)) (F : Fun K x qual st f fd) (kb : K.In base) :
    ∃ c P, fd.code = .ref c ∧ CodeAt base c P ∧ H P = some (tabO P) := by
  obtain ⟨o, fd', c, P, h1, h2, h3, h4, h5⟩ := t n hn f hf
  obtain ⟨oc, od, kV, doc, pm, an, cdv, ct, osl, e, lk, hcd⟩ := F.ex
  have := kb _ _ lk
  rw [h1] at this
  cases this
  cases h2
  exact ⟨c, P, h3, h4, h5⟩
open Classical in
theorem law_callT {P q : Program} {loose : List Str} {mean : ExcName → Option Value} {w : World} {K : PySem.W.Frag} {mg mb : Str → Option Value} {CX : CXT} {k : Nat} {fa a : Addr} {fd : FuncData} {x : Str} {sp : Heap → Sp} {s₁ : Shared} {vs : List Value} {ns : List Int} {names : List Str}
    (T : Top q loose mean mg mb s₁.heap) (KX : K.In s₁.heap) (hKc : PySem.W.kb_classed K = true) (hnm : ∀ n ∈ names, ∃ d ∈ recsOf q, d.name = n) (hg : s₁.gens = #[])
    (ha : s₁.heap.get? a = some { cls := .type "list", data := .seq vs.toArray }) (hi : IntsAre vs ns) (hl : ns.length ≤ sizeLine) (hr : Room k callerA)
    (F : ∀ base : Heap, K.In base → base.Ns mainGlobals mg → (∃ bm ob, BMod base mainGlobals mg bm ob) → FnOk P w K mg base CX k fa fd [x] (sp base)) (hbind : ∀ (s : Shared) (u : Value), BindsTo s fd ⟨[u], []⟩ [(x, u)])
    (hsp : ∀ (base : Heap) (H : Hp), TabsOf names mg base H → SqL K H a (ns.map V.int) → sp base [.ref a] H (fun v H' => v = .bl true ∧ ∀ P, H P = some (tabO P) → H' P = some (tabO P)) fun _ _ _ => False)
    (hCX : ∀ H e s', CX [] H s₁ (fun _ _ _ => False) e s' → False) :
    codeAny (model P w) callerA (.call (.ref fa) ⟨[.ref a], []⟩) (fun r s' => r = .ok (.ret (.bool true)) ∧ OldK s₁.heap s'.heap ∧ s'.os = s₁.os ∧ AllBare s'.gens) s₁ := by
  have rv := vals_ints hi
  have lenV := hi.length
  -- a table of a def's code
  let IsT : Addr → Prop := fun b => ∃ c, s₁.heap.IsCode c b #[] ∧ s₁.heap.TableAt c b #[]
  have tabGet : ∀ {b}, IsT b → s₁.heap.get? b = some { cls := .none, data := .fields #[] } := fun ⟨c, _, t⟩ => t.2
  have tabNot : ∀ {b : Addr} {o : Obj}, s₁.heap.get? b = some o → o.cls ≠ .none → ¬ IsT b := fun {b o} e hc t => by
    rw [tabGet t] at e; cases e; exact hc rfl
  have core : ∀ H : Hp, (∀ b, IsT b → H b = some (tabO b)) → (∀ b, H b = none ∨ (b = a ∧ ∃ o xs, H b = some (.frz o (.lst xs))) ∨ (IsT b ∧ H b = some (tabO b))) → SqL K H a (ns.map V.int) → HOk P w H s₁.heap → (H a ≠ none → K.lookup a = none) →
      codeAny (model P w) callerA (.call (.ref fa) ⟨[.ref a], []⟩) (fun r s' => r = .ok (.ret (.bool true)) ∧ OldK s₁.heap s'.heap ∧ s'.os = s₁.os ∧ AllBare s'.gens) s₁ := by
    intro H hT hO hS hok hK
    have base_of : ∀ {b : Addr} {o : Obj}, s₁.heap.get? b = some o → H b = none → (hidT s₁.heap H).get? b = some o := fun e n => hidT_get e n
    have free : ∀ {b : Addr} {o : Obj}, s₁.heap.get? b = some o → o.cls ≠ .none → b ≠ a → H b = none := fun {b o} e hc hne => by
      rcases hO b with z | ⟨z, _⟩ | ⟨z, _⟩
      · exact z
      · exact absurd z hne
      · exact absurd z (tabNot e hc)
    have noA : ∀ {b : Addr} {o : Obj} {es : Array DictEntry} {ep : Nat}, s₁.heap.get? b = some o → o.data = .dict es ep → H b = none := fun {b o es ep} e d => by
      rcases hO b with z | ⟨z, _⟩ | ⟨z, _⟩
      · exact z
      · subst z
        rw [ha] at e; cases e
        have d' : Data.seq vs.toArray _ = Data.dict es ep := d
        cases d'
      · rw [tabGet z] at e; cases e
        have d' : Data.fields _ = Data.dict es ep := d
        cases d'
    have nsK : ∀ {b : Addr} {m : Str → Option Value}, s₁.heap.Ns b m → (hidT s₁.heap H).Ns b m := fun {b m} ⟨o, es, ep, e, d, r⟩ => ⟨o, es, ep, base_of e (noA e d), d, r⟩
    have hKb : K.In (hidT s₁.heap H) := fun b o e => base_of (KX b o e) (by
      have e1 := KX b o e
      have q := List.all_eq_true.mp hKc (b, o) (PySem.W.kb_mem e)
      simp only [Bool.or_eq_true, decide_eq_true_eq, beq_iff_eq] at q
      have nt : ¬ IsT b := fun t => by
        rcases q with (q | q) | q
        · exact tabNot e1 q t
        · obtain ⟨mc, ⟨o', es, ep, e2, d, _⟩, _⟩ := T.nolimit
          rw [← q, tabGet t] at e2; cases e2
          have d' : Data.fields _ = Data.dict es ep := d
          cases d'
        · obtain ⟨o', es, ep, e2, d, _⟩ := T.g
          rw [← q, tabGet t] at e2; cases e2
          have d' : Data.fields _ = Data.dict es ep := d
          cases d'
      rcases hO b with z | ⟨z, o', xs, z2⟩ | ⟨z, _⟩
      · exact z
      · subst z
        rw [hK (by rw [z2]; simp)] at e; cases e
      · exact absurd z nt)
    have hM : Mod K mg (hidT s₁.heap H) := ⟨hKb, nsK T.g, ⟨mb, nsK T.b, T.builtins⟩, let ⟨mc, h1, h2⟩ := T.nolimit; ⟨mc, nsK h1, h2⟩⟩
    have hB : ∃ bm ob, BMod (hidT s₁.heap H) mainGlobals mg bm ob := by
      obtain ⟨bm, ob, h1, h2, h3, h4, h5, h6⟩ := T.bmain
      refine ⟨bm, ob, nsK T.g, h1, h2, base_of h3 (free h3 (by rw [h4]; simp) fun z => ?_), h4, h5, h6⟩
      subst z
      rw [ha] at h3; cases h3
      exact absurd h4 (by simp)
    have tabs : TabsOf names mg (hidT s₁.heap H) H := fun n hn f hf => by
      obtain ⟨d, hd, rfl⟩ := hnm n hn
      obtain ⟨f', o, fd', c, P', h1, h2, h3, h4, h5, h6⟩ := T.tab d hd
      rw [hf] at h1; cases h1
      have hP : H P' = some (tabO P') := hT P' ⟨c, h5, h6⟩
      obtain ⟨⟨oc, vc, e1, e2, e3, e4⟩, _⟩ := id h6
      obtain ⟨oc', vc', file, tf, flags, tg, inF, text, tt, op, g1, g2, g3, g4, g5, g6, g7, _, _, _, g8⟩ := id h5
      rw [e1] at g1; cases g1
      rw [e3] at g2; cases g2
      refine ⟨o, fd', c, P', base_of h2 ?_, h3, h4, ⟨oc, vc, file, tf, flags, tg, inF, text, tt, base_of e1 (free e1 (by rw [e2]; simp) fun z => ?_), e3, g3, g4, g5, g6, g7, g8, e2, e4⟩, hP⟩
      · rcases hO f with z | ⟨z, _⟩ | ⟨z, _⟩
        · exact z
        · subst z
          rw [ha] at h2; cases h2
          have d' : Data.seq vs.toArray _ = Data.func fd' := h3
          cases d'
        · rw [tabGet z] at h2; cases h2
          have d' : Data.fields _ = Data.func fd' := h3
          cases d'
      · subst z
        rw [ha] at e1; cases e1
        exact absurd e2 (by simp)
    have e0 : Env0 P w K mg (hidT s₁.heap H) callerA [] s₁ H := ⟨rfl, hM, fun b o e => of_hidT e, Nat.le_of_eq (hidT_size _ _), trivial, fun b hb => absurd (show b ∈ ([] : List Addr) from hb) (by simp), hok, .of_eq hg⟩
    refine codeAny_mono ((F _ hKb (nsK T.g) hB).run callerA [] s₁ H ⟨[.ref a], []⟩ [.ref a] [.ref a] _ _ hr e0 (hbind s₁ (.ref a)) (.cons rfl .nil) (hsp _ H tabs hS)) fun r s' h => ?_
    cases r with
    | error e => exact (hCX H e s' h).elim
    | ok fl =>
      cases fl with
      | next => exact False.elim h
      | brk => exact False.elim h
      | cont => exact False.elim h
      | ret u =>
        obtain ⟨v, H', os, bare, un, hok', r', q⟩ := h
        obtain ⟨q', hend⟩ := q
        subst q'
        obtain rfl : u = Value.bool true := r'
        have old : ∀ b o, s₁.heap.get? b = some o → s'.heap.get? b = some o ∨ (IsT b ∧ ∃ ps, s'.heap.get? b = some { cls := .none, data := .fields ps }) := fun b o e => by
          rcases hO b with z | ⟨_, ob, xs, z⟩ | ⟨z, z2⟩
          · exact .inl (un.keep b o e z (by intro z; exact absurd (show b ∈ ([] : List Addr) from z) (by simp)) (by simp))
          · have z2 := un.frzs b ob _ z
            obtain ⟨e1, _⟩ := hok b _ z
            obtain ⟨e2, _⟩ := hok' b _ z2
            rw [e] at e1; cases e1
            exact .inl e2
          · obtain ⟨⟨ps, e1, _⟩, _⟩ := hok' b _ (hend b z2)
            exact .inr ⟨z, ps, e1⟩
        refine ⟨rfl, ⟨fun b o e => ?_, fun b o e => ?_⟩, os, bare⟩
        · rcases old b o e with z | ⟨z, ps, z2⟩
          · exact .inl z
          · obtain ⟨c, _, t⟩ := id z
            rw [tabGet z] at e; cases e
            exact .inr (.inl ⟨t.isCodeTable, rfl, #[], ps, rfl, by rw [z2]; simp⟩)
        · rcases old b o e with z | ⟨_, ps, z2⟩
          · exact ⟨o, z⟩
          · exact ⟨_, z2⟩
  have nta : ¬ IsT a := tabNot ha (by simp)
  cases hk : K.lookup a with
  | some o =>
    have e := KX a o hk
    rw [ha] at e
    cases e
    refine core (fun b => if IsT b then some (tabO b) else none) (fun b z => if_pos z) (fun b => ?_) (.inr ⟨_, vs.toArray, _, hk, rfl, rfl, rfl, by rw [List.size_toArray, lenV]; exact hl, by simpa using rv⟩) (fun b u z => ?_) fun z => ?_
    · by_cases hb : IsT b
      · exact .inr (.inr ⟨hb, if_pos hb⟩)
      · exact .inl (if_neg hb)
    · by_cases hb : IsT b
      · have z' := (if_pos hb).symm.trans z
        cases z'
        exact tab_ok (tabGet hb) trivial
      · have z' := (if_neg hb).symm.trans z
        cases z'
    · exact absurd (if_neg nta) z
  | none =>
    refine core (fun b => if b = a then some (.frz { cls := .type "list", data := .seq vs.toArray } (.lst (ns.map V.int))) else if IsT b then some (tabO b) else none) (fun b z => ?_) (fun b => ?_) (.inl (.inr ⟨{ cls := .type "list", data := .seq vs.toArray }, if_pos rfl⟩)) (fun b u z => ?_) fun _ => hk
    · have hb : b ≠ a := fun e => nta (e ▸ z)
      show (if b = a then _ else _) = _
      rw [if_neg hb, if_pos z]
    · by_cases hb : b = a
      · exact .inr (.inl ⟨hb, _, _, if_pos hb⟩)
      · by_cases ht : IsT b
        · refine .inr (.inr ⟨ht, ?_⟩)
          show (if b = a then _ else _) = _
          rw [if_neg hb, if_pos ht]
        · refine .inl ?_
          show (if b = a then _ else _) = _
          rw [if_neg hb, if_neg ht]
    · by_cases hb : b = a
      · have z' := (if_pos hb).symm.trans z
        cases z'
        subst hb
        exact ⟨ha, by rw [List.length_map]; exact hl, vs, _, rv, ha⟩
      · have z' := (if_neg hb).symm.trans z
        by_cases ht : IsT b
        · have z2 := (if_pos ht).symm.trans z'
          cases z2
          exact tab_ok (tabGet ht) trivial
        · have z2 := (if_neg ht).symm.trans z'
          cases z2
theorem walk_ofT {l : PySem.W.OpenLaw} {n k : Nat} {q : Program} {loose : List Str} {XP : (Str → Option Value) → Heap → Prop} {YP : World → Heap → Prop} {d : DefRec} {K : Params → PySem.W.Frag} {sp : (Str → Option Value) → PySem.W.Frag → Heap → Sp} {x : Str} {names : List Str}
    (hn : l.most = some n) (hn2 : n ≤ sizeLine) (hdf : d.params.defaults = []) (hr : Room k callerA)
    (hY : ∀ (w : World) (h : Heap), YP w h → (K w.params).In h) (hKc : ∀ p, PySem.W.kb_classed (K p) = true) (hnm : (names.all fun n => (recsOf q).any fun d => d.name == n) = true)
    (F : ∀ (w : World) (mg : Str → Option Value) (fa : Addr) (h : Heap), (K w.params).In h → h.Ns mainGlobals mg → mg d.name = some (.ref fa) →
      ∃ fd : FuncData, (∀ (s : Shared) (u : Value), BindsTo s fd ⟨[u], []⟩ [(x, u)]) ∧
        ∀ base : Heap, (K w.params).In base → base.Ns mainGlobals mg → (∃ bm ob, BMod base mainGlobals mg bm ob) → FnOk l.prog w (K w.params) mg base CX0 k fa fd [x] (sp mg (K w.params) base))
    (hsp : ∀ (mg : Str → Option Value) (K : PySem.W.Frag) (base : Heap) (H : Hp) (a : Addr) (ns : List Int), ns.length ≤ n → TabsOf names mg base H → SqL K H a (ns.map V.int) → sp mg K base [.ref a] H (fun v H' => v = .bl true ∧ ∀ P, H P = some (tabO P) → H' P = some (tabO P)) fun _ _ _ => False) :
    PySem.W.WalkO q loose XP YP l.row.toRowW d [] (fun f vs => PySem.call f vs) := by
  refine Att.attach_call hn hdf fun w s₀ s₁ mg mb fa o pm cd doc a vs ns G Y ho hd hcd hmg hobj hints hlen hg => ?_
  have KX := hY w _ Y
  obtain ⟨fd, hb, hF⟩ := F w mg fa _ KX G.T.g hmg
  refine law_callT (names := names) (sp := sp mg (K w.params)) G.T KX (hKc _) (fun n hn => ?_) hg hobj hints (Nat.le_trans hlen hn2) hr hF hb (fun base H hT hS => hsp mg (K w.params) base H a ns hlen hT hS) fun H e s' z => z
  have z := List.any_eq_true.mp (List.all_eq_true.mp hnm n hn)
  obtain ⟨d, hd, e⟩ := z
  exact ⟨d, hd, beq_iff_eq.mp e⟩
end L2

set_option Elab.async false
set_option linter.all false
set_option maxRecDepth 100000
set_option maxHeartbeats 4000000
namespace L2
open PySem PySem.Spec PyProof.Rows
section
variable {X : Cx}
/-- xs + ys of any two lists that are read -/
theorem op_catS : OpR X (binaryOp .Add) (fun x y H Q => ∃ l b xs zs, x = .ref l ∧ y = .ref b ∧ SqL X.K H l xs ∧ SqL X.K H b zs ∧ xs.length + zs.length ≤ sizeLine ∧ ∀ p, H p = none → Q (.ref p) (upd H p (.lst (xs ++ zs)))) := by
  intro pins s σ H x y v u Q I rx ry h
  obtain ⟨l, b, xs, zs, rfl, rfl, hH, hB, hz, q⟩ := h
  cases rx
  cases ry
  obtain ⟨its, r, pl, _⟩ := I.list hH
  obtain ⟨its2, r2, pl2, _⟩ := I.list hB
  obtain ⟨⟨cls, dd, data, sl⟩, ho, hc, n, hd⟩ := pl.isList
  obtain ⟨⟨cls2, dd2, data2, sl2⟩, ho2, hc2, n2, hd2⟩ := pl2.isList
  simp only at hc hd hc2 hd2
  subst hc hd hc2 hd2
  have e1 := r.length
  have e2 := r2.length
  have ea : its.toArray ++ its2.toArray = (its ++ its2).toArray := by simp
  refine concat_meets ⟨_, ho, rfl⟩ ⟨_, ho2, rfl⟩ noFill_list_add seq_list_add PySem.F.slot_list_add PySem.F.entry_list_add (PySem.F.args_list_add_2 _ _) (list_addW l b its.toArray its2.toArray n n2 dd dd2 sl sl2 (by simp; omega)) ⟨ho, ho2, ?_⟩
  rw [ea]
  exact ⟨.ref _, _, I.lnew (t' := s.toks) (r.append r2) (by rw [List.length_append]; omega), rfl, q _ I.fresh⟩
end
inductive IntsE : List Expr → List Int → Prop
  | nil : IntsE [] []
  | cons {i : Int} {j : Nat} {pos : Pos} {es : List Expr} {ns : List Int} : IntsE es ns → IntsE (.Constant (.int i) j pos :: es) (i :: ns)
structure It.Over (J : It) (H : Hp) (xs : List V) : Prop where
  go : ∀ i, i < xs.length → J.go i H
  yld : ∀ i x H', J.yld i H x H' → H' = H ∧ xs[i]? = some x
  stop : J.stop xs.length H
theorem yes {σ : L2.St} {H : Hp} {A B : Hp → Prop} (h : A H) : tYes σ H (fun b H3 => if b = true then A H3 else B H3) := by
  show (if true = true then A H else B H)
  rw [if_pos rfl]
  exact h
/-- all that was tracked but p is as it was -/
def KeepBut (p : Addr) (H H' : Hp) : Prop := ∀ b o, H b = some o → b ≠ p → H' b = some o
theorem KeepBut.refl (p : Addr) (H : Hp) : KeepBut p H H := fun _ _ h _ => h
theorem KeepBut.trans {p : Addr} {H H1 H2 : Hp} (a : KeepBut p H H1) (b : KeepBut p H1 H2) : KeepBut p H H2 := fun c o h n => b c o (a c o h n) n
theorem KeepBut.upd {p : Addr} {H : Hp} {o : HO} : KeepBut p H (L2.upd H p o) := fun b u h n => by rw [upd_ne n]; exact h
theorem KeepBut.new {p a : Addr} {H H1 : Hp} {o : HO} (k : KeepBut p H H1) (hn : H1 a = none) : KeepBut p H (L2.upd H1 a o) := fun b u h n => by
  have := k b u h n
  rw [upd_ne (ne_of_none this hn)]; exact this
theorem Same.new {a : Addr} {H H1 : Hp} {o : HO} (k : Same H H1) (hn : H1 a = none) : Same H (L2.upd H1 a o) := fun b u h => by
  have := k b u h
  rw [upd_ne (ne_of_none this hn)]; exact this
theorem Same.but {p : Addr} {H H1 H2 : Hp} (a : Same H H1) (hp : H p = none) (b : KeepBut p H1 H2) : Same H H2 := fun c o h => b c o (a c o h) (ne_of_none h hp)
theorem Same.keep {p : Addr} {H H1 H2 : Hp} (a : KeepBut p H H1) (b : Same H1 H2) : KeepBut p H H2 := fun c o h n => b c o (a c o h n)
end L2

set_option Elab.async false
set_option linter.all false
set_option maxRecDepth 100000
set_option maxHeartbeats 4000000
namespace Nm
open PySem
/-- a word -/
def Word (z : Str) : Prop := 1 ≤ z.length ∧ z.length ≤ 8 ∧ ∀ c ∈ z.cps.toList, 97 ≤ c ∧ c ≤ 122
structure Apart (l : List Str) (many : Nat) (taken : List Str) : Prop where
  len : l.length = many
  nd : l.Nodup
  word : ∀ z ∈ l, Word z
  out : ∀ z ∈ l, z ∉ taken
theorem Apart.nil (taken : List Str) : Apart [] 0 taken := ⟨rfl, List.nodup_nil, fun _ h => (nomatch h), fun _ h => (nomatch h)⟩
end Nm

set_option Elab.async false
set_option linter.all false
set_option maxRecDepth 100000
set_option maxHeartbeats 4000000
namespace Bk
open PySem L2 Nm
abbrev MakeD := Str × List Str
abbrev KindD := Str × List MakeD
abbrev BookD := List KindD
inductive Pd {α β : Type} (R : α → β → Prop) : List α → List β → Prop
  | nil : Pd R [] []
  | cons {a : α} {b : β} {as : List α} {bs : List β} : R a b → Pd R as bs → Pd R (a :: as) (b :: bs)
namespace Pd
variable {α β : Type} {R S : α → β → Prop}
theorem mono (f : ∀ a b, R a b → S a b) : ∀ {as : List α} {bs : List β}, Pd R as bs → Pd S as bs
  | _, _, .nil => .nil
  | _, _, .cons h t => .cons (f _ _ h) (mono f t)
theorem length : ∀ {as : List α} {bs : List β}, Pd R as bs → as.length = bs.length
  | _, _, .nil => rfl
  | _, _, .cons _ t => by rw [List.length_cons, List.length_cons, length t]
theorem append : ∀ {as cs : List α} {bs ds : List β}, Pd R as bs → Pd R cs ds → Pd R (as ++ cs) (bs ++ ds)
  | _, _, _, _, .nil, h => h
  | _, _, _, _, .cons x t, h => .cons x (append t h)
theorem take : ∀ {as : List α} {bs : List β} (n : Nat), Pd R as bs → Pd R (as.take n) (bs.take n)
  | _, _, 0, _ => by rw [List.take_zero, List.take_zero]; exact .nil
  | _, _, _ + 1, .nil => .nil
  | _, _, n + 1, .cons x t => .cons x (take n t)
theorem drop : ∀ {as : List α} {bs : List β} (n : Nat), Pd R as bs → Pd R (as.drop n) (bs.drop n)
  | _, _, 0, h => h
  | _, _, _ + 1, .nil => .nil
  | _, _, n + 1, .cons _ t => drop n t
theorem get : ∀ {as : List α} {bs : List β} {i : Nat} {a : α}, Pd R as bs → as[i]? = some a → ∃ b, bs[i]? = some b ∧ R a b
  | _, _, 0, _, .cons x _, e => by
    simp at e
    subst e
    exact ⟨_, rfl, x⟩
  | _, _, i + 1, a, .cons _ t, e => by
    obtain ⟨b, h1, h2⟩ := get (i := i) (a := a) t (by simpa using e)
    exact ⟨b, by simpa using h1, h2⟩
end Pd
/-- tuples are kept -/
def KeepT (H H' : Hp) : Prop := ∀ b xs, H b = some (.tup xs) → H' b = some (.tup xs)
theorem KeepT.refl (H : Hp) : KeepT H H := fun _ _ h => h
theorem KeepT.trans {H H1 H2 : Hp} (a : KeepT H H1) (b : KeepT H1 H2) : KeepT H H2 := fun c xs h => b c xs (a c xs h)
theorem _root_.L2.Same.keepT {H H' : Hp} (s : Same H H') : KeepT H H' := fun b xs h => s b _ h
theorem _root_.L2.KeepBut.keepT {p : Addr} {H H' : Hp} {l : List V} (k : KeepBut p H H') (hp : H p = some (.lst l)) : KeepT H H' := fun b xs h => k b _ h (ne_of h hp (fun z => by cases z))
def MakeAt (H : Hp) (v : V) (m : MakeD) : Prop := ∃ a b, v = .ref a ∧ H a = some (.tup [.str m.1, .ref b]) ∧ H b = some (.tup (m.2.map V.str))
def KindAt (H : Hp) (v : V) (k : KindD) : Prop := ∃ a b vs, v = .ref a ∧ H a = some (.tup [.str k.1, .ref b]) ∧ H b = some (.tup vs) ∧ Pd (MakeAt H) vs k.2
def BookAt (H : Hp) (v : V) (b : BookD) : Prop := ∃ a vs, v = .ref a ∧ H a = some (.tup vs) ∧ Pd (KindAt H) vs b
theorem MakeAt.keep {H H' : Hp} (k : KeepT H H') {v : V} {m : MakeD} (h : MakeAt H v m) : MakeAt H' v m := by
  obtain ⟨a, b, e, h1, h2⟩ := h
  exact ⟨a, b, e, k _ _ h1, k _ _ h2⟩
theorem KindAt.keep {H H' : Hp} (k : KeepT H H') {v : V} {m : KindD} (h : KindAt H v m) : KindAt H' v m := by
  obtain ⟨a, b, vs, e, h1, h2, h3⟩ := h
  exact ⟨a, b, vs, e, k _ _ h1, k _ _ h2, h3.mono fun _ _ q => MakeAt.keep k q⟩
theorem BookAt.keep {H H' : Hp} (k : KeepT H H') {v : V} {m : BookD} (h : BookAt H v m) : BookAt H' v m := by
  obtain ⟨a, vs, e, h1, h2⟩ := h
  exact ⟨a, vs, e, k _ _ h1, h2.mono fun _ _ q => KindAt.keep k q⟩
/-- all makes of a book, in its order -/
def makesD (b : BookD) : List MakeD := (b.map (·.2)).flatten
def kindsD (b : BookD) : List Str := b.map (·.1)
structure Wf (b : BookD) : Prop where
  len1 : 1 ≤ b.length
  len6 : b.length ≤ 6
  kw : ∀ k ∈ kindsD b, Word k
  knd : (kindsD b).Nodup
  knum : ("num" : Str) ∉ kindsD b
  mw : ∀ m ∈ makesD b, Word m.1
  mnd : ((makesD b).map (·.1)).Nodup
  m26 : (makesD b).length ≤ 26
  ms : ∀ k ∈ b, 1 ≤ k.2.length ∧ k.2.length ≤ 6
  fs : ∀ m ∈ makesD b, m.2.length ≤ 4
  fk : ∀ m ∈ makesD b, ∀ f ∈ m.2, f = "num" ∨ f ∈ kindsD b
def PoolAt (H : Hp) (p : Addr) : Prop := ∃ a c k, H p = some (.lst [.int a, .int c, .int k])
theorem PoolAt.keep {H H' : Hp} {p a : Addr} {o : HO} (h : PoolAt H p) (e : H' = upd H a o) (hn : H a = none) : PoolAt H' p := by
  obtain ⟨x, y, z, hp⟩ := h
  refine ⟨x, y, z, ?_⟩
  rw [e, upd_ne (ne_of_none hp hn)]
  exact hp
theorem PoolAt.other {H : Hp} {p a : Addr} {o : HO} (h : PoolAt H p) (hn : p ≠ a) : PoolAt (upd H a o) p := by
  obtain ⟨x, y, z, hp⟩ := h
  exact ⟨x, y, z, by rw [upd_ne hn]; exact hp⟩
theorem PoolAt.ne {H : Hp} {p a : Addr} (h : PoolAt H p) (hn : H a = none) : p ≠ a := by
  obtain ⟨x, y, z, hp⟩ := h
  exact ne_of_none hp hn
theorem PoolAt.keepT {H H' : Hp} {p : Addr} (h : PoolAt H p) (k : KeepBut p H H') : KeepT H H' := by
  obtain ⟨x, y, z, hp⟩ := h
  exact k.keepT hp
structure Ls (H : Hp) (p : Addr) (ls : List (Addr × HO)) (H' : Hp) : Prop where
  pool : PoolAt H' p
  keep : KeepBut p H H'
  own : ∀ q ∈ ls, H' q.1 = some q.2 ∧ H q.1 = none ∧ q.1 ≠ p
  nd : (ls.map (·.1)).Nodup
namespace Ls
variable {H H' H2 : Hp} {p : Addr} {ls : List (Addr × HO)}
theorem start (hp : PoolAt H p) : Ls H p [] H := ⟨hp, KeepBut.refl _ _, fun _ h => (nomatch h), List.nodup_nil⟩
theorem get (L : Ls H p ls H') {i : Nat} {a : Addr} {o : HO} (h : ls[i]? = some (a, o)) : H' a = some o := (L.own _ (List.mem_of_getElem? h)).1
theorem ne (L : Ls H p ls H') {i : Nat} {a : Addr} {o : HO} (h : ls[i]? = some (a, o)) : a ≠ p := (L.own _ (List.mem_of_getElem? h)).2.2
theorem none (L : Ls H p ls H') {i : Nat} {a : Addr} {o : HO} (h : ls[i]? = some (a, o)) : H a = .none := (L.own _ (List.mem_of_getElem? h)).2.1
theorem next (L : Ls H p ls H') (hp : PoolAt H2 p) (k : KeepBut p H' H2) : Ls H p ls H2 :=
  ⟨hp, L.keep.trans k, fun q hq => ⟨k _ _ (L.own q hq).1 (L.own q hq).2.2, (L.own q hq).2⟩, L.nd⟩
theorem free (L : Ls H p ls H') {c : Addr} (h : H' c = .none) : H c = .none := by
  cases q : H c with
  | none => rfl
  | some o =>
    by_cases e : c = p
    · obtain ⟨x, y, z, hp⟩ := L.pool
      rw [e, hp] at h; cases h
    · rw [L.keep c o q e] at h; cases h
theorem new (L : Ls H p ls H') {c : Addr} (o : HO) (h : H' c = .none) : Ls H p ((c, o) :: ls) (upd H' c o) := by
  refine ⟨L.pool.keep rfl h, KeepBut.new L.keep h, fun q hq => ?_, ?_⟩
  · rcases List.mem_cons.mp hq with rfl | hq
    · exact ⟨upd_same, L.free h, fun e => L.pool.ne h e.symm⟩
    · exact ⟨by rw [upd_ne (ne_of_none (L.own q hq).1 h)]; exact (L.own q hq).1, (L.own q hq).2⟩
  · show (c :: ls.map (·.1)).Nodup
    refine List.nodup_cons.mpr ⟨fun m => ?_, L.nd⟩
    obtain ⟨q, hq, e⟩ := List.mem_map.mp m
    have := (L.own q hq).1
    rw [e, h] at this; cases this
theorem tail {q : Addr × HO} (L : Ls H p (q :: ls) H') : Ls H p ls H' := ⟨L.pool, L.keep, fun r hr => L.own r (List.mem_cons_of_mem _ hr), (List.nodup_cons.mp L.nd).2⟩
theorem set (L : Ls H p ls H') (i : Nat) {a : Addr} {o : HO} (o' : HO) (h : ls[i]? = some (a, o)) : Ls H p (ls.set i (a, o')) (upd H' a o') := by
  have hm := List.mem_of_getElem? h
  have ha := L.own _ hm
  have e : (ls.set i (a, o')).map (·.1) = ls.map (·.1) := by
    rw [List.map_set]
    apply List.ext_getElem?
    intro j
    rw [List.getElem?_set]
    split
    · rename_i ij
      subst ij
      rw [List.getElem?_map, h]
      split
      · rfl
      · rename_i hlt
        rw [List.length_map] at hlt
        exact absurd (List.getElem?_eq_some_iff.mp h).1 hlt
    · rfl
  refine ⟨L.pool.other (Ne.symm ha.2.2), fun b u hb n => ?_, fun q hq => ?_, by rw [e]; exact L.nd⟩
  · rw [upd_ne (ne_of_none hb ha.2.1)]
    exact L.keep b u hb n
  · obtain ⟨j, hj⟩ := List.getElem?_of_mem hq
    rw [List.getElem?_set] at hj
    split at hj
    · split at hj
      · cases hj
        exact ⟨upd_same, ha.2⟩
      · cases hj
    · rename_i ij
      have hq := L.own _ (List.mem_of_getElem? hj)
      refine ⟨?_, hq.2⟩
      rw [upd_ne]
      · exact hq.1
      · intro e
        apply ij
        have h1 : (ls.map (·.1))[i]? = some a := by rw [List.getElem?_map, h]; rfl
        have h2 : (ls.map (·.1))[j]? = some a := by rw [List.getElem?_map, hj]; exact congrArg some e
        exact nd_ix L.nd h1 h2
theorem sub {ls' : List (Addr × HO)} (L : Ls H p ls H') (h : List.Sublist ls' ls) : Ls H p ls' H' := ⟨L.pool, L.keep, fun q hq => L.own q (h.subset hq), (h.map _).nodup L.nd⟩
end Ls
end Bk

set_option Elab.async false
set_option linter.all false
set_option maxRecDepth 100000
set_option maxHeartbeats 4000000
namespace L2
open PySem PySem.Spec PyProof.Rows
section
variable {prog : Program} {w : World} {A : Around} {R : Result → Shared → Prop} {s : Shared} {kx vx t0 i0 t1 i1 : Expr} {ifs0 ifs1 : List Expr} {scope : Scope} {pos : Pos} {it acc : Value} {env : Env}
end

section
variable {X : Cx}
end
end L2

set_option Elab.async false
set_option linter.all false
set_option maxRecDepth 100000
set_option maxHeartbeats 4000000
namespace Bk
open PySem L2 Nm
/-- a book's makes, each with its kind -/
def pairsD (b : BookD) : List (KindD × MakeD) := (b.map fun k => k.2.map fun m => (k, m)).flatten
/-- the table of a dict holds what is due of these pairs -/
structure TabOk (H : Hp) (val : KindD → Addr → V) (kvs : List (Key × V)) (done : List (KindD × MakeD)) : Prop where
  len : kvs.length ≤ done.length
  val : ∀ p ∈ done, ∃ b, valV kvs (Sum.inr p.2.1) = some (val p.1 b) ∧ H b = some (.tup (p.2.2.map V.str))
theorem TabOk.nil {H : Hp} {val : KindD → Addr → V} : TabOk H val [] [] := ⟨Nat.le_refl _, fun _ h => (nomatch h)⟩
theorem SqT.same {K : PySem.W.Frag} {H H' : Hp} {a : Addr} {xs : List V} (e : Same H H') (h : SqT K H a xs) : SqT K H' a xs := by
  rcases h with (h | ⟨o, h⟩) | h
  · exact .inl (.inl (e _ _ h))
  · exact .inl (.inr ⟨o, e _ _ h⟩)
  · exact .inr h
theorem Pd.at {α β : Type} {R : α → β → Prop} : ∀ {as : List α} {bs : List β} (i : Nat), Pd R as bs → (hi : i < bs.length) → ∃ a, as[i]? = some a ∧ R a bs[i]
  | _, _, i, .nil, hi => absurd hi (Nat.not_lt_zero _)
  | _, _, 0, .cons x _, _ => ⟨_, rfl, x⟩
  | _, _, i + 1, .cons _ t, hi => by
    obtain ⟨a, h1, h2⟩ := Pd.at i t (Nat.lt_of_succ_lt_succ hi)
    exact ⟨a, by simpa using h1, h2⟩
theorem strOk_word {z : Str} (h : Word z) : PyData.strOk z = true := by
  unfold PyData.strOk
  rw [Array.all_eq_true']
  intro c hc
  have := h.2.2 c (by simpa using hc)
  simp
  omega
theorem eqv_self {d : PyData} (h : SeqAt.shaped d = true) : PyData.eqv d d = true := SeqAt.eqv_refl d (SeqAt.canLay_of_shaped h)
end Bk

set_option Elab.async false
set_option linter.all false
set_option maxRecDepth 100000
set_option maxHeartbeats 4000000
namespace L2
open PySem PySem.Spec PyProof.Rows
section
variable {X : Cx}
end
end L2

set_option Elab.async false
set_option linter.all false
set_option maxRecDepth 100000
set_option maxHeartbeats 4000000
namespace L2
open PySem PySem.Spec PyProof.Rows
section
variable {X : Cx} {K : PySem.W.Frag}
end
end L2

set_option Elab.async false
set_option linter.all false
set_option maxRecDepth 100000
set_option maxHeartbeats 4000000
namespace Bk
open PySem L2 Nm
inductive PV where
  | num (z : Int)
  | mk (n : Str) (ps : List PV)
mutual
inductive ValAt (H : Hp) : V → PV → Prop
  | num (z : Int) : ValAt H (.int z) (.num z)
  | mk {a : Addr} {n : Str} {vs : List V} {ps : List PV} : H a = some (.tup (.str n :: vs)) → ValsAt H vs ps → ValAt H (.ref a) (.mk n ps)
inductive ValsAt (H : Hp) : List V → List PV → Prop
  | nil : ValsAt H [] []
  | cons {v : V} {p : PV} {vs : List V} {ps : List PV} : ValAt H v p → ValsAt H vs ps → ValsAt H (v :: vs) (p :: ps)
end
mutual
theorem ValAt.keep {H H' : Hp} (k : KeepT H H') : ∀ {v : V} {p : PV}, ValAt H v p → ValAt H' v p
  | _, _, .num z => .num z
  | _, _, .mk h t => .mk (k _ _ h) (ValsAt.keep k t)
theorem ValsAt.keep {H H' : Hp} (k : KeepT H H') : ∀ {vs : List V} {ps : List PV}, ValsAt H vs ps → ValsAt H' vs ps
  | _, _, .nil => .nil
  | _, _, .cons h t => .cons (ValAt.keep k h) (ValsAt.keep k t)
end
theorem ValsAt.length {H : Hp} : ∀ {vs : List V} {ps : List PV}, ValsAt H vs ps → vs.length = ps.length
  | _, _, .nil => rfl
  | _, _, .cons _ t => by rw [List.length_cons, List.length_cons, ValsAt.length t]
abbrev GotD := List (Str × PV)
def gv (g : GotD) (f : Str) : Option PV := (g.find? fun p => decide (p.1 = f)).map (·.2)
theorem gv_pos {p : Str × PV} {r : GotD} {f : Str} (e : p.1 = f) : gv (p :: r) f = some p.2 := by simp [gv, List.find?_cons, e]
theorem gv_neg {p : Str × PV} {r : GotD} {f : Str} (e : ¬ p.1 = f) : gv (p :: r) f = gv r f := by simp [gv, List.find?_cons, e]
def allGot (g : GotD) (fs : List Str) : Bool := fs.all fun f => (gv g f).isSome
def made (g : GotD) (m : MakeD) : PV := .mk m.1 (m.2.map fun f => (gv g f).getD (.num 0))
def firstMade (g : GotD) : List MakeD → Option PV
  | [] => none
  | m :: r => if allGot g m.2 = true then some (made g m) else firstMade g r
def oneR (g : GotD) (k : KindD) : GotD := if (gv g k.1).isSome = true then [] else match firstMade g k.2 with
  | none => []
  | some p => [(k.1, p)]
def nextR (g : GotD) (b : BookD) : GotD := (b.map (oneR g)).flatten
/-- the rounds -/
def G (b : BookD) : Nat → GotD
  | 0 => [("num", .num 0)]
  | n + 1 => G b n ++ nextR (G b n) b
def plainG (b : BookD) : GotD := G b b.length
structure GotOk (b : BookD) (g : GotD) : Prop where
  nd : (g.map (·.1)).Nodup
  sub : ∀ f : Str, f ∈ g.map (·.1) → f = "num" ∨ f ∈ kindsD b
  num : ("num" : Str) ∈ g.map (·.1)
theorem nodup_len {α : Type} [DecidableEq α] : ∀ {l r : List α}, l.Nodup → (∀ x ∈ l, x ∈ r) → l.length ≤ r.length
  | [], _, _, _ => Nat.zero_le _
  | a :: l, r, hn, hs => by
    obtain ⟨h1, h2⟩ := List.nodup_cons.mp hn
    have : l.length ≤ (r.erase a).length := nodup_len h2 fun x hx => by
      have hne : x ≠ a := fun e => h1 (e ▸ hx)
      exact (List.mem_erase_of_ne hne).mpr (hs x (List.mem_cons_of_mem _ hx))
    have hm := hs a List.mem_cons_self
    rw [List.length_erase_of_mem hm] at this
    have : 0 < r.length := List.length_pos_of_mem hm
    rw [List.length_cons]
    omega
theorem GotOk.len {b : BookD} {g : GotD} (h : GotOk b g) : g.length ≤ b.length + 1 := by
  have := nodup_len (r := ("num" : Str) :: kindsD b) h.nd fun x hx => by
    rcases h.sub x hx with e | e
    · rw [e]; exact List.mem_cons_self
    · exact List.mem_cons_of_mem _ e
  rw [List.length_map, List.length_cons] at this
  have e : (kindsD b).length = b.length := by simp [kindsD]
  omega
def GotAt (H : Hp) (kvs : List (Key × V)) (g : GotD) : Prop := Pd (fun (kv : Key × V) (p : Str × PV) => kv.1 = Sum.inr p.1 ∧ ValAt H kv.2 p.2) kvs g
theorem GotAt.keep {H H' : Hp} (k : KeepT H H') {kvs : List (Key × V)} {g : GotD} (h : GotAt H kvs g) : GotAt H' kvs g := h.mono fun _ _ q => ⟨q.1, q.2.keep k⟩
theorem GotAt.val {H : Hp} {f : Str} : ∀ {kvs : List (Key × V)} {g : GotD}, GotAt H kvs g → (gv g f = none ∧ valV kvs (Sum.inr f : Key) = none) ∨ ∃ p v, gv g f = some p ∧ valV kvs (Sum.inr f : Key) = some v ∧ ValAt H v p
  | _, _, .nil => .inl ⟨rfl, rfl⟩
  | _, _, .cons (a := kv) (b := p) h t => by
    by_cases e : p.1 = f
    · exact .inr ⟨p.2, kv.2, gv_pos e, valV_pos (by rw [h.1, e]), h.2⟩
    · have e' : ¬ kv.1 = (Sum.inr f : Key) := fun z => e (by rw [h.1] at z; exact Sum.inr.inj z)
      rw [gv_neg e, valV_neg e']
      exact GotAt.val t
theorem GotAt.isSome {H : Hp} {f : Str} {kvs : List (Key × V)} {g : GotD} (h : GotAt H kvs g) : (valV kvs (Sum.inr f : Key)).isSome = (gv g f).isSome := by
  rcases h.val (f := f) with ⟨h1, h2⟩ | ⟨p, v, h1, h2, _⟩ <;> rw [h1, h2] <;> rfl
theorem GotAt.length {H : Hp} {kvs : List (Key × V)} {g : GotD} (h : GotAt H kvs g) : kvs.length = g.length := Pd.length h
theorem GotAt.keys {H : Hp} : ∀ {kvs : List (Key × V)} {g : GotD}, GotAt H kvs g → kvs.map (·.1) = g.map fun p => (Sum.inr p.1 : Key)
  | _, _, .nil => rfl
  | _, _, .cons h t => by rw [List.map_cons, List.map_cons, h.1, GotAt.keys t]
inductive Alive (b : BookD) : Str → Prop
  | num : Alive b "num"
  | kind {k : KindD} {m : MakeD} : k ∈ b → m ∈ k.2 → (∀ f ∈ m.2, Alive b f) → Alive b k.1
end Bk

set_option Elab.async false
set_option linter.all false
set_option maxRecDepth 100000
set_option maxHeartbeats 4000000
namespace Bk
open PySem L2 Nm
/-- the makes of a kind -/
def ownD (b : BookD) (k : Str) : List MakeD := ((b.filter fun q => decide (q.1 = k)).map (·.2)).flatten
def comesD (b : BookD) (k : Str) : List MakeD := (ownD b k).filter fun m => allGot (plainG b) m.2
end Bk

set_option Elab.async false
set_option linter.all false
set_option maxRecDepth 100000
set_option maxHeartbeats 4000000
namespace Bk
open PySem L2 Nm
structure LiveOk (b : BookD) (l : List Str) : Prop where
  nd : l.Nodup
  sub : ∀ f : Str, f ∈ l → f = "num" ∨ f ∈ kindsD b
  num : ("num" : Str) ∈ l
  live : ∀ f : Str, f ∈ l → Alive b f
theorem LiveOk.len {b : BookD} {l : List Str} (h : LiveOk b l) : l.length ≤ b.length + 1 := by
  have := nodup_len (r := ("num" : Str) :: kindsD b) h.nd fun x hx => by
    rcases h.sub x hx with e | e
    · rw [e]; exact List.mem_cons_self
    · exact List.mem_cons_of_mem _ e
  rw [List.length_cons] at this
  have e : (kindsD b).length = b.length := by simp [kindsD]
  omega
theorem LiveOk.start (b : BookD) : LiveOk b ["num"] := ⟨by simp, fun f hf => .inl (by simpa using hf), by simp, fun f hf => by
  have : f = "num" := by simpa using hf
  rw [this]; exact .num⟩
end Bk

set_option Elab.async false
set_option linter.all false
set_option maxRecDepth 100000
set_option maxHeartbeats 4000000
namespace L2
open PySem PySem.Spec PyProof.Rows
section
variable {X : Cx}
end
end L2

set_option Elab.async false
set_option linter.all false
set_option maxRecDepth 100000
set_option maxHeartbeats 4000000
namespace Bk
open PySem L2 Nm
mutual
def pvData : PV → PyData
  | .num z => .int z
  | .mk n ps => .tuple (.str n :: pvDatas ps)
def pvDatas : List PV → List PyData
  | [] => []
  | p :: r => pvData p :: pvDatas r
end
mutual
theorem ValAt.dp {K : PySem.W.Frag} {H : Hp} : ∀ {v : V} {p : PV}, ValAt H v p → Dp K H v (pvData p)
  | _, _, .num z => by unfold pvData; exact .int z
  | _, _, .mk h t => by unfold pvData; exact .tup (SqT.of h) (.cons (.str _) (ValsAt.dp t))
theorem ValsAt.dp {K : PySem.W.Frag} {H : Hp} : ∀ {vs : List V} {ps : List PV}, ValsAt H vs ps → DpAll K H vs (pvDatas ps)
  | _, _, .nil => by unfold pvDatas; exact .nil
  | _, _, .cons h t => by unfold pvDatas; exact .cons (ValAt.dp h) (ValsAt.dp t)
end
def Flat (n : Nat) (p : PV) : Prop := (pvData p).canLay0 = true ∧ (pvData p).depth ≤ n
theorem flats {n : Nat} : ∀ ps : List PV, (∀ p ∈ ps, Flat n p) → PyData.canLayAll0 (pvDatas ps) = true ∧ PyData.depthAll (pvDatas ps) ≤ n
  | [], _ => by unfold pvDatas; exact ⟨by simp [PyData.canLayAll0], by simp [PyData.depthAll]⟩
  | p :: r, h => by
    obtain ⟨h1, h2⟩ := h p List.mem_cons_self
    obtain ⟨h3, h4⟩ := flats r fun x hx => h x (List.mem_cons_of_mem _ hx)
    unfold pvDatas
    refine ⟨by simp [PyData.canLayAll0, h1, h3], ?_⟩
    unfold PyData.depthAll
    omega
theorem Flat.num {n : Nat} (z : Int) : Flat n (.num z) := by
  unfold Flat pvData
  exact ⟨by simp [PyData.canLay0], by simp [PyData.depth]⟩
theorem Flat.mk {n : Nat} {m : Str} {ps : List PV} (hw : Word m) (h : ∀ p ∈ ps, Flat n p) : Flat (n + 1) (.mk m ps) := by
  obtain ⟨h1, h2⟩ := flats ps h
  unfold Flat pvData
  refine ⟨by simp [PyData.canLay0, PyData.canLayAll0, strOk_word hw, h1], ?_⟩
  simp only [PyData.depth, PyData.depthAll]
  omega
theorem Flat.mono {n k : Nat} (h : n ≤ k) {p : PV} (f : Flat n p) : Flat k p := ⟨f.1, Nat.le_trans f.2 h⟩
end Bk

set_option Elab.async false
set_option linter.all false
set_option maxRecDepth 100000
set_option maxHeartbeats 4000000
namespace L2
open PySem PySem.Spec PyProof.Rows
section
variable {prog : Program} {w : World} {A : Around} {E : Value → Shared → Prop} {s : Shared}
end
end L2

set_option Elab.async false
set_option linter.all false
set_option maxRecDepth 100000
set_option maxHeartbeats 4000000
namespace L2
open PySem PySem.Spec PyProof.Rows
abbrev ZipAt (h : Heap) (z TI TO : Addr) (f0 f1 : Value) : Prop := h.get? z = some { cls := .type "zip", dict := none, data := .fields #[f0, f1, .bool false, .ref TI, .ref TO], slots := #[] }
structure ZSt (h : Heap) (z TI TO i1 i2 t1 t2 : Addr) (xs ys : Array Value) (k : Nat) : Prop where
  zip : ∃ f0 b, (f0 = .none ∨ ∃ T : Nat, f0 = rawInt T) ∧ ZipAt h z TI TO f0 (.bool b)
  ins : IsPair h TI (.ref i1) (.ref i2)
  out : ∃ a b, IsPair h TO a b
  it1 : h.IsTupleIter i1 t1 k
  it2 : h.IsTupleIter i2 t2 k
  tu1 : h.IsTuple t1 xs
  tu2 : h.IsTuple t2 ys
section
variable {prog : Program} {w : World} {A : Around} {E : Value → Shared → Prop} {s : Shared}
end
end L2

set_option Elab.async false
set_option linter.all false
set_option maxRecDepth 100000
set_option maxHeartbeats 4000000
namespace L2
open PySem PySem.Spec PyProof.Rows
section
variable {prog : Program} {w : World} {A : Around} {E : Value → Shared → Prop} {s : Shared}
end
end L2

set_option Elab.async false
set_option linter.all false
set_option maxRecDepth 100000
set_option maxHeartbeats 4000000
namespace L2
open PySem PySem.Spec PyProof.Rows
theorem ZSt.keep {h h' : Heap} {z TI TO i1 i2 t1 t2 : Addr} {xs ys : Array Value} {k : Nat} (st : ZSt h z TI TO i1 i2 t1 t2 xs ys k) (hk : ∀ b ∈ [z, TI, TO, i1, i2, t1, t2], ∀ o, h.get? b = some o → h'.get? b = some o) : ZSt h' z TI TO i1 i2 t1 t2 xs ys k := by
  obtain ⟨⟨f0, b, hf, hz⟩, h1, ⟨a, c, h2⟩, ⟨o3, h3, r3⟩, ⟨o4, h4, r4⟩, ⟨o5, h5, r5⟩, ⟨o6, h6, r6⟩⟩ := st
  exact ⟨⟨f0, b, hf, hk _ (by simp) _ hz⟩, hk _ (by simp) _ h1, ⟨a, c, hk _ (by simp) _ h2⟩, ⟨o3, hk _ (by simp) _ h3, r3⟩, ⟨o4, hk _ (by simp) _ h4, r4⟩, ⟨o5, hk _ (by simp) _ h5, r5⟩, ⟨o6, hk _ (by simp) _ h6, r6⟩⟩
section
variable {X : Cx} {pins : List (Addr × Obj)} {σ : St}
end
end L2

set_option Elab.async false
set_option linter.all false
set_option maxRecDepth 100000
set_option maxHeartbeats 4000000
namespace Bk
open PySem L2 Nm
theorem strs_inj : ∀ l r : List Str, l.map V.str = r.map V.str → l = r
  | [], [], _ => rfl
  | [], _ :: _, h => by cases h
  | _ :: _, [], h => by cases h
  | x :: l, y :: r, h => by
    rw [List.map_cons, List.map_cons] at h
    injection h with h1 h2
    injection h1 with h1
    rw [h1, strs_inj l r h2]
theorem MakeAt.inj {H : Hp} {v : V} {a b : MakeD} (h : MakeAt H v a) (h' : MakeAt H v b) : a = b := by
  obtain ⟨a1, a2⟩ := a
  obtain ⟨b1, b2⟩ := b
  obtain ⟨p, q, rfl, h1, h2⟩ := h
  obtain ⟨p', q', e, h3, h4⟩ := h'
  injection e with e
  subst e
  rw [h1] at h3
  have e := HO.tup.inj (Option.some.inj h3)
  injection e with e1 e2
  injection e1 with e1
  injection e2 with e2
  injection e2 with e2
  subst e2
  rw [h2] at h4
  have e3 := strs_inj _ _ (HO.tup.inj (Option.some.inj h4))
  have e1 : a1 = b1 := e1
  have e3 : a2 = b2 := e3
  rw [e1, e3]
end Bk

set_option Elab.async false
set_option linter.all false
set_option maxRecDepth 100000
set_option maxHeartbeats 4000000
namespace Bk
open PySem L2 Nm
/-- a value of a kind, less than n deep -/
def IsVal (b : BookD) : Nat → Str → PV → Prop
  | 0 => fun _ _ => False
  | n + 1 => fun f p => (∃ z, p = .num z ∧ f = "num") ∨ ∃ k ∈ b, ∃ m ∈ k.2, ∃ ps, k.1 = f ∧ p = .mk m.1 ps ∧ Pd (IsVal b n) m.2 ps
theorem IsVal.up {b : BookD} : ∀ {n : Nat} {f : Str} {p : PV}, IsVal b n f p → IsVal b (n + 1) f p
  | 0, _, _, h => h.elim
  | n + 1, f, p, h => by
    rcases h with h | ⟨k, hk, m, hm, ps, e1, e2, h⟩
    · exact .inl h
    · exact .inr ⟨k, hk, m, hm, ps, e1, e2, h.mono fun _ _ q => IsVal.up q⟩
theorem IsVal.mono {b : BookD} {n : Nat} {f : Str} {p : PV} (h : IsVal b n f p) : ∀ {k : Nat}, n ≤ k → IsVal b k f p
  | 0, hk => by
    have : n = 0 := by omega
    rw [this] at h; exact h
  | k + 1, hk => by
    by_cases e : n = k + 1
    · rw [← e]; exact h
    · exact (IsVal.mono h (k := k) (by omega)).up
theorem Pd.zip {α β : Type} {R : α → β → Prop} : ∀ {as : List α} {bs : List β}, Pd R as bs → ∀ x ∈ as.zip bs, R x.1 x.2
  | _, _, .nil, x, hx => by cases hx
  | _, _, .cons h t, x, hx => by
    rw [List.zip_cons_cons] at hx
    rcases List.mem_cons.mp hx with e | e
    · rw [e]; exact h
    · exact Pd.zip t x e
theorem ValsAt.zip {H : Hp} {R : Str → PV → Prop} : ∀ {vs : List V} {ps : List PV} {fs : List Str}, ValsAt H vs ps → Pd R fs ps → ∀ x ∈ (fs.map V.str).zip vs, ∃ f p, x.1 = .str f ∧ ValAt H x.2 p ∧ R f p
  | _, _, _, .nil, .nil, x, hx => by cases hx
  | _, _, _, .cons h t, .cons r q, x, hx => by
    rw [List.map_cons, List.zip_cons_cons] at hx
    rcases List.mem_cons.mp hx with e | e
    · rw [e]; exact ⟨_, _, rfl, h, r⟩
    · exact ValsAt.zip t q x e
end Bk

set_option Elab.async false
set_option linter.all false
set_option maxRecDepth 100000
set_option maxHeartbeats 4000000
namespace Bk
open PySem L2 Nm
def FirstIs (H : Hp) (v : V) : Option PV → Prop
  | none => v = .non
  | some p => ValAt H v p
mutual
def pvSize : PV → Nat
  | .num _ => 1
  | .mk _ ps => 1 + pvSizes ps
def pvSizes : List PV → Nat
  | [] => 0
  | p :: r => pvSize p + pvSizes r
end
/-- less than n deep -/
def Dpt : Nat → PV → Prop
  | 0 => fun _ => False
  | n + 1 => fun p => (∃ z, p = .num z) ∨ ∃ nm ps, p = .mk nm ps ∧ ps.length ≤ 4 ∧ ∀ q ∈ ps, Dpt n q
theorem Dpt.up : ∀ {n : Nat} {p : PV}, Dpt n p → Dpt (n + 1) p
  | 0, _, h => h.elim
  | n + 1, p, h => by
    rcases h with h | ⟨nm, ps, e, hl, h⟩
    · exact .inl h
    · exact .inr ⟨nm, ps, e, hl, fun q hq => (h q hq).up⟩
theorem Dpt.mono {n : Nat} {p : PV} (h : Dpt n p) : ∀ {k : Nat}, n ≤ k → Dpt k p
  | 0, hk => by
    have : n = 0 := by omega
    rw [this] at h; exact h
  | k + 1, hk => by
    by_cases e : n = k + 1
    · rw [← e]; exact h
    · exact (Dpt.mono h (k := k) (by omega)).up
end Bk
namespace Bk
open PySem L2 Nm
theorem ValsAt.get {H : Hp} : ∀ {vs : List V} {ps : List PV} {i : Nat} {x : V}, ValsAt H vs ps → vs[i]? = some x → ∃ p, ps[i]? = some p ∧ ValAt H x p
  | _, _, 0, _, .cons h _, e => by
    simp at e
    subst e
    exact ⟨_, rfl, h⟩
  | _, _, i + 1, x, .cons _ t, e => by
    obtain ⟨p, h1, h2⟩ := ValsAt.get (i := i) (x := x) t (by simpa using e)
    exact ⟨p, by simpa using h1, h2⟩
end Bk

set_option Elab.async false
set_option linter.all false
set_option maxRecDepth 100000
set_option maxHeartbeats 4000000
namespace Bk
open PySem L2 Nm
end Bk

set_option Elab.async false
set_option linter.all false
set_option maxRecDepth 100000
set_option maxHeartbeats 4000000
namespace Bk
open PySem L2 Nm
/-- a pool and a room that are drawn on, all else kept -/
structure Dr (p rm : Addr) (H H' : Hp) : Prop where
  pool : PoolAt H' p
  room : ∃ r : Int, H' rm = some (.lst [.int r])
  keep : ∀ b o, H b = some o → b ≠ p → b ≠ rm → H' b = some o
namespace Dr
variable {p rm : Addr} {H H1 H2 : Hp}
theorem refl (hp : PoolAt H p) (hr : ∃ r : Int, H rm = some (.lst [.int r])) : Dr p rm H H := ⟨hp, hr, fun _ _ h _ _ => h⟩
theorem trans (a : Dr p rm H H1) (b : Dr p rm H1 H2) : Dr p rm H H2 := ⟨b.pool, b.room, fun c o h n1 n2 => b.keep c o (a.keep c o h n1 n2) n1 n2⟩
theorem same (a : Dr p rm H H1) (s : Same H1 H2) : Dr p rm H H2 := by
  obtain ⟨x, y, z, hp⟩ := a.pool
  obtain ⟨r, hr⟩ := a.room
  exact ⟨⟨x, y, z, s _ _ hp⟩, ⟨r, s _ _ hr⟩, fun c o h n1 n2 => s _ _ (a.keep c o h n1 n2)⟩
theorem but (a : Dr p rm H H1) (hne : p ≠ rm) (hp : PoolAt H2 p) (k : KeepBut p H1 H2) : Dr p rm H H2 := by
  obtain ⟨r, hr⟩ := a.room
  exact ⟨hp, ⟨r, k _ _ hr (Ne.symm hne)⟩, fun c o h n1 n2 => k _ _ (a.keep c o h n1 n2) n1⟩
/-- another list, made since, is written -/
theorem other (a : Dr p rm H H1) {L : Addr} {o : HO} (h : H L = none) (h1 : p ≠ L) (h2 : rm ≠ L) : Dr p rm H (upd H1 L o) := by
  obtain ⟨x, y, z, hp⟩ := a.pool
  obtain ⟨r, hr⟩ := a.room
  exact ⟨⟨x, y, z, by rw [upd_ne h1]; exact hp⟩, ⟨r, by rw [upd_ne h2]; exact hr⟩, fun c u hc n1 n2 => by rw [upd_ne (ne_of_none hc h)]; exact a.keep c u hc n1 n2⟩
theorem keepT (a : Dr p rm H H1) (hp : PoolAt H p) (hr : ∃ r : Int, H rm = some (.lst [.int r])) : KeepT H H1 := fun b xs hb => by
  obtain ⟨x, y, z, hp⟩ := hp
  obtain ⟨r, hr⟩ := hr
  exact a.keep b _ hb (ne_of hb hp (fun z => by cases z)) (ne_of hb hr (fun z => by cases z))
theorem dict (a : Dr p rm H H1) (hp : PoolAt H p) (hr : ∃ r : Int, H rm = some (.lst [.int r])) {D : Addr} {kvs : List (Key × V)} (h : H D = some (.dK kvs)) : H1 D = some (.dK kvs) := by
  obtain ⟨x, y, z, hp⟩ := hp
  obtain ⟨r, hr⟩ := hr
  exact a.keep D _ h (ne_of h hp (fun z => by cases z)) (ne_of h hr (fun z => by cases z))
end Dr
end Bk

set_option Elab.async false
set_option linter.all false
set_option maxRecDepth 100000
set_option maxHeartbeats 4000000
namespace L2
open PySem PySem.Spec PyProof.Rows
section
variable {X : Cx}
end
end L2

set_option Elab.async false
set_option linter.all false
set_option maxRecDepth 100000
set_option maxHeartbeats 4000000
namespace Bk
open PySem L2 Nm
theorem ValsAt.append {H : Hp} : ∀ {vs us : List V} {ps qs : List PV}, ValsAt H vs ps → ValsAt H us qs → ValsAt H (vs ++ us) (ps ++ qs)
  | _, _, _, _, .nil, h => h
  | _, _, _, _, .cons a t, h => .cons a (t.append h)
end Bk

set_option Elab.async false
set_option linter.all false
set_option maxRecDepth 100000
set_option maxHeartbeats 4000000
namespace L2
open PySem PySem.Spec PyProof.Rows
section
variable {X : Cx} {pins : List (Addr × Obj)} {σ : St}
end
end L2

set_option Elab.async false
set_option linter.all false
set_option maxRecDepth 100000
set_option maxHeartbeats 4000000
namespace L2
open PySem PySem.Spec PyProof.Rows
section
variable {X : Cx} {K : PySem.W.Frag}
end
end L2
namespace Bk
open PySem L2 Nm
end Bk

set_option Elab.async false
set_option linter.all false
set_option maxRecDepth 100000
set_option maxHeartbeats 4000000
namespace PySem
section
variable {prog : Program} {w : World} {A : Around} {E : Value → Shared → Prop} {s : Shared}
end
end PySem
namespace L2
open PySem PySem.Spec PyProof.Rows
section
variable {X : Cx} {tg : Expr}
end
end L2

set_option Elab.async false
set_option linter.all false
set_option maxRecDepth 100000
set_option maxHeartbeats 4000000
namespace Bk
open PySem L2 Nm
abbrev StepD := Str × Int
def StepAt (H : Hp) (v : V) (s : StepD) : Prop := ∃ a, v = .ref a ∧ H a = some (.tup [.str s.1, .int s.2])
theorem StepAt.keep {H H' : Hp} {v : V} {s : StepD} (h : StepAt H v s) (k : KeepT H H') : StepAt H' v s := by
  obtain ⟨a, e, h⟩ := h
  exact ⟨a, e, k _ _ h⟩
def SpotAt (H : Hp) (v : V) (sp : List StepD) : Prop := ∃ a us, v = .ref a ∧ H a = some (.tup us) ∧ Pd (StepAt H) us sp
theorem SpotAt.keep {H H' : Hp} {v : V} {sp : List StepD} (h : SpotAt H v sp) (k : KeepT H H') : SpotAt H' v sp := by
  obtain ⟨a, us, e, h, p⟩ := h
  exact ⟨a, us, e, k _ _ h, p.mono fun _ _ q => q.keep k⟩
def Nice : Nat → PV → Prop
  | 0 => fun _ => False
  | n + 1 => fun p => (∃ z, p = .num z) ∨ ∃ nm ps, p = .mk nm ps ∧ Word nm ∧ ps.length ≤ 4 ∧ ∀ q ∈ ps, Nice n q
theorem Nice.up : ∀ {n : Nat} {p : PV}, Nice n p → Nice (n + 1) p
  | 0, _, h => h.elim
  | n + 1, p, h => by
    rcases h with h | ⟨nm, ps, e, w, hl, h⟩
    · exact .inl h
    · exact .inr ⟨nm, ps, e, w, hl, fun q hq => (h q hq).up⟩
theorem Nice.mono {n : Nat} {p : PV} (h : Nice n p) : ∀ {k : Nat}, n ≤ k → Nice k p
  | 0, hk => by
    have : n = 0 := by omega
    rw [this] at h; exact h
  | k + 1, hk => by
    by_cases e : n = k + 1
    · rw [← e]; exact h
    · exact (Nice.mono h (k := k) (by omega)).up
theorem Nice.flat : ∀ {n : Nat} {p : PV}, Nice n p → Flat n p
  | 0, _, h => h.elim
  | n + 1, p, h => by
    rcases h with ⟨z, e⟩ | ⟨nm, ps, e, w, hl, h⟩
    · rw [e]; exact .num z
    · rw [e]; exact .mk w fun q hq => (h q hq).flat
theorem Nice.shaped {n : Nat} {p : PV} (h : Nice n p) (hn : n ≤ 63) : SeqAt.shaped (pvData p) = true := by
  have h1 := h.flat
  unfold SeqAt.shaped
  rw [h1.1]
  have : (pvData p).depth ≤ 64 := Nat.le_trans h1.2 (by omega)
  simpa using this
theorem Nice.parts {n : Nat} {nm : Str} {ps : List PV} (h : Nice (n + 1) (.mk nm ps)) : Word nm ∧ ps.length ≤ 4 ∧ ∀ q ∈ ps, Nice n q := by
  rcases h with ⟨z, e⟩ | ⟨nm', ps', e, w, hl, h⟩
  · cases e
  · cases e; exact ⟨w, hl, h⟩
def IsValS (b : BookD) (g : GotD) : Nat → Str → PV → Prop
  | 0 => fun _ _ => False
  | n + 1 => fun f p => (∃ z, p = .num z ∧ f = "num") ∨ ∃ k ∈ b, ∃ m ∈ k.2, ∃ ps, k.1 = f ∧ p = .mk m.1 ps ∧ allGot g m.2 = true ∧ Pd (IsValS b g n) m.2 ps
theorem IsValS.up {b : BookD} {g : GotD} : ∀ {n : Nat} {f : Str} {p : PV}, IsValS b g n f p → IsValS b g (n + 1) f p
  | 0, _, _, h => h.elim
  | n + 1, f, p, h => by
    rcases h with h | ⟨k, hk, m, hm, ps, e1, e2, e3, h⟩
    · exact .inl h
    · exact .inr ⟨k, hk, m, hm, ps, e1, e2, e3, h.mono fun _ _ q => IsValS.up q⟩
theorem IsValS.mono {b : BookD} {g : GotD} {n : Nat} {f : Str} {p : PV} (h : IsValS b g n f p) : ∀ {k : Nat}, n ≤ k → IsValS b g k f p
  | 0, hk => by
    have : n = 0 := by omega
    rw [this] at h; exact h
  | k + 1, hk => by
    by_cases e : n = k + 1
    · rw [← e]; exact h
    · exact (IsValS.mono h (k := k) (by omega)).up
end Bk

set_option Elab.async false
set_option linter.all false
set_option maxRecDepth 100000
set_option maxHeartbeats 4000000
namespace Bk
open PySem L2 Nm
theorem ValsAt.set {H : Hp} {v : V} {p : PV} (h : ValAt H v p) : ∀ {vs : List V} {ps : List PV} (i : Nat), ValsAt H vs ps → ValsAt H (vs.set i v) (ps.set i p)
  | _, _, _, .nil => .nil
  | _, _, 0, .cons _ t => .cons h t
  | _, _, i + 1, .cons a t => .cons a (ValsAt.set h i t)
theorem ValsAt.take {H : Hp} : ∀ {vs : List V} {ps : List PV} (n : Nat), ValsAt H vs ps → ValsAt H (vs.take n) (ps.take n)
  | _, _, 0, _ => by rw [List.take_zero, List.take_zero]; exact .nil
  | _, _, n + 1, .nil => .nil
  | _, _, n + 1, .cons a t => .cons a (ValsAt.take n t)
end Bk
namespace Bk
open PySem L2 Nm
end Bk

set_option Elab.async false
set_option linter.all false
set_option maxRecDepth 100000
set_option maxHeartbeats 4000000
namespace HT
open PySem PySem.Spec PyProof.Rows
section
variable {prog : Program} {w : World} {A : Around} {E : Value → Shared → Prop} {s : Shared}
end
end HT
namespace L2
open PySem PySem.Spec PyProof.Rows
section
variable {X : Cx}
end
end L2

set_option Elab.async false
set_option linter.all false
set_option maxRecDepth 100000
set_option maxHeartbeats 4000000
namespace Bk
open PySem L2 Nm
def headD : PV → PyData
  | .num z => .int z
  | .mk n _ => .str n
theorem Nice.head {n : Nat} {p : PV} (h : Nice n p) : SeqAt.shaped (headD p) = true := by
  cases n with
  | zero => exact h.elim
  | succ n =>
    cases p with
    | num z => rfl
    | mk nm ps =>
      have hw := strOk_word h.parts.1
      unfold SeqAt.shaped headD
      have a : (PyData.str nm).canLay0 = true := by simpa [PyData.canLay0] using hw
      rw [a]
      rfl
theorem Pd.set {α β : Type} {R : α → β → Prop} : ∀ {as : List α} {bs : List β} {i : Nat} {x : α} {y : β}, Pd R as bs → as[i]? = some x → R x y → Pd R as (bs.set i y)
  | _, _, _, _, _, .nil, e, _ => by cases e
  | _, _, 0, _, _, .cons h t, e, r => by
    simp at e
    subst e
    exact .cons r t
  | _, _, i + 1, _, _, .cons h t, e, r => .cons h (Pd.set (i := i) t (by simpa using e) r)
/-- a pair of a spot and a value -/
def PutAt (H : Hp) (v : V) (x : List StepD × PV) : Prop := ∃ a s p, v = .ref a ∧ H a = some (.tup [s, p]) ∧ SpotAt H s x.1 ∧ ValAt H p x.2
theorem PutAt.keep {H H' : Hp} {v : V} {x : List StepD × PV} (h : PutAt H v x) (k : KeepT H H') : PutAt H' v x := by
  obtain ⟨a, s, p, e, h1, h2, h3⟩ := h
  exact ⟨a, s, p, e, k _ _ h1, h2.keep k, h3.keep k⟩
end Bk

set_option Elab.async false
set_option linter.all false
set_option maxRecDepth 100000
set_option maxHeartbeats 4000000
namespace L2
open PySem PySem.Spec PyProof.Rows
section
variable {prog : Program} {w : World} {A : Around} {R : Result → Shared → Prop} {s : Shared} {kx vx t1 i1 : Expr} {ifs1 : List Expr} {scope : Scope} {pos : Pos} {it acc : Value} {env : Env}
end
section
variable {X : Cx}
end
end L2

set_option Elab.async false
set_option linter.all false
set_option maxRecDepth 100000
set_option maxHeartbeats 4000000
namespace Bk
open PySem L2 Nm
def TabAt {α : Type} (key : α → Str) (R : V → α → Prop) (kvs : List (Key × V)) (xs : List α) : Prop := Pd (fun (kv : Key × V) (x : α) => kv.1 = Sum.inr (key x) ∧ R kv.2 x) kvs xs
def findK {α : Type} (key : α → Str) (xs : List α) (f : Str) : Option α := xs.find? fun x => decide (key x = f)
theorem TabAt.mono {α : Type} {key : α → Str} {R S : V → α → Prop} {kvs : List (Key × V)} {xs : List α} (h : TabAt key R kvs xs) (f : ∀ v x, R v x → S v x) : TabAt key S kvs xs := Pd.mono (fun _ _ q => ⟨q.1, f _ _ q.2⟩) h
abbrev pairOf (B : BookD) (f : Str) : Option (KindD × MakeD) := findK (fun x : KindD × MakeD => x.2.1) (pairsD B) f
def FieldsIs (H : Hp) (v : V) (x : KindD × MakeD) : Prop := ∃ b, v = .ref b ∧ H b = some (.tup (x.2.2.map V.str))
def ComingIs (H : Hp) (B : BookD) (v : V) (k : Str) : Prop := ∃ b, v = .ref b ∧ H b = some (.tup (((comesD B k).map (·.1)).map V.str))
def GroundAt (C : Addr) (H : Hp) (g : Addr) (B : BookD) : Prop := ∃ (dx : Addr) (fs : List (Str × V)) (D1 D2 D3 D4 : Addr) (k1 k2 k3 k4 : List (Key × V)), H g = some (.ins C dx fs) ∧
  (fs.lookup ("plain" : Str) = some (.ref D1) ∧ fs.lookup ("kinds" : Str) = some (.ref D2) ∧ fs.lookup ("fields" : Str) = some (.ref D3) ∧ fs.lookup ("coming" : Str) = some (.ref D4) ∧ fs.lookup ("comes" : Str) = none ∧ fs.lookup ("sole" : Str) = none) ∧
  (H D1 = some (.dK k1) ∧ GotAt H k1 (plainG B)) ∧ (H D2 = some (.dK k2) ∧ TabAt (fun x : KindD × MakeD => x.2.1) (fun v x => v = .str x.1.1) k2 (pairsD B)) ∧
  (H D3 = some (.dK k3) ∧ TabAt (fun x : KindD × MakeD => x.2.1) (FieldsIs H) k3 (pairsD B)) ∧ (H D4 = some (.dK k4) ∧ TabAt id (ComingIs H B) k4 (kindsD B ++ [("num" : Str)]))
theorem GroundAt.same {C : Addr} {H H' : Hp} {g : Addr} {B : BookD} (h : GroundAt C H g B) (s : Same H H') : GroundAt C H' g B := by
  obtain ⟨dx, fs, D1, D2, D3, D4, k1, k2, k3, k4, h0, hl, ⟨a1, b1⟩, ⟨a2, b2⟩, ⟨a3, b3⟩, ⟨a4, b4⟩⟩ := h
  exact ⟨dx, fs, D1, D2, D3, D4, k1, k2, k3, k4, s _ _ h0, hl, ⟨s _ _ a1, b1.keep s.keepT⟩, ⟨s _ _ a2, b2⟩, ⟨s _ _ a3, b3.mono fun _ _ ⟨b, e, h⟩ => ⟨b, e, s _ _ h⟩⟩, ⟨s _ _ a4, b4.mono fun _ _ ⟨b, e, h⟩ => ⟨b, e, s _ _ h⟩⟩⟩
end Bk
namespace L2
open PySem
end L2
namespace L2
open PySem PySem.Spec PyProof.Rows
end L2

set_option Elab.async false
set_option linter.all false
set_option maxRecDepth 100000
set_option maxHeartbeats 4000000
namespace L2
open PySem PySem.Spec PyProof.Rows
section
variable {X : Cx}
end
section
variable {prog : Program} {w : World} {A : Around} {E : Value → Shared → Prop} {s : Shared}
end
section
variable {X : Cx}
end
end L2

set_option Elab.async false
set_option linter.all false
set_option maxRecDepth 100000
set_option maxHeartbeats 4000000
namespace Bk
open PySem L2 Nm
inductive TH where
  | num (z : Int)
  | bl (b : Bool)
  | non
  | str (s : Str)
  | tup (ts : List TH)
mutual
inductive ThAt (H : Hp) : V → TH → Prop
  | num (z : Int) : ThAt H (.int z) (.num z)
  | bl (b : Bool) : ThAt H (.bl b) (.bl b)
  | non : ThAt H .non .non
  | str (s : Str) : ThAt H (.str s) (.str s)
  | tup {a : Addr} {vs : List V} {ts : List TH} : H a = some (.tup vs) → ThsAt H vs ts → ThAt H (.ref a) (.tup ts)
inductive ThsAt (H : Hp) : List V → List TH → Prop
  | nil : ThsAt H [] []
  | cons {v : V} {p : TH} {vs : List V} {ps : List TH} : ThAt H v p → ThsAt H vs ps → ThsAt H (v :: vs) (p :: ps)
end
mutual
theorem ThAt.keep {H H' : Hp} (k : KeepT H H') : ∀ {v : V} {p : TH}, ThAt H v p → ThAt H' v p
  | _, _, .num z => .num z
  | _, _, .bl z => .bl z
  | _, _, .non => .non
  | _, _, .str z => .str z
  | _, _, .tup h t => .tup (k _ _ h) (ThsAt.keep k t)
theorem ThsAt.keep {H H' : Hp} (k : KeepT H H') : ∀ {vs : List V} {ps : List TH}, ThsAt H vs ps → ThsAt H' vs ps
  | _, _, .nil => .nil
  | _, _, .cons h t => .cons (ThAt.keep k h) (ThsAt.keep k t)
end
theorem ThsAt.append {H : Hp} : ∀ {vs us : List V} {ps qs : List TH}, ThsAt H vs ps → ThsAt H us qs → ThsAt H (vs ++ us) (ps ++ qs)
  | _, _, _, _, .nil, h => h
  | _, _, _, _, .cons a t, h => .cons a (t.append h)
theorem ThsAt.length {H : Hp} : ∀ {vs : List V} {ps : List TH}, ThsAt H vs ps → vs.length = ps.length
  | _, _, .nil => rfl
  | _, _, .cons _ t => by rw [List.length_cons, List.length_cons, ThsAt.length t]
theorem ThsAt.get {H : Hp} : ∀ {vs : List V} {ps : List TH} {i : Nat} {x : V}, ThsAt H vs ps → vs[i]? = some x → ∃ p, ps[i]? = some p ∧ ThAt H x p
  | _, _, 0, _, .cons h _, e => by
    simp at e
    subst e
    exact ⟨_, rfl, h⟩
  | _, _, i + 1, x, .cons _ t, e => by
    obtain ⟨p, h1, h2⟩ := ThsAt.get (i := i) (x := x) t (by simpa using e)
    exact ⟨p, by simpa using h1, h2⟩
theorem ThsAt.take {H : Hp} : ∀ {vs : List V} {ps : List TH} (n : Nat), ThsAt H vs ps → ThsAt H (vs.take n) (ps.take n)
  | _, _, 0, _ => by rw [List.take_zero, List.take_zero]; exact .nil
  | _, _, n + 1, .nil => by rw [List.take_nil, List.take_nil]; exact .nil
  | _, _, n + 1, .cons h t => by rw [List.take_succ_cons, List.take_succ_cons]; exact .cons h (t.take n)
theorem ThsAt.drop {H : Hp} : ∀ {vs : List V} {ps : List TH} (n : Nat), ThsAt H vs ps → ThsAt H (vs.drop n) (ps.drop n)
  | _, _, 0, h => h
  | _, _, n + 1, .nil => by rw [List.drop_nil, List.drop_nil]; exact .nil
  | _, _, n + 1, .cons h t => by rw [List.drop_succ_cons, List.drop_succ_cons]; exact t.drop n
mutual
def toTh : PV → TH
  | .num z => .num z
  | .mk n ps => .tup (.str n :: toThs ps)
def toThs : List PV → List TH
  | [] => []
  | p :: r => toTh p :: toThs r
end
mutual
theorem ValAt.th {H : Hp} : ∀ {v : V} {p : PV}, ValAt H v p → ThAt H v (toTh p)
  | _, _, .num z => by unfold toTh; exact .num z
  | _, _, .mk h t => by unfold toTh; exact .tup h (.cons (.str _) (ValsAt.th t))
theorem ValsAt.th {H : Hp} : ∀ {vs : List V} {ps : List PV}, ValsAt H vs ps → ThsAt H vs (toThs ps)
  | _, _, .nil => by unfold toThs; exact .nil
  | _, _, .cons h t => by unfold toThs; exact .cons (ValAt.th h) (ValsAt.th t)
end
theorem toThs_map : ∀ ps : List PV, toThs ps = ps.map toTh
  | [] => by rw [toThs]; rfl
  | p :: r => by rw [toThs, toThs_map r]; rfl
mutual
def thData : TH → PyData
  | .num z => .int z
  | .bl b => .bool b
  | .non => .none
  | .str s => .str s
  | .tup ts => .tuple (thDatas ts)
def thDatas : List TH → List PyData
  | [] => []
  | p :: r => thData p :: thDatas r
end
mutual
theorem ThAt.dp {K : PySem.W.Frag} {H : Hp} : ∀ {v : V} {p : TH}, ThAt H v p → Dp K H v (thData p)
  | _, _, .num z => by unfold thData; exact .int z
  | _, _, .bl z => by unfold thData; exact .bl z
  | _, _, .non => by unfold thData; exact .non
  | _, _, .str z => by unfold thData; exact .str z
  | _, _, .tup h t => by unfold thData; exact .tup (SqT.of h) (ThsAt.dp t)
theorem ThsAt.dp {K : PySem.W.Frag} {H : Hp} : ∀ {vs : List V} {ps : List TH}, ThsAt H vs ps → DpAll K H vs (thDatas ps)
  | _, _, .nil => by unfold thDatas; exact .nil
  | _, _, .cons h t => by unfold thDatas; exact .cons (ThAt.dp h) (ThsAt.dp t)
end
/-- so deep at most, with few parts, and texts that are short -/
def ThOk : Nat → TH → Prop
  | 0 => fun _ => False
  | n + 1 => fun t => (∃ z, t = .num z) ∨ (∃ b, t = .bl b) ∨ t = .non ∨ (∃ s, t = .str s ∧ PyData.strOk s = true) ∨ ∃ ts, t = .tup ts ∧ ts.length ≤ 6 ∧ ∀ q ∈ ts, ThOk n q
theorem ThOk.up : ∀ {n : Nat} {p : TH}, ThOk n p → ThOk (n + 1) p
  | 0, _, h => h.elim
  | n + 1, p, h => by
    rcases h with h | h | h | h | ⟨ts, e, hl, h⟩
    · exact .inl h
    · exact .inr (.inl h)
    · exact .inr (.inr (.inl h))
    · exact .inr (.inr (.inr (.inl h)))
    · exact .inr (.inr (.inr (.inr ⟨ts, e, hl, fun q hq => (h q hq).up⟩)))
theorem ThOk.mono {n : Nat} {p : TH} (h : ThOk n p) : ∀ {k : Nat}, n ≤ k → ThOk k p
  | 0, hk => by
    have : n = 0 := by omega
    rw [this] at h; exact h
  | k + 1, hk => by
    by_cases e : n = k + 1
    · rw [← e]; exact h
    · exact (ThOk.mono h (k := k) (by omega)).up
theorem ThOk.parts {n : Nat} {ts : List TH} (h : ThOk (n + 1) (.tup ts)) : ts.length ≤ 6 ∧ ∀ q ∈ ts, ThOk n q := by
  rcases h with ⟨_, e⟩ | ⟨_, e⟩ | e | ⟨_, e, _⟩ | ⟨ts', e, hl, h⟩
  · cases e
  · cases e
  · cases e
  · cases e
  · cases e; exact ⟨hl, h⟩
theorem ThOk.tup {n : Nat} {ts : List TH} (hl : ts.length ≤ 6) (h : ∀ q ∈ ts, ThOk n q) : ThOk (n + 1) (.tup ts) := .inr (.inr (.inr (.inr ⟨ts, rfl, hl, h⟩)))
theorem ThOk.str {n : Nat} {s : Str} (h : PyData.strOk s = true) : ThOk (n + 1) (.str s) := .inr (.inr (.inr (.inl ⟨s, rfl, h⟩)))
theorem ThOk.lay : ∀ {n : Nat} {t : TH}, ThOk n t → (thData t).canLay0 = true ∧ (thData t).depth ≤ n
  | 0, _, h => h.elim
  | n + 1, t, h => by
    rcases h with ⟨z, rfl⟩ | ⟨b, rfl⟩ | rfl | ⟨s, rfl, hs⟩ | ⟨ts, rfl, hl, h⟩
    · unfold thData; exact ⟨by simp [PyData.canLay0], by simp [PyData.depth]⟩
    · unfold thData; exact ⟨by simp [PyData.canLay0], by simp [PyData.depth]⟩
    · unfold thData; exact ⟨by simp [PyData.canLay0], by simp [PyData.depth]⟩
    · unfold thData; exact ⟨by simp [PyData.canLay0, hs], by simp [PyData.depth]⟩
    · have go : ∀ us : List TH, (∀ q ∈ us, ThOk n q) → PyData.canLayAll0 (thDatas us) = true ∧ PyData.depthAll (thDatas us) ≤ n := by
        intro us
        induction us with
        | nil => intro _; unfold thDatas; exact ⟨by simp [PyData.canLayAll0], by simp [PyData.depthAll]⟩
        | cons u r ih =>
          intro hh
          obtain ⟨h1, h2⟩ := (hh u List.mem_cons_self).lay
          obtain ⟨h3, h4⟩ := ih fun x hx => hh x (List.mem_cons_of_mem _ hx)
          unfold thDatas
          refine ⟨by simp [PyData.canLayAll0, h1, h3], ?_⟩
          unfold PyData.depthAll
          omega
      obtain ⟨h1, h2⟩ := go ts h
      unfold thData
      refine ⟨by simp [PyData.canLay0, h1], ?_⟩
      unfold PyData.depth
      omega
theorem ThOk.shaped {n : Nat} {t : TH} (h : ThOk n t) (hn : n ≤ 64) : SeqAt.shaped (thData t) = true := by
  obtain ⟨h1, h2⟩ := h.lay
  unfold SeqAt.shaped
  rw [h1]
  have : (thData t).depth ≤ 64 := by omega
  simpa using this
theorem Nice.th : ∀ {n : Nat} {p : PV}, Nice n p → ThOk (n + 1) (toTh p)
  | 0, _, h => h.elim
  | n + 1, p, h => by
    rcases h with ⟨z, rfl⟩ | ⟨nm, ps, rfl, w, hl, h⟩
    · rw [toTh]; exact .inl ⟨z, rfl⟩
    · rw [toTh]
      refine .tup (by rw [List.length_cons, toThs_map, List.length_map]; omega) fun q hq => ?_
      rcases List.mem_cons.mp hq with e | e
      · rw [e]; exact .str (strOk_word w)
      · rw [toThs_map] at e
        obtain ⟨x, hx, rfl⟩ := List.mem_map.mp e
        exact (h x hx).th
end Bk
namespace L2
open PySem PySem.Spec PyProof.Rows Bk
section
variable {X : Cx}
end
end L2

set_option Elab.async false
set_option linter.all false
set_option maxRecDepth 100000
set_option maxHeartbeats 4000000
namespace Bk
open PySem L2 Nm
theorem Pd.last {α β : Type} {R : α → β → Prop} : ∀ {as : List α} {bs : List β}, Pd R as bs → as ≠ [] → ∃ as' a bs' b, as = as' ++ [a] ∧ bs = bs' ++ [b] ∧ Pd R as' bs' ∧ R a b
  | _, _, .nil, h => absurd rfl h
  | _, _, .cons h .nil, _ => ⟨[], _, [], _, rfl, rfl, .nil, h⟩
  | _, _, .cons h (.cons h2 t), _ => by
    obtain ⟨as', a, bs', b, e1, e2, p, r⟩ := Pd.last (.cons h2 t) (fun z => nomatch z)
    exact ⟨_ :: as', a, _ :: bs', b, by rw [e1]; rfl, by rw [e2]; rfl, .cons h p, r⟩
def PendAt (H : Hp) (u : V) (x : Str × TH) : Prop := ∃ a v, u = .ref a ∧ H a = some (.tup [.str x.1, v]) ∧ ThAt H v x.2
theorem PendAt.keep {H H' : Hp} (k : KeepT H H') {u : V} {x : Str × TH} (h : PendAt H u x) : PendAt H' u x := by
  obtain ⟨a, v, e, h1, h2⟩ := h
  exact ⟨a, v, e, k _ _ h1, h2.keep k⟩
end Bk

set_option Elab.async false
set_option linter.all false
set_option maxRecDepth 100000
set_option maxHeartbeats 4000000
namespace Nm
open PySem L2
structure NamesOk (l : List Str) (many : Nat) : Prop where
  len : l.length = many
  nd : l.Nodup
  word : ∀ z ∈ l, Word z
  nn : ("num" : Str) ∈ l → ("numb" : Str) ∉ l
end Nm

set_option Elab.async false
set_option linter.all false
set_option maxRecDepth 100000
set_option maxHeartbeats 4000000
namespace L2
open PySem PySem.Spec PyProof.Rows
section
variable {prog : Program} {w : World} {A : Around} {E : Value → Shared → Prop}
end

section
variable {X : Cx}
end
end L2

set_option Elab.async false
set_option linter.all false
set_option maxRecDepth 100000
set_option maxHeartbeats 4000000
namespace L2
open PySem PySem.Spec PyProof.Rows
end L2
namespace Nm
open PySem PySem.Spec PyProof.Rows L2
end Nm

set_option Elab.async false
set_option linter.all false
set_option maxRecDepth 100000
set_option maxHeartbeats 4000000
namespace Bk
open PySem L2 Nm
theorem Nice.size3 : ∀ {n : Nat} {p : PV}, Nice n p → 3 * pvSize p + 1 ≤ 4 ^ n
  | 0, _, h => h.elim
  | n + 1, p, h => by
    have hpos : 0 < 4 ^ n := Nat.pow_pos (by decide)
    obtain ⟨Y, hY⟩ : ∃ Y, 4 ^ n = Y + 1 := ⟨4 ^ n - 1, by omega⟩
    have e4 : 4 ^ (n + 1) = 4 * (Y + 1) := by rw [Nat.pow_succ, hY]; omega
    rw [e4]
    rcases h with ⟨z, rfl⟩ | ⟨nm, ps, rfl, _, hl, h⟩
    · rw [pvSize]; omega
    · have go : ∀ qs : List PV, (∀ q ∈ qs, Nice n q) → 3 * pvSizes qs ≤ qs.length * Y := by
        intro qs
        induction qs with
        | nil => intro _; rw [pvSizes]; exact Nat.zero_le _
        | cons q r ih =>
          intro hq
          have h1 := (hq q List.mem_cons_self).size3
          have h2 := ih fun x hx => hq x (List.mem_cons_of_mem _ hx)
          rw [hY] at h1
          have h5 : (r.length + 1) * Y = r.length * Y + Y := Nat.succ_mul _ _
          rw [pvSizes, List.length_cons, h5]
          omega
      have h1 := go ps h
      have h2 : ps.length * Y ≤ 4 * Y := Nat.mul_le_mul_right _ hl
      rw [pvSize]
      omega
theorem Nice.size {n : Nat} {p : PV} (h : Nice n p) (hn : n ≤ 10) : pvSize p ≤ 349525 := by
  have h1 := h.size3
  have h2 : 4 ^ n ≤ 4 ^ 10 := Nat.pow_le_pow_right (by decide) hn
  have h3 : (4 : Nat) ^ 10 = 1048576 := by decide
  omega
end Bk
namespace Bk
open PySem L2 Nm
theorem TabAt.keys {α : Type} {key : α → Str} {R : V → α → Prop} : ∀ {kvs : List (Key × V)} {xs : List α}, TabAt key R kvs xs → kvs.map (·.1) = xs.map fun x => (Sum.inr (key x) : Key)
  | _, _, .nil => rfl
  | _, _, .cons h t => by
    rw [List.map_cons, List.map_cons, TabAt.keys (key := key) (R := R) t, h.1]
end Bk

set_option Elab.async false
set_option linter.all false
set_option maxRecDepth 100000
set_option maxHeartbeats 4000000
namespace L2
open PySem PySem.Spec PyProof.Rows
end L2
namespace Bk
open PySem L2 Nm
inductive TestD where
  | is_ (sp : List StepD) (nm : Str)
  | most (p q : Option (List StepD)) (d : Int)
def OSpotAt (H : Hp) (v : V) : Option (List StepD) → Prop
  | none => v = .non
  | some sp => SpotAt H v sp
theorem SpotAt.keepK {H H' : Hp} (k : KeepT H H') {v : V} {sp : List StepD} (h : SpotAt H v sp) : SpotAt H' v sp := by
  obtain ⟨a, us, e, h1, h2⟩ := h
  exact ⟨a, us, e, k _ _ h1, h2.mono fun _ _ z => z.keep k⟩
theorem OSpotAt.keep {H H' : Hp} (k : KeepT H H') {v : V} {o : Option (List StepD)} (h : OSpotAt H v o) : OSpotAt H' v o := by
  cases o with
  | none => exact h
  | some sp => exact SpotAt.keepK k h
def TestAt (H : Hp) (v : V) : TestD → Prop
  | .is_ sp nm => ∃ a sv, v = .ref a ∧ H a = some (.tup [.str "is", sv, .str nm]) ∧ SpotAt H sv sp
  | .most p q d => ∃ a pv qv, v = .ref a ∧ H a = some (.tup [.str "most", pv, qv, .int d]) ∧ OSpotAt H pv p ∧ OSpotAt H qv q
theorem TestAt.keep {H H' : Hp} (k : KeepT H H') {v : V} {t : TestD} (h : TestAt H v t) : TestAt H' v t := by
  cases t with
  | is_ sp nm =>
    obtain ⟨a, sv, e, h1, h2⟩ := h
    exact ⟨a, sv, e, k _ _ h1, h2.keepK k⟩
  | most p q d =>
    obtain ⟨a, pv, qv, e, h1, h2, h3⟩ := h
    exact ⟨a, pv, qv, e, k _ _ h1, h2.keep k, h3.keep k⟩
def numV : Option Int → V
  | some z => .int z
  | none => .non
def headIs (nm : Str) : Option PV → Bool
  | some (.mk n _) => decide (n = nm)
  | _ => false
def thOf : Option PV → TH
  | none => .non
  | some p => toTh p
theorem FirstIs.th {H : Hp} {u : V} {o : Option PV} (h : FirstIs H u o) : ThAt H u (thOf o) := by
  cases o with
  | none => cases (show u = .non from h); exact .non
  | some p => exact ValAt.th h
end Bk

set_option Elab.async false
set_option linter.all false
set_option maxRecDepth 100000
set_option maxHeartbeats 4000000
namespace HT
open PySem PySem.Spec PyProof.Rows
section
variable {prog : Program} {w : World} {A : Around} {E : Value → Shared → Prop} {s : Shared}
end
end HT
namespace L2
open PySem PySem.Spec PyProof.Rows
end L2

set_option Elab.async false
set_option linter.all false
set_option maxRecDepth 100000
set_option maxHeartbeats 4000000
namespace L2
open PySem PySem.Spec PyProof.Rows
section
variable {prog : Program} {w : World} {A : Around} {E : Value → Shared → Prop} {s : Shared}
end
structure ZP (h : Heap) (z TI TO i1 i2 t1 t2 : Addr) (k : Nat) : Prop where
  zip : ∃ f0 b, (f0 = .none ∨ ∃ T : Nat, f0 = rawInt T) ∧ ZipAt h z TI TO f0 (.bool b)
  ins : IsPair h TI (.ref i1) (.ref i2)
  out : ∃ a b, IsPair h TO a b
  it1 : h.IsTupleIter i1 t1 k
  it2 : h.IsTupleIter i2 t2 k
end L2

set_option Elab.async false
set_option linter.all false
set_option maxRecDepth 100000
set_option maxHeartbeats 4000000
namespace Bk
open PySem L2 Nm
inductive Sh where
  | any
  | num (lo hi : Option Int)
  | mk (m : Str) (ss : List Sh)
  | held (n : Str) (s : Sh)
  | either (ss : List Sh)
mutual
inductive ShAt (H : Hp) : V → Sh → Prop
  | any {a : Addr} : H a = some (.tup [.str "any"]) → ShAt H (.ref a) .any
  | num {a : Addr} {lo hi : Option Int} : H a = some (.tup [.str "num", numV lo, numV hi]) → ShAt H (.ref a) (.num lo hi)
  | mk {a b : Addr} {m : Str} {vs : List V} {ss : List Sh} : H a = some (.tup [.str "make", .str m, .ref b]) → H b = some (.tup vs) → ShsAt H vs ss → ShAt H (.ref a) (.mk m ss)
  | held {a : Addr} {n : Str} {v : V} {s : Sh} : H a = some (.tup [.str "held", .str n, v]) → ShAt H v s → ShAt H (.ref a) (.held n s)
  | either {a b : Addr} {vs : List V} {ss : List Sh} : H a = some (.tup [.str "either", .ref b]) → H b = some (.tup vs) → ShsAt H vs ss → ShAt H (.ref a) (.either ss)
inductive ShsAt (H : Hp) : List V → List Sh → Prop
  | nil : ShsAt H [] []
  | cons {v : V} {s : Sh} {vs : List V} {ss : List Sh} : ShAt H v s → ShsAt H vs ss → ShsAt H (v :: vs) (s :: ss)
end
mutual
theorem ShAt.keep {H H' : Hp} (k : KeepT H H') : ∀ {v : V} {s : Sh}, ShAt H v s → ShAt H' v s
  | _, _, .any h => .any (k _ _ h)
  | _, _, .num h => .num (k _ _ h)
  | _, _, .mk h1 h2 t => .mk (k _ _ h1) (k _ _ h2) (ShsAt.keep k t)
  | _, _, .held h t => .held (k _ _ h) (ShAt.keep k t)
  | _, _, .either h1 h2 t => .either (k _ _ h1) (k _ _ h2) (ShsAt.keep k t)
theorem ShsAt.keep {H H' : Hp} (k : KeepT H H') : ∀ {vs : List V} {ss : List Sh}, ShsAt H vs ss → ShsAt H' vs ss
  | _, _, .nil => .nil
  | _, _, .cons h t => .cons (ShAt.keep k h) (ShsAt.keep k t)
end
theorem ShsAt.length {H : Hp} : ∀ {vs : List V} {ss : List Sh}, ShsAt H vs ss → vs.length = ss.length
  | _, _, .nil => rfl
  | _, _, .cons _ t => by rw [List.length_cons, List.length_cons, ShsAt.length t]
theorem ShsAt.append {H : Hp} : ∀ {vs us : List V} {ps qs : List Sh}, ShsAt H vs ps → ShsAt H us qs → ShsAt H (vs ++ us) (ps ++ qs)
  | _, _, _, _, .nil, h => h
  | _, _, _, _, .cons a t, h => .cons a (t.append h)
theorem ShsAt.get {H : Hp} : ∀ {vs : List V} {ps : List Sh} {i : Nat} {x : V}, ShsAt H vs ps → vs[i]? = some x → ∃ p, ps[i]? = some p ∧ ShAt H x p
  | _, _, 0, _, .cons h _, e => by
    simp at e
    subst e
    exact ⟨_, rfl, h⟩
  | _, _, i + 1, x, .cons _ t, e => by
    obtain ⟨p, h1, h2⟩ := ShsAt.get (i := i) (x := x) t (by simpa using e)
    exact ⟨p, by simpa using h1, h2⟩
theorem ShsAt.set {H : Hp} : ∀ {vs : List V} {ps : List Sh} {x : V} {p : Sh} (i : Nat), ShsAt H vs ps → ShAt H x p → ShsAt H (vs.set i x) (ps.set i p)
  | _, _, _, _, _, .nil, _ => .nil
  | _, _, _, _, 0, .cons h t, r => .cons r t
  | _, _, _, _, i + 1, .cons h t, r => .cons h (ShsAt.set i t r)
abbrev LineD := List TestD × List (Str × List StepD)
def HeldAt (H : Hp) (v : V) (x : Str × List StepD) : Prop := ∃ a sv, v = .ref a ∧ H a = some (.tup [.str x.1, sv]) ∧ SpotAt H sv x.2
theorem HeldAt.keep {H H' : Hp} (k : KeepT H H') {v : V} {x : Str × List StepD} (h : HeldAt H v x) : HeldAt H' v x := by
  obtain ⟨a, sv, e, h1, h2⟩ := h
  exact ⟨a, sv, e, k _ _ h1, h2.keepK k⟩
def comesB (B : BookD) (m : Str) : Bool := match pairOf B m with
  | some x => allGot (plainG B) x.2.2
  | none => false
mutual
def cntD (B : BookD) : Sh → Nat
  | .any => 1
  | .num _ _ => 1
  | .held _ s => cntD B s
  | .either ss => cntSum B ss
  | .mk m ss => if comesB B m = true then cntProd B ss else 0
def cntSum (B : BookD) : List Sh → Nat
  | [] => 0
  | s :: r => cntD B s + cntSum B r
def cntProd (B : BookD) : List Sh → Nat
  | [] => 1
  | s :: r => cntD B s * cntProd B r
end
/-- as the book lets, so deep -/
def WfS (B : BookD) : Nat → Str → Sh → Prop
  | 0 => fun _ _ => False
  | n + 1 => fun k s => s = .any ∨ (∃ lo hi, s = .num lo hi ∧ k = "num") ∨ (∃ q ∈ B, ∃ m ∈ q.2, ∃ ss, q.1 = k ∧ s = .mk m.1 ss ∧ Pd (WfS B n) m.2 ss) ∨ (∃ nm s', s = .held nm s' ∧ PyData.strOk nm = true ∧ WfS B n k s') ∨ ∃ ss, s = .either ss ∧ ss.length ≤ 4 ∧ 1 ≤ ss.length ∧ ∀ s' ∈ ss, WfS B n k s'
theorem WfS.up {B : BookD} : ∀ {n : Nat} {k : Str} {s : Sh}, WfS B n k s → WfS B (n + 1) k s
  | 0, _, _, h => h.elim
  | n + 1, k, s, h => by
    rcases h with h | h | ⟨q, hq, m, hm, ss, e1, e2, h⟩ | ⟨nm, s', e, ho, h⟩ | ⟨ss, e, h1, h2, h⟩
    · exact .inl h
    · exact .inr (.inl h)
    · exact .inr (.inr (.inl ⟨q, hq, m, hm, ss, e1, e2, h.mono fun _ _ z => WfS.up z⟩))
    · exact .inr (.inr (.inr (.inl ⟨nm, s', e, ho, h.up⟩)))
    · exact .inr (.inr (.inr (.inr ⟨ss, e, h1, h2, fun s' hs => (h s' hs).up⟩)))
theorem WfS.mono {B : BookD} {n : Nat} {k : Str} {s : Sh} (h : WfS B n k s) : ∀ {m : Nat}, n ≤ m → WfS B m k s
  | 0, hm => by
    have : n = 0 := by omega
    rw [this] at h; exact h
  | m + 1, hm => by
    by_cases e : n = m + 1
    · rw [← e]; exact h
    · exact (WfS.mono h (m := m) (by omega)).up
end Bk

set_option Elab.async false
set_option linter.all false
set_option maxRecDepth 100000
set_option maxHeartbeats 4000000
namespace L2
open PySem PySem.Spec PyProof.Rows
def SqK (K : PySem.W.Frag) (a : Addr) (xs : List V) : Prop := ∃ (o : Obj) (its : Array Value) (n : Nat), K.lookup a = some o ∧ o.cls = .type "tuple" ∧ o.data = .seq its n ∧ its.size ≤ sizeLine ∧ Vals xs its.toList ∧ o.dict = none
inductive Cv where
  | int (z : Int)
  | str (s : Str)
  | tup (l : List Cv)
mutual
inductive CvAt (K : PySem.W.Frag) : V → Cv → Prop
  | int (z : Int) : CvAt K (.int z) (.int z)
  | str (s : Str) : CvAt K (.str s) (.str s)
  | tup {a : Addr} {vs : List V} {l : List Cv} : SqK K a vs → CvsAt K vs l → CvAt K (.ref a) (.tup l)
inductive CvsAt (K : PySem.W.Frag) : List V → List Cv → Prop
  | nil : CvsAt K [] []
  | cons {v : V} {c : Cv} {vs : List V} {cs : List Cv} : CvAt K v c → CvsAt K vs cs → CvsAt K (v :: vs) (c :: cs)
end
section
variable {X : Cx}
end
/-- a tuple that stands in the heap, or in the text's own constants -/
def TupAt (K : PySem.W.Frag) (H : Hp) (a : Addr) (xs : List V) : Prop := H a = some (.tup xs) ∨ SqK K a xs
theorem TupAt.keep {K : PySem.W.Frag} {H H' : Hp} {a : Addr} {xs : List V} (h : TupAt K H a xs) (k : Bk.KeepT H H') : TupAt K H' a xs := by
  rcases h with h | h
  · exact .inl (k _ _ h)
  · exact .inr h
theorem SqT.keep {K : PySem.W.Frag} {H H' : Hp} {a : Addr} {xs : List V} (h : SqT K H a xs) (s : Same H H') : SqT K H' a xs := by
  rcases h with h | h
  · rcases h with h | ⟨o, h⟩
    · exact .inl (.inl (s _ _ h))
    · exact .inl (.inr ⟨o, s _ _ h⟩)
  · exact .inr h
end L2

set_option Elab.async false
set_option linter.all false
set_option maxRecDepth 100000
set_option maxHeartbeats 4000000
namespace Bk
open PySem L2 Nm
def LineIs (K : PySem.W.Frag) (H : Hp) (v : V) (l : LineD) : Prop := ∃ a ta ha us ws, v = .ref a ∧ TupAt K H a [.ref ta, .ref ha] ∧ TupAt K H ta us ∧ Pd (TestAt H) us l.1 ∧ TupAt K H ha ws ∧ Pd (HeldAt H) ws l.2
theorem LineIs.keep {K : PySem.W.Frag} {H H' : Hp} (k : KeepT H H') {v : V} {l : LineD} (h : LineIs K H v l) : LineIs K H' v l := by
  obtain ⟨a, ta, ha, us, ws, e, h1, h2, h3, h4, h5⟩ := h
  exact ⟨a, ta, ha, us, ws, e, h1.keep k, h2.keep k, h3.mono fun _ _ z => z.keep k, h4.keep k, h5.mono fun _ _ z => z.keep k⟩
mutual
def ubD : Sh → Nat
  | .any => 1
  | .num _ _ => 1
  | .held _ s => ubD s
  | .either ss => ubSum ss
  | .mk _ ss => ubProd ss
def ubSum : List Sh → Nat
  | [] => 0
  | s :: r => ubD s + ubSum r
def ubProd : List Sh → Nat
  | [] => 1
  | s :: r => ubD s * ubProd r
end
theorem pd_all {α β : Type} {R : α → β → Prop} {Q : β → Prop} (f : ∀ a b, R a b → Q b) : ∀ {as : List α} {bs : List β}, Pd R as bs → ∀ b ∈ bs, Q b
  | _, _, .nil, b, hb => by cases hb
  | _, _, .cons h t, b, hb => by
    rcases List.mem_cons.mp hb with e | e
    · rw [e]; exact f _ _ h
    · exact pd_all f t b e
theorem ubProd_pos : ∀ {ss : List Sh}, (∀ s ∈ ss, 1 ≤ ubD s) → 1 ≤ ubProd ss
  | [], _ => by rw [ubProd]; exact Nat.le_refl _
  | s :: r, h => by
    rw [ubProd]
    exact Nat.mul_pos (h s List.mem_cons_self) (ubProd_pos fun x hx => h x (List.mem_cons_of_mem _ hx))
theorem ubSum_mem : ∀ {ss : List Sh} {s : Sh}, s ∈ ss → ubD s ≤ ubSum ss
  | [], _, h => by cases h
  | x :: r, s, h => by
    rw [ubSum]
    rcases List.mem_cons.mp h with e | e
    · rw [e]; omega
    · have := ubSum_mem e; omega
theorem WfS.pos {B : BookD} : ∀ {n : Nat} {k : Str} {s : Sh}, WfS B n k s → 1 ≤ ubD s
  | 0, _, _, h => h.elim
  | n + 1, k, s, h => by
    rcases h with rfl | ⟨lo, hi, rfl, _⟩ | ⟨q, _, m, _, ss, _, rfl, h⟩ | ⟨nm, s', rfl, _, h⟩ | ⟨ss, rfl, _, h1, h⟩
    · rw [ubD]; exact Nat.le_refl _
    · rw [ubD]; exact Nat.le_refl _
    · rw [ubD]
      exact ubProd_pos (pd_all (fun _ _ z => WfS.pos z) h)
    · rw [ubD]; exact h.pos
    · rw [ubD]
      cases ss with
      | nil => simp at h1
      | cons s r => exact Nat.le_trans (h s List.mem_cons_self).pos (ubSum_mem List.mem_cons_self)
end Bk

set_option Elab.async false
set_option linter.all false
set_option maxRecDepth 100000
set_option maxHeartbeats 4000000
namespace Bk
open PySem L2 Nm
abbrev HeldD := List (Str × PV)
def lowOk : Option Int → Int → Bool
  | none, _ => true
  | some a, z => decide (a ≤ z)
def highOk : Option Int → Int → Bool
  | none, _ => true
  | some b, z => decide (z ≤ b)
def spanTry (lo hi : Option Int) : PV → HeldD → Option HeldD
  | .num z, h => if (lowOk lo z && highOk hi z) = true then some h else none
  | .mk _ _, _ => none
def partsOf : PV → List PV
  | .num _ => []
  | .mk _ ps => ps
def onTry (c : Nat) (f : HeldD → List (Option HeldD)) : Option HeldD → List (Option HeldD)
  | none => List.replicate c none
  | some h => f h
mutual
def triesD (B : BookD) : Sh → PV → HeldD → List (Option HeldD)
  | .any, _, h => [some h]
  | .num lo hi, p, h => [spanTry lo hi p h]
  | .held n s, p, h => triesD B s p (h ++ [(n, p)])
  | .either ss, p, h => sideTries B ss p h
  | .mk m ss, p, h => if headIs m (some p) = true then partTries B ss (partsOf p) [some h] else List.replicate (if comesB B m = true then cntProd B ss else 0) none
def sideTries (B : BookD) : List Sh → PV → HeldD → List (Option HeldD)
  | [], _, _ => []
  | s :: r, p, h => triesD B s p h ++ sideTries B r p h
def partTries (B : BookD) : List Sh → List PV → List (Option HeldD) → List (Option HeldD)
  | [], _, acc => acc
  | s :: r, ps, acc => partTries B r ps.tail (acc.map (onTry (cntD B s) fun h => triesD B s (ps.headD (.num 0)) h)).flatten
end
end Bk

set_option Elab.async false
set_option linter.all false
set_option maxRecDepth 100000
set_option maxHeartbeats 4000000
namespace L2
open PySem PySem.Spec PyProof.Rows
end L2

set_option Elab.async false
set_option linter.all false
set_option maxRecDepth 100000
set_option maxHeartbeats 4000000
namespace HT
open PySem PySem.Spec PyProof.Rows
end HT
namespace L2
open PySem PySem.Spec PyProof.Rows
section
variable {X : Cx}
end
end L2

set_option Elab.async false
set_option linter.all false
set_option maxRecDepth 100000
set_option maxHeartbeats 4000000
namespace Bk
open PySem L2 Nm
def Wsp (sp : List StepD) : Prop := ∀ s ∈ sp, Word s.1
def TestOk : TestD → Prop
  | .is_ sp nm => Wsp sp ∧ Word nm
  | .most p q _ => (∀ sp, p = some sp → Wsp sp) ∧ ∀ sp, q = some sp → Wsp sp
def LineOk (l : LineD) : Prop := (∀ t ∈ l.1, TestOk t) ∧ ∀ x ∈ l.2, PyData.strOk x.1 = true ∧ Wsp x.2
def Lay (n : Nat) (d : PyData) : Prop := d.canLay0 = true ∧ d.depth ≤ n
theorem Lay.mono {n m : Nat} (h : n ≤ m) {d : PyData} (x : Lay n d) : Lay m d := ⟨x.1, Nat.le_trans x.2 h⟩
theorem lay_all {n : Nat} : ∀ {ds : List PyData}, (∀ d ∈ ds, Lay n d) → PyData.canLayAll0 ds = true ∧ PyData.depthAll ds ≤ n
  | [], _ => ⟨by simp [PyData.canLayAll0], by simp [PyData.depthAll]⟩
  | d :: r, h => by
    obtain ⟨h1, h2⟩ := h d List.mem_cons_self
    obtain ⟨h3, h4⟩ := lay_all (n := n) fun x hx => h x (List.mem_cons_of_mem _ hx)
    refine ⟨by simp only [PyData.canLayAll0, h1, h3, Bool.and_self], ?_⟩
    simp only [PyData.depthAll]
    omega
theorem Lay.tup {n : Nat} {ds : List PyData} (h : ∀ d ∈ ds, Lay n d) : Lay (n + 1) (.tuple ds) := by
  obtain ⟨h1, h2⟩ := lay_all h
  exact ⟨by simpa [PyData.canLay0] using h1, by simp only [PyData.depth]; omega⟩
theorem Lay.lst {n : Nat} {ds : List PyData} (h : ∀ d ∈ ds, Lay n d) : Lay (n + 1) (.list ds) := by
  obtain ⟨h1, h2⟩ := lay_all h
  exact ⟨by simpa [PyData.canLay0] using h1, by simp only [PyData.depth]; omega⟩
theorem Lay.str {n : Nat} {z : Str} (h : PyData.strOk z = true) : Lay n (.str z) := ⟨by simpa [PyData.canLay0] using h, by simp [PyData.depth]⟩
theorem Lay.int {n : Nat} (z : Int) : Lay n (.int z) := ⟨by simp [PyData.canLay0], by simp [PyData.depth]⟩
theorem Lay.non {n : Nat} : Lay n .none := ⟨by simp [PyData.canLay0], by simp [PyData.depth]⟩
theorem Lay.shaped {n : Nat} {d : PyData} (h : Lay n d) (hn : n ≤ 64) : SeqAt.shaped d = true := by
  unfold SeqAt.shaped
  rw [h.1]
  have : d.depth ≤ 64 := Nat.le_trans h.2 hn
  simpa using this
end Bk

set_option Elab.async false
set_option linter.all false
set_option maxRecDepth 100000
set_option maxHeartbeats 4000000
namespace Bk
open PySem L2 Nm
def movedT (sp : List StepD) : TestD → TestD
  | .is_ q nm => .is_ (sp ++ q) nm
  | .most p q d => .most (p.map (sp ++ ·)) (q.map (sp ++ ·)) d
def aheadL (sp : List StepD) (l : LineD) : LineD := (l.1.map (movedT sp), l.2.map fun x => (x.1, sp ++ x.2))
theorem TestOk.moved {sp : List StepD} (h : Wsp sp) {t : TestD} (ht : TestOk t) : TestOk (movedT sp t) := by
  have ap : ∀ q, Wsp q → Wsp (sp ++ q) := fun q hq s hs => by
    rcases List.mem_append.mp hs with z | z
    · exact h s z
    · exact hq s z
  cases t with
  | is_ q nm => exact ⟨ap _ ht.1, ht.2⟩
  | most p q d =>
    refine ⟨fun x e => ?_, fun x e => ?_⟩
    · cases p with
      | none => cases e
      | some y => cases e; exact ap _ (ht.1 y rfl)
    · cases q with
      | none => cases e
      | some y => cases e; exact ap _ (ht.2 y rfl)
theorem LineOk.ahead {sp : List StepD} (h : Wsp sp) {l : LineD} (hl : LineOk l) : LineOk (aheadL sp l) := by
  refine ⟨fun t ht => ?_, fun x hx => ?_⟩
  · obtain ⟨y, hy, rfl⟩ := List.mem_map.mp ht
    exact (hl.1 y hy).moved h
  · obtain ⟨y, hy, rfl⟩ := List.mem_map.mp hx
    refine ⟨(hl.2 y hy).1, fun s hs => ?_⟩
    rcases List.mem_append.mp hs with z | z
    · exact h s z
    · exact (hl.2 y hy).2 s z
def fieldsM (B : BookD) (m : Str) : List Str := match pairOf B m with
  | some x => x.2.2
  | none => []
mutual
def heldS (B : BookD) : Sh → Str → List (Str × Str)
  | .any, _ => []
  | .num _ _, _ => []
  | .held n s, k => (n, k) :: heldS B s k
  | .either ss, k => heldF B ss k
  | .mk m ss, _ => heldP B ss (fieldsM B m)
def heldF (B : BookD) : List Sh → Str → List (Str × Str)
  | [], _ => []
  | s :: _, k => heldS B s k
def heldP (B : BookD) : List Sh → List Str → List (Str × Str)
  | [], _ => []
  | s :: r, fs => heldS B s (fs.headD "num") ++ heldP B r fs.tail
end
def SPair (H : Hp) (u : V) (x : Str × Str) : Prop := ∃ a, u = .ref a ∧ H a = some (.tup [.str x.1, .str x.2])
theorem SPair.keep {H H' : Hp} (k : KeepT H H') {u : V} {x : Str × Str} (h : SPair H u x) : SPair H' u x := by
  obtain ⟨a, e, h1⟩ := h
  exact ⟨a, e, k _ _ h1⟩
end Bk

set_option Elab.async false
set_option linter.all false
set_option maxRecDepth 100000
set_option maxHeartbeats 4000000
namespace Bk
open PySem L2 Nm
mutual
def SameS (B : BookD) : Sh → Str → Prop
  | .any, _ => True
  | .num _ _, _ => True
  | .held _ s, k => SameS B s k
  | .either ss, k => SameA B ss k (heldF B ss k)
  | .mk m ss, _ => SameP B ss (fieldsM B m)
def SameA (B : BookD) : List Sh → Str → List (Str × Str) → Prop
  | [], _, _ => True
  | s :: r, k, h => SameS B s k ∧ heldS B s k = h ∧ SameA B r k h
def SameP (B : BookD) : List Sh → List Str → Prop
  | [], _ => True
  | s :: r, fs => SameS B s (fs.headD "num") ∧ SameP B r fs.tail
end
end Bk

set_option Elab.async false
set_option linter.all false
set_option maxRecDepth 100000
set_option maxHeartbeats 4000000
namespace L2
open PySem PySem.Spec PyProof.Rows
section
variable {X : Cx}
end
end L2

set_option Elab.async false
set_option linter.all false
set_option maxRecDepth 100000
set_option maxHeartbeats 4000000
namespace Bk
open PySem L2 Nm
def lookL {α : Type} (xs : List (Str × α)) (n : Str) : Option α := xs.foldl (fun acc x => if x.1 = n then some x.2 else acc) none
abbrev RhsD := Sum Int Str
def rhsV : RhsD → V
  | .inl z => .int z
  | .inr n => .str n
abbrev CmpD := Str × Str × RhsD
def CmpAt (H : Hp) (v : V) (c : CmpD) : Prop := ∃ a, v = .ref a ∧ H a = some (.tup [.str c.1, .str c.2.1, rhsV c.2.2])
theorem CmpAt.keep {H H' : Hp} (k : KeepT H H') {v : V} {c : CmpD} (h : CmpAt H v c) : CmpAt H' v c := by
  obtain ⟨a, e, h1⟩ := h
  exact ⟨a, e, k _ _ h1⟩
def GuardAt (H : Hp) (v : V) (g : List CmpD) : Prop := ∃ a us, v = .ref a ∧ H a = some (.tup us) ∧ Pd (CmpAt H) us g
theorem GuardAt.keep {H H' : Hp} (k : KeepT H H') {v : V} {g : List CmpD} (h : GuardAt H v g) : GuardAt H' v g := by
  obtain ⟨a, us, e, h1, h2⟩ := h
  exact ⟨a, us, e, k _ _ h1, h2.mono fun _ _ z => z.keep k⟩
inductive Ans where
  | num (z : Int)
  | held (n : Str)
  | mk (m : Str) (as : List Ans)
mutual
inductive AnsAt (H : Hp) : V → Ans → Prop
  | num {a : Addr} {z : Int} : H a = some (.tup [.str "num", .int z]) → AnsAt H (.ref a) (.num z)
  | held {a : Addr} {n : Str} : H a = some (.tup [.str "held", .str n]) → AnsAt H (.ref a) (.held n)
  | mk {a b : Addr} {m : Str} {vs : List V} {as : List Ans} : H a = some (.tup [.str "make", .str m, .ref b]) → H b = some (.tup vs) → AnssAt H vs as → AnsAt H (.ref a) (.mk m as)
inductive AnssAt (H : Hp) : List V → List Ans → Prop
  | nil : AnssAt H [] []
  | cons {v : V} {s : Ans} {vs : List V} {ss : List Ans} : AnsAt H v s → AnssAt H vs ss → AnssAt H (v :: vs) (s :: ss)
end
mutual
theorem AnsAt.keep {H H' : Hp} (k : KeepT H H') : ∀ {v : V} {s : Ans}, AnsAt H v s → AnsAt H' v s
  | _, _, .num h => .num (k _ _ h)
  | _, _, .held h => .held (k _ _ h)
  | _, _, .mk h1 h2 t => .mk (k _ _ h1) (k _ _ h2) (AnssAt.keep k t)
theorem AnssAt.keep {H H' : Hp} (k : KeepT H H') : ∀ {vs : List V} {ss : List Ans}, AnssAt H vs ss → AnssAt H' vs ss
  | _, _, .nil => .nil
  | _, _, .cons h t => .cons (AnsAt.keep k h) (AnssAt.keep k t)
end
theorem AnssAt.length {H : Hp} : ∀ {vs : List V} {ss : List Ans}, AnssAt H vs ss → vs.length = ss.length
  | _, _, .nil => rfl
  | _, _, .cons _ t => by rw [List.length_cons, List.length_cons, AnssAt.length t]
theorem AnssAt.get {H : Hp} : ∀ {vs : List V} {ps : List Ans} {i : Nat} {x : V}, AnssAt H vs ps → vs[i]? = some x → ∃ p, ps[i]? = some p ∧ AnsAt H x p
  | _, _, 0, _, .cons h _, e => by
    simp at e
    subst e
    exact ⟨_, rfl, h⟩
  | _, _, i + 1, x, .cons _ t, e => by
    obtain ⟨p, h1, h2⟩ := AnssAt.get (i := i) (x := x) t (by simpa using e)
    exact ⟨p, by simpa using h1, h2⟩
/-- an answer of a kind, so deep, by what is held -/
def WfA (B : BookD) (hs : List (Str × Str)) : Nat → Str → Ans → Prop
  | 0 => fun _ _ => False
  | n + 1 => fun k a => (∃ z, a = .num z ∧ k = "num") ∨ (∃ nm, a = .held nm ∧ lookL hs nm = some k) ∨ ∃ q ∈ B, ∃ m ∈ q.2, ∃ as, q.1 = k ∧ a = .mk m.1 as ∧ Pd (WfA B hs n) m.2 as
theorem WfA.up {B : BookD} {hs : List (Str × Str)} : ∀ {n : Nat} {k : Str} {a : Ans}, WfA B hs n k a → WfA B hs (n + 1) k a
  | 0, _, _, h => h.elim
  | n + 1, k, a, h => by
    rcases h with h | h | ⟨q, hq, m, hm, as, e1, e2, h⟩
    · exact .inl h
    · exact .inr (.inl h)
    · exact .inr (.inr ⟨q, hq, m, hm, as, e1, e2, h.mono fun _ _ z => WfA.up z⟩)
theorem WfA.mono {B : BookD} {hs : List (Str × Str)} {n : Nat} {k : Str} {a : Ans} (h : WfA B hs n k a) : ∀ {m : Nat}, n ≤ m → WfA B hs m k a
  | 0, hm => by
    have : n = 0 := by omega
    rw [this] at h; exact h
  | m + 1, hm => by
    by_cases e : n = m + 1
    · rw [← e]; exact h
    · exact (WfA.mono h (m := m) (by omega)).up
abbrev RowD := Sh × List CmpD × Ans
def RowAt (H : Hp) (v : V) (r : RowD) : Prop := ∃ a sv gv av, v = .ref a ∧ H a = some (.tup [sv, gv, av]) ∧ ShAt H sv r.1 ∧ GuardAt H gv r.2.1 ∧ AnsAt H av r.2.2
theorem RowAt.keep {H H' : Hp} (k : KeepT H H') {v : V} {r : RowD} (h : RowAt H v r) : RowAt H' v r := by
  obtain ⟨a, sv, gv, av, e, h1, h2, h3, h4⟩ := h
  exact ⟨a, sv, gv, av, e, k _ _ h1, h2.keep k, h3.keep k, h4.keep k⟩
abbrev CasesD := Str × Str × List RowD
def CasesAt (H : Hp) (v : V) (c : CasesD) : Prop := ∃ a b us, v = .ref a ∧ H a = some (.tup [.str c.1, .str c.2.1, .ref b]) ∧ H b = some (.tup us) ∧ Pd (RowAt H) us c.2.2
theorem CasesAt.keep {H H' : Hp} (k : KeepT H H') {v : V} {c : CasesD} (h : CasesAt H v c) : CasesAt H' v c := by
  obtain ⟨a, b, us, e, h1, h2, h3⟩ := h
  exact ⟨a, b, us, e, k _ _ h1, k _ _ h2, h3.mono fun _ _ z => z.keep k⟩
def signs5 : List Str := ["<", "<=", "=", ">=", ">"]
structure RowOk (B : BookD) (k1 k2 : Str) (r : RowD) : Prop where
  sh : WfS B 6 k1 r.1
  same : SameS B r.1 k1
  ub : ubD r.1 ≤ 24
  gl : r.2.1.length ≤ 4
  sg : ∀ c ∈ r.2.1, c.2.1 ∈ signs5
  g : ∀ c ∈ r.2.1, lookL (heldS B r.1 k1) c.1 = some "num" ∧ ∀ n, c.2.2 = .inr n → lookL (heldS B r.1 k1) n = some "num"
  a : WfA B (heldS B r.1 k1) 10 k2 r.2.2
end Bk

set_option Elab.async false
set_option linter.all false
set_option maxRecDepth 100000
set_option maxHeartbeats 4000000
namespace Bk
open PySem L2 Nm
def ToldIs (H : Hp) (u : V) : Option (Nat × PV) → Prop
  | none => u = .non
  | some x => ∃ a y, u = .ref a ∧ H a = some (.tup [.int (x.1 : Nat), y]) ∧ ValAt H y x.2
theorem ToldIs.keep {H H' : Hp} (k : KeepT H H') {u : V} {o : Option (Nat × PV)} (h : ToldIs H u o) : ToldIs H' u o := by
  cases o with
  | none => exact h
  | some x =>
    obtain ⟨a, y, e, h1, h2⟩ := h
    exact ⟨a, y, e, k _ _ h1, h2.keep k⟩
end Bk

set_option Elab.async false
set_option linter.all false
set_option maxRecDepth 100000
set_option maxHeartbeats 4000000
namespace Bk
open PySem L2 Nm
end Bk

set_option Elab.async false
set_option linter.all false
set_option maxRecDepth 100000
set_option maxHeartbeats 4000000
namespace Bk
open PySem L2 Nm
def boolsData (bs : List Bool) : PyData := .list (bs.map PyData.bool)
def BoolsAt (H : Hp) (v : V) (bs : List Bool) : Prop := ∃ a, v = .ref a ∧ H a = some (.lst (bs.map V.bl))
theorem bools_inj : ∀ l r : List Bool, l.map V.bl = r.map V.bl → l = r
  | [], [], _ => rfl
  | [], _ :: _, h => by cases h
  | _ :: _, [], h => by cases h
  | x :: l, y :: r, h => by
    rw [List.map_cons, List.map_cons] at h
    injection h with h1 h2
    injection h1 with h1
    rw [h1, bools_inj l r h2]
theorem BoolsAt.inj {H : Hp} {v : V} {a b : List Bool} (h : BoolsAt H v a) (h' : BoolsAt H v b) : a = b := by
  obtain ⟨p, rfl, h1⟩ := h
  obtain ⟨p', e, h3⟩ := h'
  injection e with e
  subst e
  rw [h1] at h3
  exact bools_inj _ _ (HO.lst.inj (Option.some.inj h3))
theorem eqvAll_bools : ∀ l r : List Bool, PyData.eqvAll (l.map PyData.bool) (r.map PyData.bool) = decide (l = r)
  | [], [] => by simp [PyData.eqvAll]
  | [], _ :: _ => by simp [PyData.eqvAll]
  | _ :: _, [] => by simp [PyData.eqvAll]
  | a :: l, b :: r => by
    rw [List.map_cons, List.map_cons, PyData.eqvAll, eqvAll_bools l r]
    have : PyData.eqv (.bool a) (.bool b) = decide (a = b) := by cases a <;> cases b <;> simp [PyData.eqv]
    rw [this]
    by_cases h : a = b
    · subst h; by_cases h2 : l = r <;> simp [h2]
    · simp [h]
theorem eqv_bools (a b : List Bool) : PyData.eqv (boolsData a) (boolsData b) = decide (a = b) := by
  unfold boolsData
  rw [PyData.eqv, eqvAll_bools]
theorem bools_shaped (bs : List Bool) : SeqAt.shaped (boolsData bs) = true := by
  refine Lay.shaped (n := 1) (.lst (n := 0) fun d hd => ?_) (by decide)
  obtain ⟨b, _, rfl⟩ := List.mem_map.mp hd
  exact ⟨by simp [PyData.canLay0], by simp [PyData.depth]⟩
theorem dp_boolsA {K : PySem.W.Frag} {H : Hp} : ∀ bs : List Bool, DpAll K H (bs.map V.bl) (bs.map PyData.bool)
  | [] => .nil
  | b :: r => .cons (.bl b) (dp_boolsA r)
theorem dp_bools {K : PySem.W.Frag} {H : Hp} {v : V} {bs : List Bool} (h : BoolsAt H v bs) : Dp K H v (boolsData bs) := by
  obtain ⟨a, rfl, h⟩ := h
  exact .lst (SqL.of h) (dp_boolsA bs)
end Bk

set_option Elab.async false
set_option linter.all false
set_option maxRecDepth 100000
set_option maxHeartbeats 4000000
namespace Bk
open PySem L2 Nm
def Two (zs : List Str) : Prop := ∃ c, ∀ z ∈ zs, z.length = c ∨ z.length = c + 1
theorem Two.sub {zs ys : List Str} (h : Two zs) (k : ∀ y ∈ ys, y ∈ zs) : Two ys := by
  obtain ⟨c, h⟩ := h
  exact ⟨c, fun y hy => h y (k y hy)⟩
end Bk

set_option Elab.async false
set_option linter.all false
set_option maxRecDepth 100000
set_option maxHeartbeats 4000000
namespace Bk
open PySem L2 Nm
end Bk

set_option Elab.async false
set_option linter.all false
set_option maxRecDepth 100000
set_option maxHeartbeats 4000000
namespace Bk
open PySem L2 Nm
def NamesIn {α : Type} (S : List Str) (h : List (Str × α)) : Prop := ∀ x ∈ h, x.1 ∈ S
def GuardIn (S : List Str) (g : List CmpD) : Prop := ∀ c ∈ g, c.1 ∈ S ∧ ∀ n, c.2.2 = .inr n → n ∈ S
mutual
def AnsIn (S : List Str) : Ans → Prop
  | .num _ => True
  | .held n => n ∈ S
  | .mk _ as => AnssIn S as
def AnssIn (S : List Str) : List Ans → Prop
  | [] => True
  | a :: r => AnsIn S a ∧ AnssIn S r
end
structure RowIn (B : BookD) (p : PV) (S : List Str) (r : RowD) : Prop where
  g : GuardIn S r.2.1
  a : AnsIn S r.2.2
  t : ∀ h, some h ∈ triesD B r.1 p [] → NamesIn S h
end Bk

set_option Elab.async false
set_option linter.all false
set_option maxRecDepth 100000
set_option maxHeartbeats 4000000
namespace Bk
open PySem L2 Nm
end Bk

set_option Elab.async false
set_option linter.all false
set_option maxRecDepth 100000
set_option maxHeartbeats 4000000
namespace Bk
open PySem L2 Nm
end Bk

set_option Elab.async false
set_option linter.all false
set_option maxRecDepth 100000
set_option maxHeartbeats 4000000
namespace Bk
open PySem L2 Nm
end Bk

set_option Elab.async false
set_option linter.all false
set_option maxRecDepth 100000
set_option maxHeartbeats 4000000
namespace Bk
open PySem L2 Nm
end Bk

set_option Elab.async false
set_option linter.all false
set_option maxRecDepth 100000
set_option maxHeartbeats 4000000
namespace L2
open PySem PySem.Spec PyProof.Rows
end L2

set_option Elab.async false
set_option linter.all false
set_option maxRecDepth 100000
set_option maxHeartbeats 4000000
namespace Bk
open PySem L2 Nm
end Bk

set_option Elab.async false
set_option linter.all false
set_option maxRecDepth 100000
set_option maxHeartbeats 1000000
namespace L2
open PySem PySem.Spec PyProof.Rows
/-- what may be a key of depth below the number -/
inductive KeyD : Nat → PyData → Prop
  | non {n : Nat} : KeyD n .none
  | int {n : Nat} (i : Int) : KeyD n (.int i)
  | str {n : Nat} (x : Str) : KeyD n (.str x)
  | tup {n : Nat} {ds : List PyData} : (∀ d ∈ ds, KeyD n d) → KeyD (n + 1) (.tuple ds)
section
variable {prog : Program} {w : World}
end
end L2

set_option Elab.async false
set_option linter.all false
set_option maxRecDepth 100000
set_option maxHeartbeats 1000000
namespace L2
open PySem PySem.Spec PyProof.Rows
section
variable {prog : Program} {w : World}
end
end L2

set_option Elab.async false
set_option linter.all false
set_option maxRecDepth 100000
set_option maxHeartbeats 1000000
namespace L2
open PySem PySem.Spec PyProof.Rows
/-- a key and its data; what stands there -/
abbrev MKey := V × PyData
/-- a key that may stand in such a dict -/
structure MixKey (K : PySem.W.Frag) (H : Hp) (x : MKey) : Prop where
  dp : Dp K H x.1 x.2
  key : KeyD 8 x.2
  sh : SeqAt.shaped x.2 = true
  kd : x.2 = .none ∨ ∃ ds, x.2 = .tuple ds
  self : PyData.eqv x.2 x.2 = true
section
variable {X : Cx} {pins : List (Addr × Obj)} {σ : St} {H : Hp} {s : Shared} {a : Addr} {kvs : List (MKey × V)} {A : Around} {E : Value → Shared → Prop} {y : MKey} {u : Value}
end
end L2

set_option Elab.async false
set_option linter.all false
set_option maxRecDepth 100000
set_option maxHeartbeats 1000000
namespace L2
open PySem PySem.Spec PyProof.Rows
section
variable {X : Cx} {pins : List (Addr × Obj)} {σ : St} {H : Hp} {s : Shared} {a : Addr} {kvs : List (MKey × V)} {A : Around} {E : Value → Shared → Prop} {y : MKey} {u r : Value} {v : V}
end
section
variable {prog : Program} {w : World}
end
end L2

set_option Elab.async false
set_option linter.all false
set_option maxRecDepth 100000
set_option maxHeartbeats 1000000
namespace L2
open PySem PySem.Spec PyProof.Rows
section
variable {X : Cx}
end
end L2

set_option Elab.async false
set_option linter.all false
set_option maxRecDepth 100000
set_option maxHeartbeats 1000000
namespace L2
open PySem PySem.Spec PyProof.Rows
def dd (acc : List Str) (x : Str) : List Str := if x ∈ acc then acc else acc ++ [x]
section
variable {prog : Program} {w : World}
end
section
variable {X : Cx}
end
end L2

set_option Elab.async false
set_option linter.all false
set_option maxRecDepth 100000
set_option maxHeartbeats 1000000
namespace L2
open PySem PySem.Spec PyProof.Rows
section
variable {X : Cx}
end
end L2

set_option Elab.async false
set_option linter.all false
set_option maxRecDepth 100000
set_option maxHeartbeats 1000000
namespace L2
open PySem PySem.Spec PyProof.Rows
section
variable {prog : Program} {w : World}
end
end L2

set_option Elab.async false
set_option linter.all false
set_option maxRecDepth 100000
set_option maxHeartbeats 1000000
namespace L2
open PySem PySem.Spec PyProof.Rows
section
variable {X : Cx}
end
end L2

set_option Elab.async false
set_option linter.all false
set_option maxRecDepth 100000
set_option maxHeartbeats 4000000
namespace L2
open PySem PySem.Spec PySem.Calls PyProof.Rows
section
variable {prog : Program} {w : World} {A : Around} {S I l : Addr} {kw : List (Str × Value)} {vs : List Value} {ns : List Int}
end
section
variable {X : Cx}
end
end L2

set_option Elab.async false
set_option linter.all false
set_option maxRecDepth 100000
set_option maxHeartbeats 4000000
namespace L2
open PySem PySem.Spec PySem.Calls PyProof.Rows PyProof.Rows.G
section
variable {prog : Program} {w : World} {A : Around} {E : Value → Shared → Prop} {s : Shared}
end
end L2

set_option Elab.async false
set_option linter.all false
set_option maxRecDepth 100000
set_option maxHeartbeats 4000000
namespace L2
open PySem PySem.Spec PySem.Calls PyProof.Rows PyProof.Rows.G
abbrev NK := Str × Str
def pKey (x : NK) : List (Int ⊕ List Nat) := [.inr x.1.cps.toList, .inr x.2.cps.toList]
def PkAt (H : Hp) (v : V) (x : NK) : Prop := ∃ a, v = .ref a ∧ H a = some (.tup [.str x.1, .str x.2])
theorem PkAt.keep {H H' : Hp} {v : V} {x : NK} (k : Bk.KeepT H H') (h : PkAt H v x) : PkAt H' v x := by
  obtain ⟨a, e, h⟩ := h
  exact ⟨a, e, k _ _ h⟩
section
variable {X : Cx}
abbrev sh2 : Nat → Bool := fun _ => true
structure TriOk (H : Hp) (h : Heap) (z : Value × V × NK) : Prop where
  rel : RelV z.2.1 z.1
  pk : PkAt H z.2.1 z.2.2
  key : tupKeyC h sh2 z.1 = some (pKey z.2.2)
  fst : ∃ f, TupOf h sh2 z.1 f
end
end L2

set_option Elab.async false
set_option linter.all false
set_option maxRecDepth 100000
set_option maxHeartbeats 1000000
namespace L2
open PySem PySem.Spec PyProof.Rows
end L2

set_option Elab.async false
set_option linter.all false
set_option maxRecDepth 100000
set_option maxHeartbeats 1000000
namespace L2
open PySem PySem.Spec PyProof.Rows
section
variable {X : Cx}
end
end L2

set_option Elab.async false
set_option linter.all false
set_option maxRecDepth 100000
set_option maxHeartbeats 1000000
namespace L2
open PySem PySem.Spec PyProof.Rows
section
variable {X : Cx}
end
end L2

set_option Elab.async false
set_option linter.all false
set_option maxRecDepth 100000
set_option maxHeartbeats 1000000
namespace L2
open PySem PySem.Spec PyProof.Rows PySem.SeqAt
section
variable {X : Cx} {o e : Expr} {es : List Expr} {to : TE} {t : TA} {name : Str} {apos cpos : Pos} {id : String} {r : V → List V → Hp → VK → Prop}
end
end L2

set_option Elab.async false
set_option linter.all false
set_option maxRecDepth 100000
set_option maxHeartbeats 1000000
namespace L2
open PySem PySem.Spec PySem.Calls PyProof.Rows PySem.W
section
variable {prog : Program} {w : World} {A : Around} {E : Value → Shared → Prop} {s : Shared} {K : Frag} {x D : Addr} {ox : Obj} {odo : Option Obj}
theorem exc_class_attr {Q : Option Value → Shared → Prop} (X : K.In s.heap) (I : InstAt s.heap x ox D odo) (hga : findIn K (.ref D) "__getattribute__" = some (some (.builtin "BaseException.__getattribute__")))
    (hk : findIn K (.ref D) "__getattr__" = some none) (hf : findObj K D odo "__class__" = some (.bind (.builtin "getset_descriptor.__get__") (.builtin "object.__class__")))
    (hm : mroIn K D (.type "object") = some true) (hmB : mroIn K D (.type "BaseException") = some true) (h : Q (some (.ref D)) { s with toks := s.toks + 1 }) :
    wpAny (model prog w) A (getAttr? (.ref x) "__class__") Q E s := by
  obtain ⟨hh, g, d, t, os⟩ := s
  have L0 := I.type (M := model prog w)
  have L1 := looks_findIn (M := model prog w) X hga
  have L2 := looks_findIn (M := model prog w) X hk
  have L3 := looks_find (M := model prog w) X I hf
  unfold getAttr? getAttrBy? getAttrBy
  refine wpAny_bind (wpAny_mkText (wpAny_bind (wpAny_attempt (wpAny_holding (wpAny_bind (L0.at (wpAny_bind (L1.at ?_))))))))
  have e0 : (onTheHeap (Value.ref D) && (Value.builtin "BaseException.__getattribute__" == Value.builtin "object.__getattribute__")) = false := by
    have : (Value.builtin "BaseException.__getattribute__" == Value.builtin "object.__getattribute__") = false := by decide +kernel
    rw [this]; exact Bool.and_false _
  dsimp only
  rw [e0]
  unfold getAttrByItsOwn hookBefore
  rw [if_neg (by simp), if_pos (show onTheHeap (Value.ref D) = true from rfl)]
  refine wpAny_bind (L2.at ?_)
  have L4 := looks_mroIn (M := model prog w) X hmB
  have FB := PySem.F.attr_ValueError
  have f3 := FB.ga.bind (.ref x)
  refine wpAny_bind (wpAny_attempt ?_)
  show wpAny _ _ (holding [] (callGetattribute _ _ _ _)) _ _ _
  refine wpAny_holding ?_
  unfold callGetattribute
  rw [if_neg (by simp)]
  unfold boundAndCalled
  rw [f3]
  refine wpAny_bind (wpAny_pure ?_)
  dsimp only
  refine wpAny_call (codeAny_call_builtin FB.ga.plain F.entry_bexc_ga ?_)
  have hk' : builtinKind "BaseException.__getattribute__" = some .slot := by decide +kernel
  have hsplit : splitId "BaseException.__getattribute__" = some ("BaseException", "__getattribute__") := by decide +kernel
  show wpAny _ _ (checkBuiltinCall "BaseException.__getattribute__" ⟨[Value.ref x, Value.str (Str.ofString "__class__") t], []⟩) _ _ _
  have ha := F.args_bexc_ga (.ref x) (Value.str (Str.ofString "__class__") t)
  simp only [checkBuiltinCall, hk', hsplit]
  refine wpAny_bind ?_
  unfold isInstance
  refine wpAny_bind (L0.at (L4.at ?_))
  repeat (any_goals (first | assumption | wp_step))
  refine wpAny_loadPart_at I.at_ ?_
  rw [I.cls]
  refine wpAny_pure ?_
  refine wpAny_bind (L3.at ?_)
  dsimp only
  unfold Builtin.ObjectAttr.bindTo
  dsimp only
  refine wpAny_bind (wpAny_holding ?_)
  refine wpAny_call (class_get (s := { heap := hh, gens := g, drawn := d, toks := t + 1, os := os }) X I hm ?_)
  exact wpAny_pure (handed_on rfl (wpAny_pure h))
end
theorem findObj_dataO {K : Frag} {D : Addr} {odo : Option Obj} {n : Str} {g a : Value} (hc : hasDictIn K D = true) (ha : findIn K (.ref D) n = some (some a)) (hn : specialIn K a "__get__" = some (some g)) (htk : takesIn K a = some true) :
    findObj K D odo n = some (.bind g a) := by
  obtain ⟨cd, hcd, _⟩ := any_some hc
  unfold findObj
  rw [hcd, ha]
  simp only [Option.bind_some]
  rw [hn]
  simp only [Option.bind_some]
  rw [htk]
  rfl
/-- what is asked of the class of an own error -/
structure ExcK (K : Frag) (D : Addr) : Prop where
  ga : findIn K (.ref D) "__getattribute__" = some (some (.builtin "BaseException.__getattribute__"))
  gt : findIn K (.ref D) "__getattr__" = some none
  cl : findIn K (.ref D) "__class__" = some (some (.builtin "object.__class__"))
  gs : specialIn K (.builtin "object.__class__") "__get__" = some (some (.builtin "getset_descriptor.__get__"))
  tk : takesIn K (.builtin "object.__class__") = some true
  mo : mroIn K D (.type "object") = some true
  mb : mroIn K D (.type "BaseException") = some true
  hd : hasDictIn K D = true
def excKb (K : Frag) (D : Addr) : Bool := findIn K (.ref D) "__getattribute__" == some (some (.builtin "BaseException.__getattribute__")) && findIn K (.ref D) "__getattr__" == some none && findIn K (.ref D) "__class__" == some (some (.builtin "object.__class__"))
  && specialIn K (.builtin "object.__class__") "__get__" == some (some (.builtin "getset_descriptor.__get__")) && takesIn K (.builtin "object.__class__") == some true && mroIn K D (.type "object") == some true && mroIn K D (.type "BaseException") == some true && hasDictIn K D
theorem excK_of {K : Frag} {D : Addr} (h : excKb K D = true) : ExcK K D := by
  simp only [excKb, Bool.and_eq_true, beq_iff_eq] at h
  obtain ⟨⟨⟨⟨⟨⟨⟨h1, h2⟩, h3⟩, h4⟩, h5⟩, h6⟩, h7⟩, h8⟩ := h
  exact ⟨h1, h2, h3, h4, h5, h6, h7, h8⟩
theorem kitx_exc {K : Frag} {x D : Addr} (e : ExcK K D) : KitX K (.ref x) (.ref D) (fun h => ∃ ox odo, InstAt h x ox D odo) where
  ty := fun _ _ _ ⟨_, _, I⟩ => I.type
  it := fun _ _ X _ => by
    obtain ⟨cdD, hcD, _⟩ := any_some e.hd
    unfold clsIn at hcD
    split at hcD
    · rename_i c' d' cd' sl' ho
      intro A' Q' E' s' k q
      unfold isType loadHead
      exact wpAny_bind (wpAny_loadPart (k _ _ (X _ _ ho)) (wpAny_pure q))
    · cases hcD
  ne := fun h tp dd its n sl X htp => by
    obtain ⟨cdD, hcD, _⟩ := any_some e.hd
    refine Bool.eq_false_iff.mpr fun q => ?_
    have e : D = tp := Value.ref.inj (beq_iff_eq.mp q)
    subst e
    unfold clsIn at hcD
    split at hcD
    · rename_i c' d' cd' sl' ho
      have z := (X _ _ ho).symm.trans htp
      cases z
    · cases hcD
  ca := fun X ⟨_, _, I⟩ k => exc_class_attr X I e.ga e.gt (findObj_dataO e.hd e.cl e.gs e.tk) e.mo e.mb k
end L2

set_option Elab.async false
set_option linter.all false
set_option maxRecDepth 100000
set_option maxHeartbeats 1000000
namespace L2
open PySem PySem.Spec PySem.Calls PyProof.Rows PySem.W
theorem ObjOk.there {P : Program} {w : World} {H : Hp} {h : Heap} {a : Addr} {o : HO} (x : ObjOk P w H h a o) : ∃ u, h.get? a = some u := by
  cases o with
  | lst xs => obtain ⟨_, _, _, _, e⟩ := x; exact ⟨_, e⟩
  | tup xs => obtain ⟨_, _, _, p⟩ := x; obtain ⟨o, e, _⟩ := p; exact ⟨_, e⟩
  | dK kvs => obtain ⟨_, _, _, _, o, _, _, e, _⟩ := x; exact ⟨_, e⟩
  | dT kvs => obtain ⟨_, _, _, _, o, _, _, e, _⟩ := x; exact ⟨_, e⟩
  | set S n => obtain ⟨o, _, _, _, e, _⟩ := x; exact ⟨_, e⟩
  | ins C dx fs => obtain ⟨_, _, _, e, _⟩ := x; exact ⟨_, e⟩
  | own y => obtain ⟨_, e⟩ := x; exact ⟨_, e⟩
  | xd fs => obtain ⟨_, ⟨_, _, _, e, _⟩, _⟩ := x; exact ⟨_, e⟩
  | rng lo hi => obtain ⟨_, _, _, e⟩ := x; exact ⟨_, e⟩
  | frz ob u => obtain ⟨e, _⟩ := x; exact ⟨_, e⟩
  | tbl ps => exact ⟨_, (show h.get? a = some _ from x)⟩
  | met f y => exact ⟨_, (show h.get? a = some _ from x)⟩
  | ext φ => obtain ⟨_, ⟨_, e⟩, _⟩ := x; exact ⟨_, e⟩
theorem HOk.freshN {P : Program} {w : World} {H : Hp} {h : Heap} {a : Addr} (x : HOk P w H h) (e : h.get? a = none) : H a = none := by
  cases q : H a with
  | none => rfl
  | some u =>
    obtain ⟨v, hv⟩ := (x a u q).there
    rw [e] at hv; cases hv
theorem HOk.laidN {P : Program} {w : World} {H : Hp} {h h' : Heap} {a : Addr} {o : HO} (x : HOk P w H h) (k : ∀ b u, h.get? b = some u → h'.get? b = some u) (hp : h.get? a = none) (new : ObjOk P w (upd H a o) h' a o) : HOk P w (upd H a o) h' := fun b u e => by
  have hn := x.freshN hp
  by_cases hb : b = a
  · subst hb; rw [upd_same] at e; cases e; exact new
  · rw [upd_ne hb] at e
    exact (x b u e).stay (fun c v _ q => k c v q) (fun c q => by rw [upd_ne (ne_of_none q hn)]; exact q) fun c xs q => by rw [upd_ne (ne_of_none q hn)]; exact q
theorem Un.laidN {fs ex : List Addr} {H : Hp} {h h' : Heap} {a : Addr} {o : HO} (k : ∀ b u, h.get? b = some u → h'.get? b = some u) (hp : h.get? a = none) (hn : H a = none) : Un fs ex H (upd H a o) h h' where
  keep := fun b u q _ _ _ => k b u q
  slot := fun b u q _ _ _ => ⟨u.slots, k b u q⟩
  free := fun b u q n _ => by rw [upd_ne (fun z => by rw [z, hp] at q; cases q)]; exact n
  there := fun b u q _ => ⟨u, k b u q⟩
  tups := fun b xs q => by rw [upd_ne (ne_of_none q hn)]; exact q
  frzs := fun b u xs q => by rw [upd_ne (ne_of_none q hn)]; exact q
  tbls := fun b ps q => ⟨#[], by rw [upd_ne (ne_of_none q hn), q]; simp⟩
theorem Inv.laidN {X : Cx} {pins : List (Addr × Obj)} {σ : List (Option V)} {H : Hp} {s : Shared} {h' : Heap} {a : Addr} {o : HO} {t' : Nat} (I : Inv X pins σ H s) (k : ∀ b u, s.heap.get? b = some u → h'.get? b = some u) (hp : s.heap.get? a = none)
    (new : ObjOk X.prog X.w (upd H a o) h' a o) : Inv X pins σ (upd H a o) { s with heap := h', toks := t' } := I.un (Un.laidN k hp (I.hok.freshN hp)) (I.hok.laidN k hp new)
/-- an own error without a dict, of the class at C -/
def ErrO (C a : Addr) : HO := .ext fun h => ∃ ox, h.get? a = some ox ∧ ox.cls = .ref C ∧ notCls ox = true ∧ ox.dict = none
theorem err_ok {P : Program} {w : World} {H : Hp} {h : Heap} {C a : Addr} {ox : Obj} (h1 : h.get? a = some ox) (h2 : ox.cls = .ref C) (h3 : notCls ox = true) (h4 : ox.dict = none) : ObjOk P w H h a (ErrO C a) :=
  ⟨⟨ox, h1, h2, h3, h4⟩, ⟨ox, h1⟩, fun _ _ ⟨ox, a1, a2⟩ k => ⟨ox, k _ a1, a2⟩⟩
theorem err_inst {P : Program} {w : World} {H : Hp} {h : Heap} {C a : Addr} (x : HOk P w H h) (e : H a = some (ErrO C a)) : ∃ ox, InstAt h a ox C none := by
  obtain ⟨⟨ox, h1, h2, h3, h4⟩, _⟩ := x a _ e
  exact ⟨ox, h1, h2, h3, by rw [h4]; trivial⟩
def bmV : List Value := [.type "ValueError", .type "Exception", .type "BaseException", .type "object"]
theorem exc_obj {K : Frag} {h : Heap} {C : Addr} {bmB : List Value} {newId : String} (X : K.In h) (q : excIn K C bmB newId = true) : ∃ bm N nm q bs hdct sn sub ab col dd k0 k1 k2 k3 k5 mN, h.get? C = some (excClassObj nm q C N bs bm hdct sn sub ab col dd k0 k1 k2 k3 k5 newId) ∧ h.Ns N mN ∧ mN "__init__" = none ∧ OwnTail h bmB bm := by
  unfold excIn at q
  split at q
  · rename_i dd cd sl ho
    split at q
    · rename_i C' bm k0 k1 k2 k3 n k5 hm hs
      simp only [Bool.and_eq_true, beq_iff_eq, Bool.not_eq_true'] at q
      obtain ⟨⟨⟨⟨⟨rfl, rfl⟩, hdel⟩, ht⟩, hok⟩, hni⟩ := q
      obtain ⟨nm, bs, mro, ns, qn, hd, sn, sub, ab, col, del⟩ := cd
      dsimp only at hm hdel hok hni
      subst hm hdel
      have hsl : sl = #[k0, k1, k2, k3, some (.builtin n), k5] := by
        obtain ⟨l⟩ := sl
        simp only at hs
        rw [hs]
      subst hsl
      exact ⟨bm, ns, nm, qn, bs, hd, sn, sub, ab, col, dd, k0, k1, k2, k3, k5, _, X _ _ ho, .of_isNs (isNs_of_in X hok), nsMap_none_of_in X hok hni, tail_of_in X ht⟩
    · cases q
  · cases q
section
variable {X : Cx} {C : Addr} {x : Str} {p pos : Pos} {e : Expr} {es : List Expr} {t : TA}
def tExc (C : Addr) (t : TA) : TE := fun σ H Q => t σ H fun vs H1 => vs.length ≤ sizeLine ∧ ∀ a, H1 a = none → Q (.ref a) (upd H1 a (ErrO C a))
theorem run_exc {pins : List (Addr × Obj)} {σ : St} {H : Hp} {s : Shared} {Q : VK} {us : List Value} {vs : List V} (ex : excIn X.K C bmV "ValueError.__new__" = true) (I : Inv X pins σ H s) (r : Vals vs us) (hl : vs.length ≤ sizeLine)
    (h : ∀ a, H a = none → Q (.ref a) (upd H a (ErrO C a))) : wpAny (model X.prog X.w) X.A (call (.ref C) us) (EP X pins σ Q) X.xe s := by
  obtain ⟨bm, N, nm, q, bs, hdct, sn, sub, ab, col, dd, k0, k1, k2, k3, k5, mN, hC, hN, hni, T⟩ := exc_obj I.kIn ex
  refine wpAny_call_exc_subT PySem.F.excBase_ValueError T hC hN hni (fun h' a m => ?_) (by rw [← r.length]; exact hl)
  obtain ⟨t0, ho, _, _⟩ := m.there
  exact ⟨.ref a, upd H a (ErrO C a), I.laidN (t' := s.toks) m.keeps m.new (err_ok ho rfl rfl rfl), rfl, h a (I.hok.freshN m.new)⟩
theorem pe_exc (hkp : keepIn X.K (.ref C) = true) (ex : excIn X.K C bmV "ValueError.__new__" = true) (hg : Gl X x) (hm : X.mg x = some (.ref C)) (ha : PA X (e :: es) t) (hdb : (x == ("__debug__" : Str)) = false := by decide)
    (he : starEach (e :: es) X.env = (false, eval e X.env) :: starEach es X.env := by rfl) (hpl : (backTo pos (starEach es X.env)).any (·.1) = false := by rfl) : PE X (.Call (.Name x p) (e :: es) [] pos) (tExc C t) := by
  intro pins s σ H Q I h
  refine wpAny_Call_Name_kw (ld_glob I hg hm ?_ hdb)
  refine PySem.W.callWith_K (h₀ := X.base) I.ok.mod.kin hkp (thn (ha pos pins s σ H _ I h) fun us s1 ⟨vs, H1, I1, r, q⟩ => ⟨I1.kIn, ?_⟩) he hpl
  exact run_exc ex I1 r q.1 q.2
end
end L2

set_option Elab.async false
set_option linter.all false
set_option maxRecDepth 100000
set_option maxHeartbeats 1000000
namespace L2
open PySem PySem.Spec PySem.Calls PyProof.Rows PySem.W
def excInI (K : Frag) (C : Addr) (bmB : List Value) (newId : String) : Bool := match K.lookup C with
  | some ⟨.type "type", _, .cls cd, sl⟩ => (match cd.mro, sl.toList with
    | .ref C' :: bm, [_, _, _, _, some (.builtin n), _] => C' == C && n == newId && !cd.hasDel && tailIn K bmB bm
    | _, _ => false)
  | _ => false
theorem exc_objI {K : Frag} {h : Heap} {C : Addr} {bmB : List Value} {newId : String} (X : K.In h) (q : excInI K C bmB newId = true) : ∃ bm N nm q bs hdct sn sub ab col dd k0 k1 k2 k3 k5, h.get? C = some (excClassObj nm q C N bs bm hdct sn sub ab col dd k0 k1 k2 k3 k5 newId) ∧ OwnTail h bmB bm := by
  unfold excInI at q
  split at q
  · rename_i dd cd sl ho
    split at q
    · rename_i C' bm k0 k1 k2 k3 n k5 hm hs
      simp only [Bool.and_eq_true, beq_iff_eq, Bool.not_eq_true'] at q
      obtain ⟨⟨⟨rfl, rfl⟩, hdel⟩, ht⟩ := q
      obtain ⟨nm, bs, mro, ns, qn, hd, sn, sub, ab, col, del⟩ := cd
      dsimp only at hm hdel
      subst hm hdel
      have hsl : sl = #[k0, k1, k2, k3, some (.builtin n), k5] := by
        obtain ⟨l⟩ := sl
        simp only at hs
        rw [hs]
      subst hsl
      exact ⟨bm, ns, nm, qn, bs, hd, sn, sub, ab, col, dd, k0, k1, k2, k3, k5, X _ _ ho, tail_of_in X ht⟩
    · cases q
  · cases q
section
variable {prog : Program} {w : World} {A : Around} {K : Frag} {C f : Addr} {s : Shared} {R : Result → Shared → Prop}
theorem exc_make {rest : List Value} (X : K.In s.heap) (ex : excInI K C bmV "ValueError.__new__" = true) (hi : findIn K (.ref C) "__init__" = some (some (.ref f))) (hf : typeIn K (.ref f) = some (.type "function")) (hrest : rest.length ≤ sizeLine)
    (hq : codeAny (model prog w) (A.under (.builtin "type.__call__" ⟨.ref C :: rest, []⟩)) (.call (.ref f) ⟨.ref (s.heap.objs.size + 1) :: rest, []⟩) (InitBack (s.heap.objs.size + 1) R)
      { s with heap := (s.heap.push { cls := .type "tuple", data := .seq rest.toArray }).push { cls := .ref C, data := .fields #[.ref s.heap.objs.size, .none, .none, .none, .bool false, .none] } }) :
    codeAny (model prog w) A (.call (.ref C) ⟨rest, []⟩) R s := by
  obtain ⟨h, g, d, t, os⟩ := s
  obtain ⟨bm, N, nm, q, bs, hdct, sn, sub, ab, col, dd, k0, k1, k2, k3, k5, hC, T⟩ := exc_objI X ex
  have F := PySem.F.excBase_ValueError
  have f1 := tc_lookup
  have f2 := tc_bind (.ref C)
  have hT : (⟨h, g, d, t, os⟩ : Shared).TypeIs (.ref C) "type" := ⟨_, hC, rfl⟩
  refine codeAny_of_tree ?_
  show wpAny _ _ (callAny (.ref C) _) _ _ _
  repeat (any_goals (first | assumption | with_reducible refine wpAny_loadPart_at hC ?_ | wp_step))
  refine ⟨rfl, ?_⟩
  refine codeAny_call_builtin_at (Code.quiet_builtin _ (by decide +kernel)) entry_typeCall (wpAny_check_type_call_sub hC ?_)
  repeat (first | with_reducible refine wpAny_loadPart_at hC ?_ | with_reducible refine wpAny_madeBy_exc hC ?_ | wp_step)
  refine codeAny_call_builtin_code (Code.quiet_builtin _ F.quiet) (wpAny_check_new_subT F T hC ?_)
  refine codeAny_exc_new_subT F T hC ?_ hrest
  show wpAny _ _ _ _ _ _
  have k : ∀ b o, h.get? b = some o → ((h.push { cls := .type "tuple", data := .seq rest.toArray }).push { cls := .ref C, data := .fields #[.ref h.objs.size, .none, .none, .none, .bool false, .none] }).get? b = some o := fun b o e => Heap.get?_push_of_some _ (Heap.get?_push_of_some _ e)
  have hC₁ := k _ _ hC
  have hget : ((h.push { cls := .type "tuple", data := .seq rest.toArray }).push
      { cls := .ref C, data := .fields #[.ref h.objs.size, .none, .none, .none, .bool false, .none] }).get? (h.objs.size + 1) = some
      { cls := .ref C, data := .fields #[.ref h.objs.size, .none, .none, .none, .bool false, .none] } := by heap_get
  have hcC : (Value.ref C :: bm).contains (.ref C) = true := by simp
  have i1 := looks_findIn (M := model prog w) (X.keeps k) hi
  have b1 := PySem.W.bind_fn (M := model prog w) (X.keeps k) (.ref (h.objs.size + 1)) hf
  unfold isInstance
  repeat (first | with_reducible refine wpAny_loadPart_at hget ?_ | (with_reducible refine wpAny_isSubtype_exc hC₁ ?_; rw [hcC]) | wp_step)
  show wpAny _ _ (isSubtype (.ref C) (.ref C)) _ _ _
  refine wpAny_isSubtype_exc hC₁ ?_
  rw [hcC]
  simp only [Bool.not_true, Bool.false_eq_true, if_false]
  have t1 : Looks (model prog w) ((h.push { cls := .type "tuple", data := .seq rest.toArray }).push { cls := .ref C, data := .fields #[.ref h.objs.size, .none, .none, .none, .bool false, .none] }) (typeOf (.ref (h.objs.size + 1))) (.ref C) := (Looks.ld hget).andThen .now
  unfold callSpecial? specialOf
  refine wpAny_bind (wpAny_holding (wpAny_bind (wpAny_bind (t1.at (i1.at ?_)))))
  dsimp only
  refine wpAny_holding (wpAny_bind (b1.at ?_))
  dsimp only
  refine wpAny_bind (wpAny_call ?_)
  refine codeAny_mono hq fun r s' z => ?_
  rcases r with e | (v | _ | _ | _) <;> first | exact z | exact z.elim | skip
  obtain ⟨rfl, z⟩ := z
  exact wpAny_pure (wpAny_pure z)
end
end L2

set_option Elab.async false
set_option linter.all false
set_option maxRecDepth 100000
set_option maxHeartbeats 1000000
namespace L2
open PySem PySem.Spec PySem.Calls PyProof.Rows PySem.W
def errObj (C t : Addr) : Obj := { cls := .ref C, data := .fields #[.ref t, .none, .none, .none, .bool false, .none] }
/-- an own error, newly made, without a dict -/
def ErrI (C a : Addr) : HO := .ext fun h => ∃ t, h.get? a = some (errObj C t)
/-- .. with its dict at dx -/
def ErrW (C a dx : Addr) : HO := .ext fun h => dx ≠ a ∧ ∃ t, h.get? a = some { errObj C t with dict := some dx }
theorem erri_ok {P : Program} {w : World} {H : Hp} {h : Heap} {C a t : Addr} (e : h.get? a = some (errObj C t)) : ObjOk P w H h a (ErrI C a) :=
  ⟨⟨t, e⟩, ⟨_, e⟩, fun _ _ ⟨t, q⟩ k => ⟨t, k _ q⟩⟩
theorem errw_ok {P : Program} {w : World} {H : Hp} {h : Heap} {C a dx t : Addr} (n : dx ≠ a) (e : h.get? a = some { errObj C t with dict := some dx }) : ObjOk P w H h a (ErrW C a dx) :=
  ⟨⟨n, t, e⟩, ⟨_, e⟩, fun _ _ ⟨n, t, q⟩ k => ⟨n, t, k _ q⟩⟩
theorem erri_at {P : Program} {w : World} {H : Hp} {h : Heap} {C a : Addr} (x : HOk P w H h) (e : H a = some (ErrI C a)) : ∃ t, h.get? a = some (errObj C t) := (x a _ e).1
theorem errw_at {P : Program} {w : World} {H : Hp} {h : Heap} {C a dx : Addr} (x : HOk P w H h) (e : H a = some (ErrW C a dx)) : dx ≠ a ∧ ∃ t, h.get? a = some { errObj C t with dict := some dx } := (x a _ e).1
section
variable {prog : Program} {w : World} {A : Around} {E : Value → Shared → Prop} {s : Shared}
theorem exc_init {nm q : Str} {C N a t : Addr} {bs bm : List Value} {hdct : Bool} {sn : List Str} {sub : List Value} {ab : Bool} {col : Option Bool} {dd : Option Addr} {k0 k1 k2 k3 k5 : Option Value} {rest : List Value} {Q : Value → Shared → Prop}
    (T : OwnTail s.heap bmV bm) (hC : s.heap.get? C = some (excClassObj nm q C N bs bm hdct sn sub ab col dd k0 k1 k2 k3 k5 "ValueError.__new__")) (ha : s.heap.get? a = some (errObj C t)) (hl : rest.length ≤ sizeLine)
    (h : ∀ h' t', (∀ b o, b ≠ a → s.heap.get? b = some o → h'.get? b = some o) → h'.get? a = some (errObj C t') → Q .none { s with heap := h' }) :
    wpAny (model prog w) A (call (.builtin "ValueError.__init__") (.ref a :: rest)) Q E s := by
  have F := PySem.F.excBase_ValueError
  obtain ⟨hh, g, d, tk, os⟩ := s
  unfold errObj at ha
  refine wpAny_call (codeAny_call_builtin F.init.plain F.initEntry (wpAny_check_init_subT F T hC ha rfl ?_))
  wp_walk
  have hne : ∀ b o, hh.get? b = some o → b ≠ hh.objs.size := fun b o e => Nat.ne_of_lt (Heap.lt_size e)
  refine h _ hh.objs.size (fun b o n e => ?_) ?_
  · rw [Heap.get?_update_other _ _ n.symm]
    exact Heap.get?_push_of_some _ e
  · rw [Heap.get?_update_self _ (Heap.get?_push_of_some _ ha) rfl]
    rfl
/-- which classes: own ones, then ValueError's -/
def onlyVal : List Value → Bool
  | [] => false
  | .ref c :: r => onlyVal r
  | v :: r => v :: r == bmV
theorem refuse_val (self : Value) : ∀ {l : List Value}, onlyVal l = true → refuseLoop self "__setattr__" l = pure ()
  | [], e => nomatch e
  | v :: r, e => by
    cases v with
    | ref c => rw [refuseLoop_ref]; exact refuse_val self e
    | _ => simp only [onlyVal] at e; rw [beq_iff_eq.mp e]; exact PySem.F.store_ValueError.passes self
def plainOverE (K : Frag) (C : Addr) : Bool := (clsIn K C).any fun cd => onlyVal cd.mro
theorem osa_openE {R : Result → Shared → Prop} {K : Frag} {x C : Addr} {ox : Obj} {od : Option Obj} {name : Str} {tk : Tok} {v : Value} (X : K.In s.heap) (I : InstAt s.heap x ox C od) (hp : plainOverE K C = true) (mo : mroIn K C (.type "object") = some true) (ht : takerIn K C name = some none)
    (h : ∀ b, wpAny (model prog w) A.in1 (Builtin.ObjectAttr.storeInOwnDict (.ref x) (.ref C) (.str name tk) name v b)
      (fun fin s' => match fin with | .done f => R (.ok f) s' | .again c' => c'.quiet = true ∧ codeAny (model prog w) A c' R s') (fun e s' => R (.error e) s') s) :
    codeAny (model prog w) A (.call (.builtin "object.__setattr__") ⟨[.ref x, .str name tk, v], []⟩) R s := by
  have SF := PySem.F.store_object
  obtain ⟨cd, hc, ho⟩ := any_some hp
  have sub : Looks (model prog w) s.heap (isInstance (.ref x) (.type "object")) true := I.type.andThen (looks_mroIn X mo)
  refine codeAny_call_builtin SF.slot.plain SF.entry (@check_slot (model prog w) _ _ s "object.__setattr__" "object" "__setattr__" (.ref x) [.str name tk, v] [] _ SF.kind SF.split sub (SF.args (.ref x) (.str name tk) v) ?_)
  obtain ⟨attr, ha, hr⟩ := Option.bind_eq_some_iff.mp ht
  have hm : Looks (model prog w) s.heap (mroOf (.ref C)) cd.mro := (looks_clsIn X hc).andThen .now
  have L3 : Looks (model prog w) s.heap (Builtin.ObjectAttr.storeTaker? attr) none := by
    cases attr with
    | none => exact .now
    | some a =>
      obtain ⟨b, hb, hz⟩ := Option.map_eq_some_iff.mp hr
      refine (looks_takesIn X hb).andThen ?_
      cases b <;> first | exact .now | cases hz
  rw [osa_eq, refuse_eq]
  refine wpAny_bind (wpAny_bind (I.type.here (wpAny_bind (hm.here ?_))))
  rw [refuse_val _ ho]
  refine wpAny_pure (wpAny_bind (I.type.here (wpAny_bind ((looks_findIn X ha).here (wpAny_bind (L3.here ?_))))))
  exact h _
/-- the first attribute of an own error: its dict is made -/
theorem set_err {K : Frag} {x C t : Addr} {name : Str} {v : Value} {Q : Unit → Shared → Prop} (X : K.In s.heap) (hx : s.heap.get? x = some (errObj C t)) (hs : findIn K (.ref C) "__setattr__" = some (some (.builtin "object.__setattr__"))) (hp : plainOverE K C = true)
    (mo : mroIn K C (.type "object") = some true) (ht : takerIn K C name = some none) (hh : hasDictIn K C = true)
    (h : ∀ h' dx tk', dx ≠ x → s.heap.get? dx = none → (∀ b o, b ≠ x → s.heap.get? b = some o → h'.get? b = some o) → h'.get? x = some { errObj C t with dict := some dx } → h'.Ns1 dx (fun y => if y = name then some v else none) → Q () { s with heap := h', toks := tk' }) :
    wpAny (model prog w) A (setAttr (.ref x) name v) Q E s := by
  have J : InstAt s.heap x (errObj C t) C none := ⟨hx, rfl, rfl, trivial⟩
  refine set_plain X J hs (osa_openE (s := { s with toks := s.toks + 1 }) X J hp mo ht fun b => ?_)
  obtain ⟨cd, hc, hd'⟩ := any_some hh
  obtain ⟨hp', g, d, tk, os⟩ := s
  dsimp only at hx X
  refine wpAny_bind (wpAny_pure (wpAny_bind (wpAny_bind (wpAny_loadPart hx (wpAny_bind (Looks.here (s := { heap := hp', gens := g, drawn := d, toks := tk + 1, os := os }) (looks_clsIn X hc) ?_))))))
  rw [hd']
  have hx₁ : (hp'.push { cls := .type "dict", data := .dict #[] }).get? x = some (errObj C t) := Heap.get?_push_of_some _ hx
  have hxs : x ≠ hp'.objs.size := Nat.ne_of_lt (Heap.lt_size hx)
  refine wpAny_bind (wpAny_alloc' ?_)
  refine wpAny_bind (wpAny_update' hx₁ ?_)
  refine wpAny_pure ?_
  have hgd : ((hp'.push { cls := .type "dict", data := .dict #[] }).update x fun o => { cls := o.cls, dict := some hp'.objs.size, data := o.data, slots := o.slots }).get? hp'.objs.size
      = some { cls := .type "dict", data := .dict #[] } :=
    (Heap.get?_update_ne _ _ _ _ hxs.symm).trans (Heap.get?_push_at rfl rfl)
  have hnd : ((hp'.push { cls := .type "dict", data := .dict #[] }).update x fun o => { cls := o.cls, dict := some hp'.objs.size, data := o.data, slots := o.slots }).Ns hp'.objs.size (fun _ => none) :=
    ⟨_, #[], _, hgd, rfl, fun e he => absurd he (by simp), fun _ => rfl⟩
  refine wpAny_bind (wpAny_pure ?_)
  refine wpAny_bind (wpAny_nsSet1 (Heap.Ns1.of_empty hnd) fun h' hn' hs => ?_)
  obtain ⟨oD, esD, epD, hoD, hdD, hcD⟩ := hn'.count (Within.cons name v Within.nil)
  refine wpAny_bind (wpAny_lookBehind hoD (by rw [hdD]; exact pastItsLine_dict (Nat.le_trans hcD (by rw [List.length_cons, List.length_nil, sizeLine_eq]; omega))) ?_)
  refine wpAny_pure (h h' hp'.objs.size _ hxs.symm (Heap.get?_none_of_le (Nat.le_refl _)) (fun b o n e => ?_) ?_ hn')
  · exact (hs.2 b (Nat.ne_of_lt (Heap.lt_size e))).trans ((Heap.get?_update_ne _ _ _ _ n).trans (Heap.get?_push_of_some _ e))
  · exact (hs.2 x hxs).trans (Heap.get?_update_self _ hx₁ rfl)
theorem exc_get {K : Frag} {x D : Addr} {ox : Obj} {odo : Option Obj} {name : Str} {v : Value} {expr : Bool} {Q : Value → Shared → Prop} (X : K.In s.heap) (I : InstAt s.heap x ox D odo) (hga : findIn K (.ref D) "__getattribute__" = some (some (.builtin "BaseException.__getattribute__")))
    (hk : findIn K (.ref D) "__getattr__" = some none) (hf : findObj K D odo name = some (.value v)) (hmB : mroIn K D (.type "BaseException") = some true) (hv : handedIn v = true) (h : Q v { s with toks := s.toks + 1 }) :
    wpAny (model prog w) A (getAttr (.ref x) name expr) Q E s := by
  obtain ⟨hh, g, d, t, os⟩ := s
  have L0 := I.type (M := model prog w)
  have L1 := looks_findIn (M := model prog w) X hga
  have L2 := looks_findIn (M := model prog w) X hk
  have L3 := looks_find (M := model prog w) X I hf
  refine wpAny_bind (wpAny_mkText (wpAny_holding (wpAny_bind (L0.at (wpAny_bind (L1.at ?_))))))
  have e0 : (onTheHeap (Value.ref D) && (Value.builtin "BaseException.__getattribute__" == Value.builtin "object.__getattribute__")) = false := by
    have : (Value.builtin "BaseException.__getattribute__" == Value.builtin "object.__getattribute__") = false := by decide +kernel
    rw [this]; exact Bool.and_false _
  dsimp only
  rw [e0, if_neg (by decide)]
  unfold getAttrByItsOwn hookBefore
  rw [if_pos (show onTheHeap (Value.ref D) = true from rfl)]
  refine wpAny_bind (L2.at ?_)
  have L4 := looks_mroIn (M := model prog w) X hmB
  have FB := PySem.F.attr_ValueError
  have f3 := FB.ga.bind (.ref x)
  refine wpAny_bind (wpAny_attempt (wpAny_holding ?_))
  unfold callGetattribute
  rw [show (expr && onTheHeap (Value.builtin "BaseException.__getattribute__")) = false from Bool.and_false _, if_neg (by decide)]
  unfold boundAndCalled
  rw [f3]
  refine wpAny_bind (wpAny_pure ?_)
  dsimp only
  refine wpAny_call (codeAny_call_builtin FB.ga.plain F.entry_bexc_ga ?_)
  have hk' : builtinKind "BaseException.__getattribute__" = some .slot := by decide +kernel
  have hsplit : splitId "BaseException.__getattribute__" = some ("BaseException", "__getattribute__") := by decide +kernel
  show wpAny _ _ (checkBuiltinCall "BaseException.__getattribute__" ⟨[Value.ref x, Value.str name t], []⟩) _ _ _
  have ha := F.args_bexc_ga (.ref x) (Value.str name t)
  simp only [checkBuiltinCall, hk', hsplit]
  refine wpAny_bind ?_
  unfold isInstance
  refine wpAny_bind (L0.at (L4.at ?_))
  repeat (any_goals (first | assumption | wp_step))
  refine wpAny_loadPart_at I.at_ ?_
  rw [I.cls]
  refine wpAny_pure ?_
  refine wpAny_bind (L3.at ?_)
  dsimp only
  refine wpAny_pure ?_
  show wpAny _ _ (handedOut v) _ _ _
  rw [handedOut_of hv]; exact wpAny_pure h
end
end L2

set_option Elab.async false
set_option linter.all false
set_option maxRecDepth 100000
set_option maxHeartbeats 1000000
namespace L2
open PySem PySem.Spec PySem.Calls PyProof.Rows PySem.W
def initB (K : Frag) (B : Addr) : Bool := specialIn K (.ref B) "__getattribute__" == some (some (.builtin "type.__getattribute__")) && readsIn K B (.type "type") &&
  (match findCls K (.ref B) (.type "type") "__init__" with | some (.val (.builtin i)) => i == "ValueError.__init__" | _ => false)
theorem initB_of {K : Frag} {B : Addr} (h : initB K B = true) : specialIn K (.ref B) "__getattribute__" = some (some (.builtin "type.__getattribute__")) ∧ readsIn K B (.type "type") = true ∧ findCls K (.ref B) (.type "type") "__init__" = some (.val (.builtin "ValueError.__init__")) := by
  unfold initB at h
  simp only [Bool.and_eq_true, beq_iff_eq] at h
  obtain ⟨⟨a, b⟩, c⟩ := h
  refine ⟨a, b, ?_⟩
  split at c
  · rename_i i e
    rw [e, beq_iff_eq.mp c]
  · cases c
/-- what storing in an own error asks of its class -/
def setB (K : Frag) (C : Addr) (f : Str) : Bool := findIn K (.ref C) "__setattr__" == some (some (.builtin "object.__setattr__")) && plainOverE K C && mroIn K C (.type "object") == some true && hasDictIn K C && findIn K (.ref C) f == some none
def getB (K : Frag) (C : Addr) (f : Str) : Bool := findIn K (.ref C) "__getattribute__" == some (some (.builtin "BaseException.__getattribute__")) && findIn K (.ref C) "__getattr__" == some none && mroIn K C (.type "BaseException") == some true && hasDictIn K C && findIn K (.ref C) f == some none
theorem Inv.errW {X : Cx} {pins : List (Addr × Obj)} {σ : List (Option V)} {H : Hp} {s : Shared} {h' : Heap} {C a dx t : Addr} {t' : Nat} {mA : Str → Option Value} {fs : List (Str × V)} (I : Inv X pins σ H s) (ea : H a = some (ErrI C a)) (ne : dx ≠ a) (hn : s.heap.get? dx = none)
    (k : ∀ b o, b ≠ a → s.heap.get? b = some o → h'.get? b = some o) (ha : h'.get? a = some { errObj C t with dict := some dx }) (ns : h'.Ns1 dx mA) (r : ∀ f, RelO (fs.lookup f) (mA f)) :
    Inv X pins σ (upd (upd H dx (.xd fs)) a (ErrW C a dx)) { s with heap := h', toks := t' } := by
  have hd : H dx = none := I.hok.freshN hn
  have q1 : ∀ b, H b = none → b ≠ a := fun b n z => by rw [z, ea] at n; cases n
  have hs : ∀ b o, s.heap.get? b = some o → b ≠ dx := fun b o e z => by rw [z, hn] at e; cases e
  have g : ∀ b, b ≠ a → b ≠ dx → (upd (upd H dx (.xd fs)) a (ErrW C a dx)) b = H b := fun b h1 h2 => by rw [upd_ne h1, upd_ne h2]
  have gt : ∀ b o, H b = some o → o ≠ ErrI C a → (upd (upd H dx (.xd fs)) a (ErrW C a dx)) b = some o := fun b o e n => by
    rw [g b (fun z => n (by rw [z, ea] at e; exact (Option.some.inj e).symm)) (ne_of_none e hd)]; exact e
  refine I.un ⟨fun b u q n _ _ => k b u (q1 b n) q, fun b u q n _ _ => ⟨u.slots, k b u (q1 b n) q⟩, fun b u q n _ => by rw [g b (q1 b n) (hs b u q)]; exact n, fun b u q _ => ?_,
    fun b xs q => gt b _ q (fun z => nomatch z), fun b u xs q => gt b _ q (fun z => nomatch z), fun b ps q => ⟨#[], by rw [gt b _ q (fun z => nomatch z)]; simp⟩⟩ fun b u e => ?_
  · by_cases hb : b = a
    · exact ⟨_, by rw [hb]; exact ha⟩
    · exact ⟨u, k b u hb q⟩
  · by_cases hb : b = a
    · subst hb
      rw [upd_same] at e; cases e
      exact errw_ok ne ha
    · by_cases hb2 : b = dx
      · subst hb2
        rw [upd_ne hb, upd_same] at e; cases e
        exact ⟨mA, ns, r⟩
      · rw [g b hb hb2] at e
        refine (I.hok b u e).stay (fun c v hc q => k c v ?_ q) (fun c q => gt c _ q (fun z => nomatch z)) fun c xs q => gt c _ q (fun z => nomatch z)
        rcases hc with rfl | hc
        · exact hb
        · rintro rfl
          rw [ea] at hc; cases hc
section
variable {X : Cx} {CX : CXT} {k : Nat} {f C B : Addr} {fd : FuncData} {ps : List Str} {sp : Sp} {E : XK} {x fld : Str} {p pos apos pos' : Pos} {e o value : Expr} {es : List Expr} {t : TA} {ds : List Value} {dvs : List V} {ta tv : TE}
/-- C(..), an own error whose __init__ (sp) is its own -/
def tExcI (C : Addr) (sp : Sp) (dvs : List V) (E : XK) (t : TA) : TE := fun σ H Q => t σ H fun vs H1 => vs.length ≤ sizeLine ∧ ∀ x, H1 x = none → sp (.ref x :: (vs ++ dvs)) (upd H1 x (ErrI C x)) (fun v H2 => v = .non ∧ Q (.ref x) H2) E
theorem run_excI {pins : List (Addr × Obj)} {σ : St} {H : Hp} {s : Shared} {Q : VK} {us : List Value} {vs : List V} (ex : excInI X.K C bmV "ValueError.__new__" = true) (hi : findIn X.K (.ref C) "__init__" = some (some (.ref f))) (hfn : isFn X.K (.ref f) = true)
    (F : FnOk X.prog X.w X.K X.mg X.base CX k f fd ps sp) (hr : Room (k + 1) X.A) (hb : Binds X.K fd ps ds) (hd : Vals dvs ds)
    (hx : Passes CX X E) (I : Inv X pins σ H s) (r : Vals vs us) (hl : vs.length ≤ sizeLine)
    (h : ∀ x, H x = none → sp (.ref x :: (vs ++ dvs)) (upd H x (ErrI C x)) (fun v H2 => v = .non ∧ Q (.ref x) H2) E) :
    wpAny (model X.prog X.w) X.A (call (.ref C) us) (EP X pins σ Q) X.xe s := by
  have hq := h (s.heap.objs.size + 1) (I.hok.fresh (Nat.le_succ _))
  have kk : ∀ b o, s.heap.get? b = some o → ((s.heap.push { cls := .type "tuple", data := .seq us.toArray }).push { cls := .ref C, data := .fields #[.ref s.heap.objs.size, .none, .none, .none, .bool false, .none] }).get? b = some o :=
    fun b o e => Heap.get?_push_of_some _ (Heap.get?_push_of_some _ e)
  have hget : ((s.heap.push { cls := .type "tuple", data := .seq us.toArray }).push { cls := .ref C, data := .fields #[.ref s.heap.objs.size, .none, .none, .none, .bool false, .none] }).get? (s.heap.objs.size + 1) = some (errObj C s.heap.objs.size) := by
    unfold errObj; heap_get
  have I2 : Inv X pins σ (upd H (s.heap.objs.size + 1) (ErrI C (s.heap.objs.size + 1))) { s with heap := (s.heap.push { cls := .type "tuple", data := .seq us.toArray }).push { cls := .ref C, data := .fields #[.ref s.heap.objs.size, .none, .none, .none, .bool false, .none] } } :=
    I.laidN (t' := s.toks) kk (Heap.get?_none_of_le (Nat.le_succ _)) (erri_ok hget)
  have r2 : Vals (V.ref (s.heap.objs.size + 1) :: (vs ++ dvs)) (Value.ref (s.heap.objs.size + 1) :: (us ++ ds)) := .cons rfl (r.append hd)
  have hlen : (Value.ref (s.heap.objs.size + 1) :: us ++ ds).length = ps.length := by
    have e := r2.length
    rw [F.len _ _ _ _ hq] at e
    exact e.symm
  refine wpAny_call (exc_make (f := f) I.kIn ex hi (beq_iff_eq.mp hfn) (by rw [← r.length]; exact hl) (codeAny_mono (F.run _ X.stack _ _ ⟨Value.ref (s.heap.objs.size + 1) :: us, []⟩ (Value.ref (s.heap.objs.size + 1) :: (us ++ ds)) _ _ E (hr.make C us [])
    (I2.env0.make C us []) (hb _ (Value.ref (s.heap.objs.size + 1) :: us) I2.kIn hlen) r2 hq) fun r s' hq' => ?_))
  cases r with
  | error e => exact hx pins σ _ _ e s' I2 hq'
  | ok fl =>
    cases fl with
    | ret u =>
      obtain ⟨v, H', I3, rv, ev, q3⟩ := I2.after hq'
      subst ev
      exact ⟨rv, ⟨V.ref (s.heap.objs.size + 1), H', I3, rfl, q3⟩⟩
    | next => exact False.elim hq'
    | brk => exact False.elim hq'
    | cont => exact False.elim hq'
theorem pe_excI (hkp : keepIn X.K (.ref C) = true) (ex : excInI X.K C bmV "ValueError.__new__" = true) (hi : findIn X.K (.ref C) "__init__" = some (some (.ref f))) (hfn : isFn X.K (.ref f) = true)
    (F : FnOk X.prog X.w X.K X.mg X.base CX k f fd ps sp) (hr : Room (k + 1) X.A) (hg : Gl X x) (hm : X.mg x = some (.ref C)) (hb : Binds X.K fd ps ds) (hd : Vals dvs ds) (hx : Passes CX X E) (ha : PA X (e :: es) t) (hdb : (x == ("__debug__" : Str)) = false := by decide)
    (he : starEach (e :: es) X.env = (false, eval e X.env) :: starEach es X.env := by rfl) (hpl : (backTo pos (starEach es X.env)).any (·.1) = false := by rfl) : PE X (.Call (.Name x p) (e :: es) [] pos) (tExcI C sp dvs E t) := by
  intro pins s σ H Q I h
  refine wpAny_Call_Name_kw (ld_glob I hg hm ?_ hdb)
  refine PySem.W.callWith_K (h₀ := X.base) I.ok.mod.kin hkp (thn (ha pos pins s σ H _ I h) fun us s1 ⟨vs, H1, I1, r, q⟩ => ⟨I1.kIn, ?_⟩) he hpl
  exact run_excI ex hi hfn F hr hb hd hx I1 r q.1 q.2
/-- B.__init__(self, ..) -/
def tInitE (K : Frag) (t : TA) : TE := fun σ H Q => t σ H fun vs H1 => ∃ a C rest, vs = .ref a :: rest ∧ rest.length ≤ sizeLine ∧ H1 a = some (ErrI C a) ∧ excInI K C bmV "ValueError.__new__" = true ∧ Q .non H1
theorem pe_initE {pl : Sem Bool} (hB : initB X.K B = true) (hg : Gl X x) (hm : X.mg x = some (.ref B)) (ha : PA X (e :: es) t) (hdb : (x == ("__debug__" : Str)) = false := by decide)
    (hst : starEach (e :: es) X.env = (false, eval e X.env) :: starEach es X.env := by rfl) (hpl : (backTo pos (starEach es X.env)).any (·.1) = false := by rfl)
    (ht : eval (.Call (.Attribute (.Name x p) "__init__" apos) (e :: es) [] pos) X.env = (do
      let ov ← eval (.Name x p) X.env
      standAt apos.atName
      let (f, first) ← holding [ov] (getMethod ov "__init__" pl)
      callWith pos f first (backTo pos (starEach (e :: es) X.env)) (backToKw pos (keywordEach [] X.env))) := by rfl) :
    PE X (.Call (.Attribute (.Name x p) "__init__" apos) (e :: es) [] pos) (tInitE X.K t) := by
  intro pins s σ H Q I h
  obtain ⟨h1, h2, h3⟩ := initB_of hB
  refine PySem.W.methodCall_KW (pl := pl) (ld_glob I hg hm ?_ hdb) ht
  refine method_cls I.kIn h1 (cls_value I.kIn h2 h3 rfl ?_)
  have I0 := I.tok (s.toks + 1)
  have hA := ha pos pins _ σ H _ I0 h
  dsimp only
  rw [hst] at hA ⊢
  refine Calls.callWith_builtin (by show (false || (backTo pos (starEach es X.env)).any (·.1)) = false; rw [hpl] <;> rfl) (Calls.evalArgs_plain ?_)
  refine thn hA fun us s1 ⟨vs, H1, I1, r, a, C, rest, ev, hl, ea, ex, q⟩ => ?_
  subst ev
  cases r with
  | cons ra rr =>
    cases ra
    obtain ⟨tt, hat⟩ := erri_at I1.hok ea
    obtain ⟨bm, N, nm, q0, bs, hdct, sn, sub, ab, col, dd, k0, k1, k2, k3, k5, hC, T⟩ := exc_objI I1.kIn ex
    refine exc_init T hC hat (by rw [← rr.length]; exact hl) fun h' t' kk hb => ?_
    have I2 := I1.write (x := a) (e := a) (o := ErrI C a) (h' := h') (t' := s1.toks) (by rw [ea]; exact True.intro) (.inl rfl) (fun b u n z => kk b u n z) ⟨_, hb⟩ (erri_ok hb)
    have eH : upd H1 a (ErrI C a) = H1 := by
      funext b
      unfold upd
      split
      · rename_i z; rw [z, ea]
      · rfl
    rw [eH] at I2
    exact ⟨.non, H1, I2, rfl, q⟩
/-- e.f = value, the first attribute of an own error -/
def sSetE (K : Frag) (ta tv : TE) (f : Str) : TS := fun D σ H => tv σ H fun y H1 => ta σ H1 fun x H2 => ∃ a C, x = .ref a ∧ H2 a = some (ErrI C a) ∧ setB K C f = true ∧ ∀ dx, H2 dx = none → dx ≠ a → D.nx σ (upd (upd H2 dx (.xd [(f, y)])) a (ErrW C a dx))
theorem ps_setE (ha : PE X o ta) (hv : PE X value tv) (hs : swapsWith value (some (.Attribute o fld pos')) pos.line X.env = pure false) : PS X (.Assign [.Attribute o fld pos'] value pos) (sSetE X.K ta tv fld) := by
  intro pins s σ H D I h
  refine plainObj_wpAny_Assign_Attribute (thn (hv pins s σ H _ I h) fun u s1 ⟨y, H1, I1, ry, q⟩ => thn (ha pins s1 σ H1 _ I1 q) fun ov s2 ⟨x, H2, I2, rx, a, C, ex, ea, hB, q2⟩ => ?_) hs
  subst ex
  obtain rfl : ov = Value.ref a := rx
  simp only [setB, Bool.and_eq_true, beq_iff_eq] at hB
  obtain ⟨⟨⟨⟨b1, b2⟩, b3⟩, b4⟩, b5⟩ := hB
  obtain ⟨tt, hat⟩ := erri_at I2.hok ea
  refine set_err I2.kIn hat b1 b2 b3 (NoAttr.taker b5) b4 fun h' dx tk' ne hn kk hx ns => ?_
  exact ⟨σ, _, I2.errW ea ne hn kk hx ns (fs := [(fld, y)]) (fun g => by
    show RelO (List.lookup g [(fld, y)]) (if g = fld then some u else none)
    by_cases e : g = fld
    · subst e; rw [if_pos rfl, List.lookup_cons_self]; exact ry
    · rw [if_neg e, show List.lookup g [(fld, y)] = none from by rw [List.lookup_cons, beq_eq_false_iff_ne.mpr e]; rfl]; exact True.intro), q2 dx (I2.hok.freshN hn) ne⟩
/-- e.f of an own error -/
def tGetE (K : Frag) (ta : TE) (f : Str) : TE := fun σ H Q => ta σ H fun x H1 => ∃ a C dx v fs, x = .ref a ∧ H1 a = some (ErrW C a dx) ∧ H1 dx = some (.xd fs) ∧ getB K C f = true ∧ fs.lookup f = some v ∧ Q v H1
theorem errw_inst {P : Program} {w : World} {H : Hp} {h : Heap} {C a dx : Addr} {fs : List (Str × V)} (x : HOk P w H h) (e : H a = some (ErrW C a dx)) (ed : H dx = some (.xd fs)) :
    ∃ ox od, InstAt h a ox C (some od) ∧ ∀ f, ∃ u, lookIn f od = some u ∧ RelO (fs.lookup f) u := by
  obtain ⟨_, t, ha⟩ := errw_at x e
  obtain ⟨mA, ns, r⟩ := (show ObjOk P w H h dx (.xd fs) from x dx _ ed)
  obtain ⟨od, ho, hl⟩ := lookIn_ns ns
  exact ⟨_, od, ⟨ha, rfl, rfl, ho⟩, fun f => ⟨_, hl f, r f⟩⟩
theorem pe_getE (he : PE X e ta) (hb : attributeBase e fld X.env (eval e X.env) = eval e X.env) : PE X (.Attribute e fld pos) (tGetE X.K ta fld) := by
  intro pins s σ H Q I h
  refine attr_of hb (thn (he pins s σ H _ I h) fun u s1 ⟨x, H1, I1, rx, a, C, dx, v, fs, ex, ea, ed, hB, l, q⟩ => ?_)
  subst ex
  obtain rfl : u = Value.ref a := rx
  simp only [getB, Bool.and_eq_true, beq_iff_eq] at hB
  obtain ⟨⟨⟨⟨b1, b2⟩, b3⟩, b4⟩, b5⟩ := hB
  obtain ⟨ox, od, J, hl⟩ := errw_inst I1.hok ea ed
  obtain ⟨uo, hu, ru⟩ := hl fld
  rw [l] at ru
  obtain ⟨u, rfl, ru⟩ := RelO.some_of ru
  exact exc_get I1.kIn J b1 b2 (findObj_own b4 b5 rfl hu) b3 (handed_of ru) ⟨v, H1, I1.tok _, ru, q⟩
/-- isinstance of an own error, with or without a dict -/
def rIsW (K : Frag) : List V → Hp → VK → Prop := fun xs H Q => ∃ a C c b, xs = [.ref a, c] ∧ (H a = some (ErrO C a) ∨ ∃ dx fs, H a = some (ErrW C a dx) ∧ H dx = some (.xd fs)) ∧ ExcK K C ∧ ((∃ F, c = .ref F ∧ kitOne K (.ref C) (.ref F) = some b) ∨ ∃ n, c = .ty n ∧ kitOne K (.ref C) (.type n) = some b) ∧ Q (.bl b) H
theorem call_isW {K : Frag} (hK : X.K = K) : CallR X (.builtin "isinstance") (rIsW K) := by
  subst hK
  intro pins s σ H xs us Q I r h
  obtain ⟨a, C, c, b, rfl, ha, hk, hc, q⟩ := h
  obtain ⟨ox, odo, hi⟩ : ∃ ox odo, InstAt s.heap a ox C odo := by
    rcases ha with ha | ⟨dx, fs, ha, hd⟩
    · obtain ⟨ox, hi⟩ := err_inst I.hok ha
      exact ⟨ox, none, hi⟩
    · obtain ⟨ox, od, hi, _⟩ := errw_inst I.hok ha hd
      exact ⟨ox, some od, hi⟩
  cases r with
  | cons rx r2 =>
    cases r2 with
    | cons ry r3 =>
      cases r3
      cases rx
      rcases hc with ⟨F, rfl, e⟩ | ⟨n, rfl, e⟩
      · cases ry
        exact kia_one (kitx_exc hk) I.kIn ⟨ox, odo, hi⟩ e (fun z => nomatch z) fun tk => ⟨.bl b, H, I.tok tk, rfl, q⟩
      · cases ry
        exact kia_one (kitx_exc hk) I.kIn ⟨ox, odo, hi⟩ e (fun z => nomatch z) fun tk => ⟨.bl b, H, I.tok tk, rfl, q⟩
end
end L2

set_option Elab.async false
set_option linter.all false
set_option maxRecDepth 100000
set_option maxHeartbeats 1000000
namespace L2
open PySem PySem.Spec PySem.Calls PyProof.Rows
theorem size_rep (a : Array Nat) : ∀ (n : Nat) (b : Array Nat), ((List.replicate n a).foldl (· ++ ·) b).size = b.size + n * a.size
  | 0, b => by simp
  | n + 1, b => by
    rw [List.replicate_succ, List.foldl_cons, size_rep a n (b ++ a), Array.size_append, Nat.succ_mul]
    omega
section
variable {X : Cx}
def rRepS : R2 := fun x y H Q => ∃ i k, x = .str i ∧ y = .int k ∧ i.length ≤ 1000 ∧ 0 ≤ k ∧ k ≤ 1000 ∧ ∀ z : Str, z.length ≤ 1000000 → Q (.str z) H
theorem op_repS : OpR X (binaryOp .Mult) rRepS := by
  intro pins s σ H x y v u Q I rx ry h
  obtain ⟨i, k, rfl, rfl, hi, h0, h1, q⟩ := h
  obtain ⟨t, rfl⟩ := rx
  obtain ⟨t', rfl⟩ := ry
  have hm : i.length * k.toNat ≤ 1000000 := Nat.le_trans (Nat.mul_le_mul hi (show k.toNat ≤ 1000 by omega)) (by decide)
  refine PySem.P.mul_str (by
      have a : ¬ k < -(2 ^ 63 : Int) := by omega
      have b : ¬ k ≥ (2 ^ 63 : Int) := by omega
      rw [decide_eq_false a, decide_eq_false b]; rfl) (fun h2 _ z => ?_) (fun _ _ => notLong (by omega)) ?_
  · have hk : 1 ≤ k := by omega
    have e : (i.length : Int) * k ≤ 1000 * 1000 := Int.mul_le_mul (by omega) h1 h0 (by decide)
    have := Int.le_ediv_of_mul_le (a := (i.length : Int)) (b := 2 ^ 63 - 1) (c := k) (by omega) (by omega)
    omega
  · split
    · exact ⟨by decide, ⟨.str Str.empty, H, I.tok _, ⟨_, rfl⟩, q _ (by decide)⟩⟩
    · split
      · exact ⟨.str i, H, I, ⟨_, rfl⟩, q _ (by omega)⟩
      · have hz : (⟨(List.replicate k.toNat i.cps).foldl (· ++ ·) #[]⟩ : Str).length ≤ 1000000 := by
          show ((List.replicate k.toNat i.cps).foldl (· ++ ·) #[]).size ≤ 1000000
          rw [size_rep]
          have : k.toNat * i.cps.size = i.length * k.toNat := Nat.mul_comm _ _
          rw [this]
          simpa using hm
        exact ⟨by show _ ≤ sizeLine; exact Nat.le_trans hz (by decide), ⟨.str _, H, I.tok _, ⟨_, rfl⟩, q _ hz⟩⟩
end
end L2

set_option Elab.async false
set_option linter.all false
set_option maxRecDepth 100000
set_option maxHeartbeats 4000000
namespace Bk
open PySem L2 Nm
def freeW : List Str := ["x", "xa", "ax", "left", "lefa", "qqqqqqqq", "num", "if"]
def HeldW (B : BookD) (x : Str) : Prop := x ∈ freeW ∧ x ∉ (makesD B).map (·.1)
theorem freeW_ok : ∀ n ∈ freeW, PyData.strOk n = true := by decide +kernel
theorem HeldW.ok {B : BookD} {x : Str} (h : HeldW B x) : PyData.strOk x = true := freeW_ok x h.1
def SpanO (lo hi : Option Int) : Prop := ∀ a b, lo = some a → hi = some b → a ≤ b
def WfF (B : BookD) : Nat → Str → Sh → Prop
  | 0 => fun _ _ => False
  | n + 1 => fun k s => s = .any ∨ (∃ lo hi, s = .num lo hi ∧ k = "num" ∧ SpanO lo hi) ∨ (∃ q ∈ B, ∃ m ∈ q.2, ∃ ss, q.1 = k ∧ s = .mk m.1 ss ∧ Pd (WfF B n) m.2 ss) ∨ (∃ nm s', s = .held nm s' ∧ HeldW B nm ∧ WfF B n k s') ∨ ∃ ss, s = .either ss ∧ ss.length ≤ 4 ∧ 1 ≤ ss.length ∧ ∀ s' ∈ ss, WfF B n k s'
theorem WfF.up {B : BookD} : ∀ {n : Nat} {k : Str} {s : Sh}, WfF B n k s → WfF B (n + 1) k s
  | 0, _, _, h => h.elim
  | n + 1, k, s, h => by
    rcases h with h | h | ⟨q, hq, m, hm, ss, e1, e2, h⟩ | ⟨nm, s', e, ho, h⟩ | ⟨ss, e, h1, h2, h⟩
    · exact .inl h
    · exact .inr (.inl h)
    · exact .inr (.inr (.inl ⟨q, hq, m, hm, ss, e1, e2, h.mono fun _ _ z => WfF.up z⟩))
    · exact .inr (.inr (.inr (.inl ⟨nm, s', e, ho, h.up⟩)))
    · exact .inr (.inr (.inr (.inr ⟨ss, e, h1, h2, fun s' hs => (h s' hs).up⟩)))
theorem WfF.mono {B : BookD} {n : Nat} {k : Str} {s : Sh} (h : WfF B n k s) : ∀ {m : Nat}, n ≤ m → WfF B m k s
  | 0, hm => by
    have : n = 0 := by omega
    rw [this] at h; exact h
  | m + 1, hm => by
    by_cases e : n = m + 1
    · rw [← e]; exact h
    · exact (WfF.mono h (m := m) (by omega)).up
theorem WfF.toS {B : BookD} : ∀ {n : Nat} {k : Str} {s : Sh}, WfF B n k s → WfS B n k s
  | 0, _, _, h => h.elim
  | n + 1, k, s, h => by
    rcases h with h | ⟨lo, hi, e1, e2, _⟩ | ⟨q, hq, m, hm, ss, e1, e2, h⟩ | ⟨nm, s', e, ho, h⟩ | ⟨ss, e, h1, h2, h⟩
    · exact .inl h
    · exact .inr (.inl ⟨lo, hi, e1, e2⟩)
    · exact .inr (.inr (.inl ⟨q, hq, m, hm, ss, e1, e2, h.mono fun _ _ z => WfF.toS z⟩))
    · exact .inr (.inr (.inr (.inl ⟨nm, s', e, ho.ok, h.toS⟩)))
    · exact .inr (.inr (.inr (.inr ⟨ss, e, h1, h2, fun s' hs => (h s' hs).toS⟩)))
theorem WfF.pos {B : BookD} {n : Nat} {k : Str} {s : Sh} (h : WfF B n k s) : 1 ≤ ubD s := h.toS.pos
def numO : Option Int → TH
  | none => .non
  | some z => .num z
mutual
def shTH : Sh → TH
  | .any => .tup [.str "any"]
  | .num lo hi => .tup [.str "num", numO lo, numO hi]
  | .mk m ss => .tup [.str "make", .str m, .tup (shTHs ss)]
  | .held n s => .tup [.str "held", .str n, shTH s]
  | .either ss => .tup [.str "either", .tup (shTHs ss)]
def shTHs : List Sh → List TH
  | [] => []
  | s :: r => shTH s :: shTHs r
end
theorem numO_at {H : Hp} (o : Option Int) : ThAt H (numV o) (numO o) := by
  cases o with
  | none => exact .non
  | some z => exact .num z
mutual
theorem ShAt.th {H : Hp} : ∀ {v : V} {s : Sh}, ShAt H v s → ThAt H v (shTH s)
  | _, _, .any h => by unfold shTH; exact .tup h (.cons (.str _) .nil)
  | _, _, .num h => by unfold shTH; exact .tup h (.cons (.str _) (.cons (numO_at _) (.cons (numO_at _) .nil)))
  | _, _, .mk h h2 t => by unfold shTH; exact .tup h (.cons (.str _) (.cons (.str _) (.cons (.tup h2 (ShsAt.th t)) .nil)))
  | _, _, .held h t => by unfold shTH; exact .tup h (.cons (.str _) (.cons (.str _) (.cons (ShAt.th t) .nil)))
  | _, _, .either h h2 t => by unfold shTH; exact .tup h (.cons (.str _) (.cons (.tup h2 (ShsAt.th t)) .nil))
theorem ShsAt.th {H : Hp} : ∀ {vs : List V} {ss : List Sh}, ShsAt H vs ss → ThsAt H vs (shTHs ss)
  | _, _, .nil => by unfold shTHs; exact .nil
  | _, _, .cons h t => by unfold shTHs; exact .cons (ShAt.th h) (ShsAt.th t)
end
end Bk
namespace Bk
open PySem L2 Nm
end Bk

set_option Elab.async false
set_option linter.all false
set_option maxRecDepth 100000
set_option maxHeartbeats 4000000
namespace Bk
open PySem L2 Nm
/-- an answer of a kind, so deep, by what is held, with makes that come -/
def WfC (B : BookD) (hs : List (Str × Str)) : Nat → Str → Ans → Prop
  | 0 => fun _ _ => False
  | n + 1 => fun k a => (∃ z, a = .num z ∧ k = "num") ∨ (∃ nm, a = .held nm ∧ lookL hs nm = some k) ∨ ∃ q ∈ B, ∃ m ∈ q.2, ∃ as, q.1 = k ∧ a = .mk m.1 as ∧ allGot (plainG B) m.2 = true ∧ Pd (WfC B hs n) m.2 as
theorem WfC.up {B : BookD} {hs : List (Str × Str)} : ∀ {n : Nat} {k : Str} {a : Ans}, WfC B hs n k a → WfC B hs (n + 1) k a
  | 0, _, _, h => h.elim
  | n + 1, k, a, h => by
    rcases h with h | h | ⟨q, hq, m, hm, as, e1, e2, e3, h⟩
    · exact .inl h
    · exact .inr (.inl h)
    · exact .inr (.inr ⟨q, hq, m, hm, as, e1, e2, e3, h.mono fun _ _ z => WfC.up z⟩)
theorem WfC.mono {B : BookD} {hs : List (Str × Str)} {n : Nat} {k : Str} {a : Ans} (h : WfC B hs n k a) : ∀ {m : Nat}, n ≤ m → WfC B hs m k a
  | 0, hm => by
    have : n = 0 := by omega
    rw [this] at h; exact h
  | m + 1, hm => by
    by_cases e : n = m + 1
    · rw [← e]; exact h
    · exact (WfC.mono h (m := m) (by omega)).up
mutual
def anTH : Ans → TH
  | .num z => .tup [.str "num", .num z]
  | .held n => .tup [.str "held", .str n]
  | .mk m as => .tup [.str "make", .str m, .tup (anTHs as)]
def anTHs : List Ans → List TH
  | [] => []
  | a :: r => anTH a :: anTHs r
end
mutual
theorem AnsAt.th {H : Hp} : ∀ {v : V} {a : Ans}, AnsAt H v a → ThAt H v (anTH a)
  | _, _, .num h => by unfold anTH; exact .tup h (.cons (.str _) (.cons (.num _) .nil))
  | _, _, .held h => by unfold anTH; exact .tup h (.cons (.str _) (.cons (.str _) .nil))
  | _, _, .mk h1 h2 t => by unfold anTH; exact .tup h1 (.cons (.str _) (.cons (.str _) (.cons (.tup h2 (AnssAt.th t)) .nil)))
theorem AnssAt.th {H : Hp} : ∀ {vs : List V} {as : List Ans}, AnssAt H vs as → ThsAt H vs (anTHs as)
  | _, _, .nil => by unfold anTHs; exact .nil
  | _, _, .cons h t => by unfold anTHs; exact .cons (AnsAt.th h) (AnssAt.th t)
end
end Bk

set_option Elab.async false
set_option linter.all false
set_option maxRecDepth 100000
set_option maxHeartbeats 4000000
namespace My
open PySem PySem.Spec PyProof.Rows L2 Bk
def top (i : Nat) : Stmt := PySem.Challenge.pw_shapecourt_k02_refusals_apart.main.body.getD i (.Pass ⟨0, 0, 0, 0⟩)
abbrev s_Changes_init : Stmt := inClass (top 4) 0
theorem sc_Changes_init : FnScope ["self", "value"] ["self", "value"] (defScope s_Changes_init) := ⟨rfl, rfl, rfl, by decide +kernel, rfl, by decide +kernel, by decide +kernel⟩
abbrev s_law_kinds : Stmt := top 10
theorem sc_law_kinds : FnScope ["thing", "kinds"] ["thing"] (defScope s_law_kinds) := ⟨rfl, rfl, rfl, by decide +kernel, rfl, by decide +kernel, by decide +kernel⟩
abbrev s_law_value : Stmt := top 11
theorem sc_law_value : FnScope ["cell", "number", "value", "k"] ["cell"] (defScope s_law_value) := ⟨rfl, rfl, rfl, by decide +kernel, rfl, by decide +kernel, by decide +kernel⟩
abbrev s_law : Stmt := top 12
theorem sc_law : FnScope ["script", "cell", "words", "value", "some", "k", "other"] ["script"] (defScope s_law) := ⟨rfl, rfl, rfl, by decide +kernel, rfl, by decide +kernel, by decide +kernel⟩
theorem db_self : (("self" : Str) == ("__debug__" : Str)) = false := by decide +kernel
theorem cd_self : (("self" : Str) == ("__classdict__" : Str)) = false := by decide +kernel
theorem db_value : (("value" : Str) == ("__debug__" : Str)) = false := by decide +kernel
theorem cd_value : (("value" : Str) == ("__classdict__" : Str)) = false := by decide +kernel
theorem db_CourtError : (("CourtError" : Str) == ("__debug__" : Str)) = false := by decide +kernel
theorem v_Changes_init_self : Vis (defScope s_Changes_init) "self" := by first | exact Or.inl (by decide +kernel) | exact Or.inr (Or.inl (by decide +kernel))
theorem v_Changes_init_value : Vis (defScope s_Changes_init) "value" := by first | exact Or.inl (by decide +kernel) | exact Or.inr (Or.inl (by decide +kernel))
theorem g_Changes_init_CourtError : (defScope s_Changes_init).names.lookup ("CourtError" : Str) = some NameKind.globalImplicit := by decide +kernel
theorem db_thing : (("thing" : Str) == ("__debug__" : Str)) = false := by decide +kernel
theorem cd_thing : (("thing" : Str) == ("__classdict__" : Str)) = false := by decide +kernel
theorem db_kinds : (("kinds" : Str) == ("__debug__" : Str)) = false := by decide +kernel
theorem cd_kinds : (("kinds" : Str) == ("__classdict__" : Str)) = false := by decide +kernel
theorem db_isinstance : (("isinstance" : Str) == ("__debug__" : Str)) = false := by decide +kernel
theorem nn_isinstance : ("isinstance" : Str) ≠ "__name__" := by decide +kernel
theorem db_NoRow : (("NoRow" : Str) == ("__debug__" : Str)) = false := by decide +kernel
theorem db_TooMany : (("TooMany" : Str) == ("__debug__" : Str)) = false := by decide +kernel
theorem db_NoMerge : (("NoMerge" : Str) == ("__debug__" : Str)) = false := by decide +kernel
theorem db_Changes : (("Changes" : Str) == ("__debug__" : Str)) = false := by decide +kernel
theorem db_NoText : (("NoText" : Str) == ("__debug__" : Str)) = false := by decide +kernel
theorem db_NoName : (("NoName" : Str) == ("__debug__" : Str)) = false := by decide +kernel
theorem db_NoDeed : (("NoDeed" : Str) == ("__debug__" : Str)) = false := by decide +kernel
theorem v_law_kinds_thing : Vis (defScope s_law_kinds) "thing" := by first | exact Or.inl (by decide +kernel) | exact Or.inr (Or.inl (by decide +kernel))
theorem v_law_kinds_kinds : Vis (defScope s_law_kinds) "kinds" := by first | exact Or.inl (by decide +kernel) | exact Or.inr (Or.inl (by decide +kernel))
theorem l_law_kinds_kinds : Loc (defScope s_law_kinds) "kinds" := by first | exact Or.inl (by decide +kernel) | exact Or.inr (by decide +kernel)
theorem g_law_kinds_isinstance : (defScope s_law_kinds).names.lookup ("isinstance" : Str) = some NameKind.globalImplicit := by decide +kernel
theorem bt_isinstance : bootBuiltins "isinstance" = some (.builtin "isinstance") := by decide +kernel
theorem g_law_kinds_NoRow : (defScope s_law_kinds).names.lookup ("NoRow" : Str) = some NameKind.globalImplicit := by decide +kernel
theorem g_law_kinds_TooMany : (defScope s_law_kinds).names.lookup ("TooMany" : Str) = some NameKind.globalImplicit := by decide +kernel
theorem g_law_kinds_NoMerge : (defScope s_law_kinds).names.lookup ("NoMerge" : Str) = some NameKind.globalImplicit := by decide +kernel
theorem g_law_kinds_Changes : (defScope s_law_kinds).names.lookup ("Changes" : Str) = some NameKind.globalImplicit := by decide +kernel
theorem g_law_kinds_NoText : (defScope s_law_kinds).names.lookup ("NoText" : Str) = some NameKind.globalImplicit := by decide +kernel
theorem g_law_kinds_NoName : (defScope s_law_kinds).names.lookup ("NoName" : Str) = some NameKind.globalImplicit := by decide +kernel
theorem g_law_kinds_NoDeed : (defScope s_law_kinds).names.lookup ("NoDeed" : Str) = some NameKind.globalImplicit := by decide +kernel
theorem db_cell : (("cell" : Str) == ("__debug__" : Str)) = false := by decide +kernel
theorem cd_cell : (("cell" : Str) == ("__classdict__" : Str)) = false := by decide +kernel
theorem db_number : (("number" : Str) == ("__debug__" : Str)) = false := by decide +kernel
theorem cd_number : (("number" : Str) == ("__classdict__" : Str)) = false := by decide +kernel
theorem db_k : (("k" : Str) == ("__debug__" : Str)) = false := by decide +kernel
theorem cd_k : (("k" : Str) == ("__classdict__" : Str)) = false := by decide +kernel
theorem v_law_value_cell : Vis (defScope s_law_value) "cell" := by first | exact Or.inl (by decide +kernel) | exact Or.inr (Or.inl (by decide +kernel))
theorem v_law_value_number : Vis (defScope s_law_value) "number" := by first | exact Or.inl (by decide +kernel) | exact Or.inr (Or.inl (by decide +kernel))
theorem l_law_value_number : Loc (defScope s_law_value) "number" := by first | exact Or.inl (by decide +kernel) | exact Or.inr (by decide +kernel)
theorem v_law_value_value : Vis (defScope s_law_value) "value" := by first | exact Or.inl (by decide +kernel) | exact Or.inr (Or.inl (by decide +kernel))
theorem l_law_value_value : Loc (defScope s_law_value) "value" := by first | exact Or.inl (by decide +kernel) | exact Or.inr (by decide +kernel)
theorem v_law_value_k : Vis (defScope s_law_value) "k" := by first | exact Or.inl (by decide +kernel) | exact Or.inr (Or.inl (by decide +kernel))
theorem l_law_value_k : Loc (defScope s_law_value) "k" := by first | exact Or.inl (by decide +kernel) | exact Or.inr (by decide +kernel)
theorem g_law_value_range : (defScope s_law_value).names.lookup ("range" : Str) = some NameKind.globalImplicit := by decide +kernel
theorem db_script : (("script" : Str) == ("__debug__" : Str)) = false := by decide +kernel
theorem cd_script : (("script" : Str) == ("__classdict__" : Str)) = false := by decide +kernel
theorem db_words : (("words" : Str) == ("__debug__" : Str)) = false := by decide +kernel
theorem cd_words : (("words" : Str) == ("__classdict__" : Str)) = false := by decide +kernel
theorem db_some : (("some" : Str) == ("__debug__" : Str)) = false := by decide +kernel
theorem cd_some : (("some" : Str) == ("__classdict__" : Str)) = false := by decide +kernel
theorem db_law_value : (("_law_value" : Str) == ("__debug__" : Str)) = false := by decide +kernel
theorem cd_law_value : (("_law_value" : Str) == ("__classdict__" : Str)) = false := by decide +kernel
theorem db_len : (("len" : Str) == ("__debug__" : Str)) = false := by decide +kernel
theorem nn_len : ("len" : Str) ≠ "__name__" := by decide +kernel
theorem db_law_kinds : (("_law_kinds" : Str) == ("__debug__" : Str)) = false := by decide +kernel
theorem cd_law_kinds : (("_law_kinds" : Str) == ("__classdict__" : Str)) = false := by decide +kernel
theorem db_ValueError : (("ValueError" : Str) == ("__debug__" : Str)) = false := by decide +kernel
theorem nn_ValueError : ("ValueError" : Str) ≠ "__name__" := by decide +kernel
theorem v_law_script : Vis (defScope s_law) "script" := by first | exact Or.inl (by decide +kernel) | exact Or.inr (Or.inl (by decide +kernel))
theorem v_law_cell : Vis (defScope s_law) "cell" := by first | exact Or.inl (by decide +kernel) | exact Or.inr (Or.inl (by decide +kernel))
theorem l_law_cell : Loc (defScope s_law) "cell" := by first | exact Or.inl (by decide +kernel) | exact Or.inr (by decide +kernel)
theorem v_law_words : Vis (defScope s_law) "words" := by first | exact Or.inl (by decide +kernel) | exact Or.inr (Or.inl (by decide +kernel))
theorem l_law_words : Loc (defScope s_law) "words" := by first | exact Or.inl (by decide +kernel) | exact Or.inr (by decide +kernel)
theorem v_law_value : Vis (defScope s_law) "value" := by first | exact Or.inl (by decide +kernel) | exact Or.inr (Or.inl (by decide +kernel))
theorem l_law_value : Loc (defScope s_law) "value" := by first | exact Or.inl (by decide +kernel) | exact Or.inr (by decide +kernel)
theorem v_law_some : Vis (defScope s_law) "some" := by first | exact Or.inl (by decide +kernel) | exact Or.inr (Or.inl (by decide +kernel))
theorem l_law_some : Loc (defScope s_law) "some" := by first | exact Or.inl (by decide +kernel) | exact Or.inr (by decide +kernel)
theorem v_law_k : Vis (defScope s_law) "k" := by first | exact Or.inl (by decide +kernel) | exact Or.inr (Or.inl (by decide +kernel))
theorem l_law_k : Loc (defScope s_law) "k" := by first | exact Or.inl (by decide +kernel) | exact Or.inr (by decide +kernel)
theorem g_law_law_value : (defScope s_law).names.lookup ("_law_value" : Str) = some NameKind.globalImplicit := by decide +kernel
theorem g_law_range : (defScope s_law).names.lookup ("range" : Str) = some NameKind.globalImplicit := by decide +kernel
theorem g_law_NoRow : (defScope s_law).names.lookup ("NoRow" : Str) = some NameKind.globalImplicit := by decide +kernel
theorem g_law_TooMany : (defScope s_law).names.lookup ("TooMany" : Str) = some NameKind.globalImplicit := by decide +kernel
theorem g_law_NoMerge : (defScope s_law).names.lookup ("NoMerge" : Str) = some NameKind.globalImplicit := by decide +kernel
theorem g_law_NoText : (defScope s_law).names.lookup ("NoText" : Str) = some NameKind.globalImplicit := by decide +kernel
theorem g_law_NoName : (defScope s_law).names.lookup ("NoName" : Str) = some NameKind.globalImplicit := by decide +kernel
theorem g_law_NoDeed : (defScope s_law).names.lookup ("NoDeed" : Str) = some NameKind.globalImplicit := by decide +kernel
theorem g_law_Changes : (defScope s_law).names.lookup ("Changes" : Str) = some NameKind.globalImplicit := by decide +kernel
theorem g_law_len : (defScope s_law).names.lookup ("len" : Str) = some NameKind.globalImplicit := by decide +kernel
theorem bt_len : bootBuiltins "len" = some (.builtin "len") := by decide +kernel
theorem g_law_law_kinds : (defScope s_law).names.lookup ("_law_kinds" : Str) = some NameKind.globalImplicit := by decide +kernel
theorem g_law_isinstance : (defScope s_law).names.lookup ("isinstance" : Str) = some NameKind.globalImplicit := by decide +kernel
theorem g_law_CourtError : (defScope s_law).names.lookup ("CourtError" : Str) = some NameKind.globalImplicit := by decide +kernel
theorem g_law_ValueError : (defScope s_law).names.lookup ("ValueError" : Str) = some NameKind.globalImplicit := by decide +kernel
theorem bt_ValueError : bootBuiltins "ValueError" = some (.type "ValueError") := by decide +kernel
structure Adr where
  c_CourtError : Addr
  c_NoRow : Addr
  c_TooMany : Addr
  c_Changes : Addr
  c_NoMerge : Addr
  c_NoText : Addr
  c_NoName : Addr
  c_NoDeed : Addr
  f_Changes_init : Addr
  d_Changes_init : FuncData
  f_law_kinds : Addr
  d_law_kinds : FuncData
  f_law_value : Addr
  d_law_value : FuncData
  f_law : Addr
  d_law : FuncData
structure Txt (K : PySem.W.Frag) (mg : Str → Option Value) (t : Adr) : Prop where
  mg_CourtError : mg "CourtError" = some (.ref t.c_CourtError)
  bi_CourtError : initB K t.c_CourtError = true
  mg_NoRow : mg "NoRow" = some (.ref t.c_NoRow)
  kk_NoRow : PySem.W.keepIn K (.ref t.c_NoRow) = true
  ex_NoRow : PySem.W.excIn K t.c_NoRow bmV "ValueError.__new__" = true
  xk_NoRow : ExcK K t.c_NoRow
  ki_NoRow_CourtError : PySem.W.kitOne K (.ref t.c_NoRow) (.ref t.c_CourtError) = some true
  ki_NoRow_NoRow : PySem.W.kitOne K (.ref t.c_NoRow) (.ref t.c_NoRow) = some true
  ki_NoRow_TooMany : PySem.W.kitOne K (.ref t.c_NoRow) (.ref t.c_TooMany) = some false
  ki_NoRow_Changes : PySem.W.kitOne K (.ref t.c_NoRow) (.ref t.c_Changes) = some false
  ki_NoRow_NoMerge : PySem.W.kitOne K (.ref t.c_NoRow) (.ref t.c_NoMerge) = some false
  ki_NoRow_NoText : PySem.W.kitOne K (.ref t.c_NoRow) (.ref t.c_NoText) = some false
  ki_NoRow_NoName : PySem.W.kitOne K (.ref t.c_NoRow) (.ref t.c_NoName) = some false
  ki_NoRow_NoDeed : PySem.W.kitOne K (.ref t.c_NoRow) (.ref t.c_NoDeed) = some false
  kv_NoRow : PySem.W.kitOne K (.ref t.c_NoRow) (.type "ValueError") = some true
  mg_TooMany : mg "TooMany" = some (.ref t.c_TooMany)
  kk_TooMany : PySem.W.keepIn K (.ref t.c_TooMany) = true
  ex_TooMany : PySem.W.excIn K t.c_TooMany bmV "ValueError.__new__" = true
  xk_TooMany : ExcK K t.c_TooMany
  ki_TooMany_CourtError : PySem.W.kitOne K (.ref t.c_TooMany) (.ref t.c_CourtError) = some true
  ki_TooMany_NoRow : PySem.W.kitOne K (.ref t.c_TooMany) (.ref t.c_NoRow) = some false
  ki_TooMany_TooMany : PySem.W.kitOne K (.ref t.c_TooMany) (.ref t.c_TooMany) = some true
  ki_TooMany_Changes : PySem.W.kitOne K (.ref t.c_TooMany) (.ref t.c_Changes) = some false
  ki_TooMany_NoMerge : PySem.W.kitOne K (.ref t.c_TooMany) (.ref t.c_NoMerge) = some false
  ki_TooMany_NoText : PySem.W.kitOne K (.ref t.c_TooMany) (.ref t.c_NoText) = some false
  ki_TooMany_NoName : PySem.W.kitOne K (.ref t.c_TooMany) (.ref t.c_NoName) = some false
  ki_TooMany_NoDeed : PySem.W.kitOne K (.ref t.c_TooMany) (.ref t.c_NoDeed) = some false
  kv_TooMany : PySem.W.kitOne K (.ref t.c_TooMany) (.type "ValueError") = some true
  mg_Changes : mg "Changes" = some (.ref t.c_Changes)
  kk_Changes : PySem.W.keepIn K (.ref t.c_Changes) = true
  ex_Changes : excInI K t.c_Changes bmV "ValueError.__new__" = true
  xk_Changes : ExcK K t.c_Changes
  in_Changes : PySem.W.findIn K (.ref t.c_Changes) "__init__" = some (some (.ref t.f_Changes_init))
  fi_Changes : PySem.W.isFn K (.ref t.f_Changes_init) = true
  sb_Changes_value : setB K t.c_Changes "value" = true
  gb_Changes_value : getB K t.c_Changes "value" = true
  ki_Changes_CourtError : PySem.W.kitOne K (.ref t.c_Changes) (.ref t.c_CourtError) = some true
  ki_Changes_NoRow : PySem.W.kitOne K (.ref t.c_Changes) (.ref t.c_NoRow) = some false
  ki_Changes_TooMany : PySem.W.kitOne K (.ref t.c_Changes) (.ref t.c_TooMany) = some false
  ki_Changes_Changes : PySem.W.kitOne K (.ref t.c_Changes) (.ref t.c_Changes) = some true
  ki_Changes_NoMerge : PySem.W.kitOne K (.ref t.c_Changes) (.ref t.c_NoMerge) = some false
  ki_Changes_NoText : PySem.W.kitOne K (.ref t.c_Changes) (.ref t.c_NoText) = some false
  ki_Changes_NoName : PySem.W.kitOne K (.ref t.c_Changes) (.ref t.c_NoName) = some false
  ki_Changes_NoDeed : PySem.W.kitOne K (.ref t.c_Changes) (.ref t.c_NoDeed) = some false
  kv_Changes : PySem.W.kitOne K (.ref t.c_Changes) (.type "ValueError") = some true
  mg_NoMerge : mg "NoMerge" = some (.ref t.c_NoMerge)
  kk_NoMerge : PySem.W.keepIn K (.ref t.c_NoMerge) = true
  ex_NoMerge : PySem.W.excIn K t.c_NoMerge bmV "ValueError.__new__" = true
  xk_NoMerge : ExcK K t.c_NoMerge
  ki_NoMerge_CourtError : PySem.W.kitOne K (.ref t.c_NoMerge) (.ref t.c_CourtError) = some true
  ki_NoMerge_NoRow : PySem.W.kitOne K (.ref t.c_NoMerge) (.ref t.c_NoRow) = some false
  ki_NoMerge_TooMany : PySem.W.kitOne K (.ref t.c_NoMerge) (.ref t.c_TooMany) = some false
  ki_NoMerge_Changes : PySem.W.kitOne K (.ref t.c_NoMerge) (.ref t.c_Changes) = some false
  ki_NoMerge_NoMerge : PySem.W.kitOne K (.ref t.c_NoMerge) (.ref t.c_NoMerge) = some true
  ki_NoMerge_NoText : PySem.W.kitOne K (.ref t.c_NoMerge) (.ref t.c_NoText) = some false
  ki_NoMerge_NoName : PySem.W.kitOne K (.ref t.c_NoMerge) (.ref t.c_NoName) = some false
  ki_NoMerge_NoDeed : PySem.W.kitOne K (.ref t.c_NoMerge) (.ref t.c_NoDeed) = some false
  kv_NoMerge : PySem.W.kitOne K (.ref t.c_NoMerge) (.type "ValueError") = some true
  mg_NoText : mg "NoText" = some (.ref t.c_NoText)
  kk_NoText : PySem.W.keepIn K (.ref t.c_NoText) = true
  ex_NoText : PySem.W.excIn K t.c_NoText bmV "ValueError.__new__" = true
  xk_NoText : ExcK K t.c_NoText
  ki_NoText_CourtError : PySem.W.kitOne K (.ref t.c_NoText) (.ref t.c_CourtError) = some true
  ki_NoText_NoRow : PySem.W.kitOne K (.ref t.c_NoText) (.ref t.c_NoRow) = some false
  ki_NoText_TooMany : PySem.W.kitOne K (.ref t.c_NoText) (.ref t.c_TooMany) = some false
  ki_NoText_Changes : PySem.W.kitOne K (.ref t.c_NoText) (.ref t.c_Changes) = some false
  ki_NoText_NoMerge : PySem.W.kitOne K (.ref t.c_NoText) (.ref t.c_NoMerge) = some false
  ki_NoText_NoText : PySem.W.kitOne K (.ref t.c_NoText) (.ref t.c_NoText) = some true
  ki_NoText_NoName : PySem.W.kitOne K (.ref t.c_NoText) (.ref t.c_NoName) = some false
  ki_NoText_NoDeed : PySem.W.kitOne K (.ref t.c_NoText) (.ref t.c_NoDeed) = some false
  kv_NoText : PySem.W.kitOne K (.ref t.c_NoText) (.type "ValueError") = some true
  mg_NoName : mg "NoName" = some (.ref t.c_NoName)
  kk_NoName : PySem.W.keepIn K (.ref t.c_NoName) = true
  ex_NoName : PySem.W.excIn K t.c_NoName bmV "ValueError.__new__" = true
  xk_NoName : ExcK K t.c_NoName
  ki_NoName_CourtError : PySem.W.kitOne K (.ref t.c_NoName) (.ref t.c_CourtError) = some true
  ki_NoName_NoRow : PySem.W.kitOne K (.ref t.c_NoName) (.ref t.c_NoRow) = some false
  ki_NoName_TooMany : PySem.W.kitOne K (.ref t.c_NoName) (.ref t.c_TooMany) = some false
  ki_NoName_Changes : PySem.W.kitOne K (.ref t.c_NoName) (.ref t.c_Changes) = some false
  ki_NoName_NoMerge : PySem.W.kitOne K (.ref t.c_NoName) (.ref t.c_NoMerge) = some false
  ki_NoName_NoText : PySem.W.kitOne K (.ref t.c_NoName) (.ref t.c_NoText) = some false
  ki_NoName_NoName : PySem.W.kitOne K (.ref t.c_NoName) (.ref t.c_NoName) = some true
  ki_NoName_NoDeed : PySem.W.kitOne K (.ref t.c_NoName) (.ref t.c_NoDeed) = some false
  kv_NoName : PySem.W.kitOne K (.ref t.c_NoName) (.type "ValueError") = some true
  mg_NoDeed : mg "NoDeed" = some (.ref t.c_NoDeed)
  kk_NoDeed : PySem.W.keepIn K (.ref t.c_NoDeed) = true
  ex_NoDeed : PySem.W.excIn K t.c_NoDeed bmV "ValueError.__new__" = true
  xk_NoDeed : ExcK K t.c_NoDeed
  ki_NoDeed_CourtError : PySem.W.kitOne K (.ref t.c_NoDeed) (.ref t.c_CourtError) = some true
  ki_NoDeed_NoRow : PySem.W.kitOne K (.ref t.c_NoDeed) (.ref t.c_NoRow) = some false
  ki_NoDeed_TooMany : PySem.W.kitOne K (.ref t.c_NoDeed) (.ref t.c_TooMany) = some false
  ki_NoDeed_Changes : PySem.W.kitOne K (.ref t.c_NoDeed) (.ref t.c_Changes) = some false
  ki_NoDeed_NoMerge : PySem.W.kitOne K (.ref t.c_NoDeed) (.ref t.c_NoMerge) = some false
  ki_NoDeed_NoText : PySem.W.kitOne K (.ref t.c_NoDeed) (.ref t.c_NoText) = some false
  ki_NoDeed_NoName : PySem.W.kitOne K (.ref t.c_NoDeed) (.ref t.c_NoName) = some false
  ki_NoDeed_NoDeed : PySem.W.kitOne K (.ref t.c_NoDeed) (.ref t.c_NoDeed) = some true
  kv_NoDeed : PySem.W.kitOne K (.ref t.c_NoDeed) (.type "ValueError") = some true
  F_Changes_init : Fun K "__init__" "Changes.__init__" s_Changes_init t.f_Changes_init t.d_Changes_init
  b_Changes_init : Binds K t.d_Changes_init ["self", "value"] []
  F_law_kinds : Fun K "_law_kinds" "_law_kinds" s_law_kinds t.f_law_kinds t.d_law_kinds
  m_law_kinds : mg "_law_kinds" = some (.ref t.f_law_kinds)
  b_law_kinds : Binds K t.d_law_kinds ["thing"] []
  F_law_value : Fun K "_law_value" "_law_value" s_law_value t.f_law_value t.d_law_value
  m_law_value : mg "_law_value" = some (.ref t.f_law_value)
  b_law_value : Binds K t.d_law_value ["cell"] []
  F_law : Fun K "law" "law" s_law t.f_law t.d_law
  m_law : mg "law" = some (.ref t.f_law)
  b_law : Binds K t.d_law ["script"] []
  z_isinstance : mg "isinstance" = none
  z_range : mg "range" = none
  z_len : mg "len" = none
  z_ValueError : mg "ValueError" = none
  bind_law : ∀ (s : Shared) (u : Value), BindsTo s t.d_law ⟨[u], []⟩ [("script", u)]
theorem txt_mk {K : PySem.W.Frag} {h : Heap} {mg : Str → Option Value} (X : K.In h) (G : h.Ns mainGlobals mg)
    {c_CourtError : Addr} (aC_CourtError : PySem.W.nsIn K mainGlobals "CourtError" = some (some (.ref c_CourtError)))
    {c_NoRow : Addr} (aC_NoRow : PySem.W.nsIn K mainGlobals "NoRow" = some (some (.ref c_NoRow)))
    {c_TooMany : Addr} (aC_TooMany : PySem.W.nsIn K mainGlobals "TooMany" = some (some (.ref c_TooMany)))
    {c_Changes : Addr} (aC_Changes : PySem.W.nsIn K mainGlobals "Changes" = some (some (.ref c_Changes)))
    {c_NoMerge : Addr} (aC_NoMerge : PySem.W.nsIn K mainGlobals "NoMerge" = some (some (.ref c_NoMerge)))
    {c_NoText : Addr} (aC_NoText : PySem.W.nsIn K mainGlobals "NoText" = some (some (.ref c_NoText)))
    {c_NoName : Addr} (aC_NoName : PySem.W.nsIn K mainGlobals "NoName" = some (some (.ref c_NoName)))
    {c_NoDeed : Addr} (aC_NoDeed : PySem.W.nsIn K mainGlobals "NoDeed" = some (some (.ref c_NoDeed)))
    (bi_CourtError : initB K c_CourtError = true)
    (kk_NoRow : PySem.W.keepIn K (.ref c_NoRow) = true) (ex_NoRow : PySem.W.excIn K c_NoRow bmV "ValueError.__new__" = true) (xk_NoRow : excKb K c_NoRow = true)
    (ki_NoRow_CourtError : PySem.W.kitOne K (.ref c_NoRow) (.ref c_CourtError) = some true)
    (ki_NoRow_NoRow : PySem.W.kitOne K (.ref c_NoRow) (.ref c_NoRow) = some true)
    (ki_NoRow_TooMany : PySem.W.kitOne K (.ref c_NoRow) (.ref c_TooMany) = some false)
    (ki_NoRow_Changes : PySem.W.kitOne K (.ref c_NoRow) (.ref c_Changes) = some false)
    (ki_NoRow_NoMerge : PySem.W.kitOne K (.ref c_NoRow) (.ref c_NoMerge) = some false)
    (ki_NoRow_NoText : PySem.W.kitOne K (.ref c_NoRow) (.ref c_NoText) = some false)
    (ki_NoRow_NoName : PySem.W.kitOne K (.ref c_NoRow) (.ref c_NoName) = some false)
    (ki_NoRow_NoDeed : PySem.W.kitOne K (.ref c_NoRow) (.ref c_NoDeed) = some false)
    (kv_NoRow : PySem.W.kitOne K (.ref c_NoRow) (.type "ValueError") = some true)
    (kk_TooMany : PySem.W.keepIn K (.ref c_TooMany) = true) (ex_TooMany : PySem.W.excIn K c_TooMany bmV "ValueError.__new__" = true) (xk_TooMany : excKb K c_TooMany = true)
    (ki_TooMany_CourtError : PySem.W.kitOne K (.ref c_TooMany) (.ref c_CourtError) = some true)
    (ki_TooMany_NoRow : PySem.W.kitOne K (.ref c_TooMany) (.ref c_NoRow) = some false)
    (ki_TooMany_TooMany : PySem.W.kitOne K (.ref c_TooMany) (.ref c_TooMany) = some true)
    (ki_TooMany_Changes : PySem.W.kitOne K (.ref c_TooMany) (.ref c_Changes) = some false)
    (ki_TooMany_NoMerge : PySem.W.kitOne K (.ref c_TooMany) (.ref c_NoMerge) = some false)
    (ki_TooMany_NoText : PySem.W.kitOne K (.ref c_TooMany) (.ref c_NoText) = some false)
    (ki_TooMany_NoName : PySem.W.kitOne K (.ref c_TooMany) (.ref c_NoName) = some false)
    (ki_TooMany_NoDeed : PySem.W.kitOne K (.ref c_TooMany) (.ref c_NoDeed) = some false)
    (kv_TooMany : PySem.W.kitOne K (.ref c_TooMany) (.type "ValueError") = some true)
    (kk_Changes : PySem.W.keepIn K (.ref c_Changes) = true) (ex_Changes : excInI K c_Changes bmV "ValueError.__new__" = true) (xk_Changes : excKb K c_Changes = true)
    (sb_Changes_value : setB K c_Changes "value" = true) (gb_Changes_value : getB K c_Changes "value" = true)
    (ki_Changes_CourtError : PySem.W.kitOne K (.ref c_Changes) (.ref c_CourtError) = some true)
    (ki_Changes_NoRow : PySem.W.kitOne K (.ref c_Changes) (.ref c_NoRow) = some false)
    (ki_Changes_TooMany : PySem.W.kitOne K (.ref c_Changes) (.ref c_TooMany) = some false)
    (ki_Changes_Changes : PySem.W.kitOne K (.ref c_Changes) (.ref c_Changes) = some true)
    (ki_Changes_NoMerge : PySem.W.kitOne K (.ref c_Changes) (.ref c_NoMerge) = some false)
    (ki_Changes_NoText : PySem.W.kitOne K (.ref c_Changes) (.ref c_NoText) = some false)
    (ki_Changes_NoName : PySem.W.kitOne K (.ref c_Changes) (.ref c_NoName) = some false)
    (ki_Changes_NoDeed : PySem.W.kitOne K (.ref c_Changes) (.ref c_NoDeed) = some false)
    (kv_Changes : PySem.W.kitOne K (.ref c_Changes) (.type "ValueError") = some true)
    (kk_NoMerge : PySem.W.keepIn K (.ref c_NoMerge) = true) (ex_NoMerge : PySem.W.excIn K c_NoMerge bmV "ValueError.__new__" = true) (xk_NoMerge : excKb K c_NoMerge = true)
    (ki_NoMerge_CourtError : PySem.W.kitOne K (.ref c_NoMerge) (.ref c_CourtError) = some true)
    (ki_NoMerge_NoRow : PySem.W.kitOne K (.ref c_NoMerge) (.ref c_NoRow) = some false)
    (ki_NoMerge_TooMany : PySem.W.kitOne K (.ref c_NoMerge) (.ref c_TooMany) = some false)
    (ki_NoMerge_Changes : PySem.W.kitOne K (.ref c_NoMerge) (.ref c_Changes) = some false)
    (ki_NoMerge_NoMerge : PySem.W.kitOne K (.ref c_NoMerge) (.ref c_NoMerge) = some true)
    (ki_NoMerge_NoText : PySem.W.kitOne K (.ref c_NoMerge) (.ref c_NoText) = some false)
    (ki_NoMerge_NoName : PySem.W.kitOne K (.ref c_NoMerge) (.ref c_NoName) = some false)
    (ki_NoMerge_NoDeed : PySem.W.kitOne K (.ref c_NoMerge) (.ref c_NoDeed) = some false)
    (kv_NoMerge : PySem.W.kitOne K (.ref c_NoMerge) (.type "ValueError") = some true)
    (kk_NoText : PySem.W.keepIn K (.ref c_NoText) = true) (ex_NoText : PySem.W.excIn K c_NoText bmV "ValueError.__new__" = true) (xk_NoText : excKb K c_NoText = true)
    (ki_NoText_CourtError : PySem.W.kitOne K (.ref c_NoText) (.ref c_CourtError) = some true)
    (ki_NoText_NoRow : PySem.W.kitOne K (.ref c_NoText) (.ref c_NoRow) = some false)
    (ki_NoText_TooMany : PySem.W.kitOne K (.ref c_NoText) (.ref c_TooMany) = some false)
    (ki_NoText_Changes : PySem.W.kitOne K (.ref c_NoText) (.ref c_Changes) = some false)
    (ki_NoText_NoMerge : PySem.W.kitOne K (.ref c_NoText) (.ref c_NoMerge) = some false)
    (ki_NoText_NoText : PySem.W.kitOne K (.ref c_NoText) (.ref c_NoText) = some true)
    (ki_NoText_NoName : PySem.W.kitOne K (.ref c_NoText) (.ref c_NoName) = some false)
    (ki_NoText_NoDeed : PySem.W.kitOne K (.ref c_NoText) (.ref c_NoDeed) = some false)
    (kv_NoText : PySem.W.kitOne K (.ref c_NoText) (.type "ValueError") = some true)
    (kk_NoName : PySem.W.keepIn K (.ref c_NoName) = true) (ex_NoName : PySem.W.excIn K c_NoName bmV "ValueError.__new__" = true) (xk_NoName : excKb K c_NoName = true)
    (ki_NoName_CourtError : PySem.W.kitOne K (.ref c_NoName) (.ref c_CourtError) = some true)
    (ki_NoName_NoRow : PySem.W.kitOne K (.ref c_NoName) (.ref c_NoRow) = some false)
    (ki_NoName_TooMany : PySem.W.kitOne K (.ref c_NoName) (.ref c_TooMany) = some false)
    (ki_NoName_Changes : PySem.W.kitOne K (.ref c_NoName) (.ref c_Changes) = some false)
    (ki_NoName_NoMerge : PySem.W.kitOne K (.ref c_NoName) (.ref c_NoMerge) = some false)
    (ki_NoName_NoText : PySem.W.kitOne K (.ref c_NoName) (.ref c_NoText) = some false)
    (ki_NoName_NoName : PySem.W.kitOne K (.ref c_NoName) (.ref c_NoName) = some true)
    (ki_NoName_NoDeed : PySem.W.kitOne K (.ref c_NoName) (.ref c_NoDeed) = some false)
    (kv_NoName : PySem.W.kitOne K (.ref c_NoName) (.type "ValueError") = some true)
    (kk_NoDeed : PySem.W.keepIn K (.ref c_NoDeed) = true) (ex_NoDeed : PySem.W.excIn K c_NoDeed bmV "ValueError.__new__" = true) (xk_NoDeed : excKb K c_NoDeed = true)
    (ki_NoDeed_CourtError : PySem.W.kitOne K (.ref c_NoDeed) (.ref c_CourtError) = some true)
    (ki_NoDeed_NoRow : PySem.W.kitOne K (.ref c_NoDeed) (.ref c_NoRow) = some false)
    (ki_NoDeed_TooMany : PySem.W.kitOne K (.ref c_NoDeed) (.ref c_TooMany) = some false)
    (ki_NoDeed_Changes : PySem.W.kitOne K (.ref c_NoDeed) (.ref c_Changes) = some false)
    (ki_NoDeed_NoMerge : PySem.W.kitOne K (.ref c_NoDeed) (.ref c_NoMerge) = some false)
    (ki_NoDeed_NoText : PySem.W.kitOne K (.ref c_NoDeed) (.ref c_NoText) = some false)
    (ki_NoDeed_NoName : PySem.W.kitOne K (.ref c_NoDeed) (.ref c_NoName) = some false)
    (ki_NoDeed_NoDeed : PySem.W.kitOne K (.ref c_NoDeed) (.ref c_NoDeed) = some true)
    (kv_NoDeed : PySem.W.kitOne K (.ref c_NoDeed) (.type "ValueError") = some true)
    {f_Changes_init : Addr} {od_Changes_init an_Changes_init : Option Addr} {sl_Changes_init : Array (Option Value)} {oc_Changes_init kV_Changes_init dc_Changes_init pm_Changes_init cd_Changes_init ct_Changes_init : Value}
    (a_Changes_init : PySem.W.findIn K (.ref c_Changes) "__init__" = some (some (.ref f_Changes_init))) (i_Changes_init : PySem.W.isFn K (.ref f_Changes_init) = true)
    (l_Changes_init : K.lookup f_Changes_init = some ⟨oc_Changes_init, od_Changes_init, .func (PySem.W.fnOf "__init__" "Changes.__init__" (defArgs s_Changes_init) (defBody s_Changes_init) (defScope s_Changes_init) .none kV_Changes_init dc_Changes_init pm_Changes_init an_Changes_init cd_Changes_init ct_Changes_init), sl_Changes_init⟩) (k_Changes_init : PySem.W.codeIn K cd_Changes_init "Changes.__init__" = true) (e_Changes_init : PySem.W.keepIn K (.ref f_Changes_init) = true)
    {f_law_kinds : Addr} {od_law_kinds an_law_kinds : Option Addr} {sl_law_kinds : Array (Option Value)} {oc_law_kinds kV_law_kinds dc_law_kinds pm_law_kinds cd_law_kinds ct_law_kinds : Value}
    (a_law_kinds : PySem.W.nsIn K mainGlobals "_law_kinds" = some (some (.ref f_law_kinds)))
    (l_law_kinds : K.lookup f_law_kinds = some ⟨oc_law_kinds, od_law_kinds, .func (PySem.W.fnOf "_law_kinds" "_law_kinds" (defArgs s_law_kinds) (defBody s_law_kinds) (defScope s_law_kinds) .none kV_law_kinds dc_law_kinds pm_law_kinds an_law_kinds cd_law_kinds ct_law_kinds), sl_law_kinds⟩) (k_law_kinds : PySem.W.codeIn K cd_law_kinds "_law_kinds" = true) (e_law_kinds : PySem.W.keepIn K (.ref f_law_kinds) = true)
    {f_law_value : Addr} {od_law_value an_law_value : Option Addr} {sl_law_value : Array (Option Value)} {oc_law_value kV_law_value dc_law_value pm_law_value cd_law_value ct_law_value : Value}
    (a_law_value : PySem.W.nsIn K mainGlobals "_law_value" = some (some (.ref f_law_value)))
    (l_law_value : K.lookup f_law_value = some ⟨oc_law_value, od_law_value, .func (PySem.W.fnOf "_law_value" "_law_value" (defArgs s_law_value) (defBody s_law_value) (defScope s_law_value) .none kV_law_value dc_law_value pm_law_value an_law_value cd_law_value ct_law_value), sl_law_value⟩) (k_law_value : PySem.W.codeIn K cd_law_value "_law_value" = true) (e_law_value : PySem.W.keepIn K (.ref f_law_value) = true)
    {f_law : Addr} {od_law an_law : Option Addr} {sl_law : Array (Option Value)} {oc_law kV_law dc_law pm_law cd_law ct_law : Value}
    (a_law : PySem.W.nsIn K mainGlobals "law" = some (some (.ref f_law)))
    (l_law : K.lookup f_law = some ⟨oc_law, od_law, .func (PySem.W.fnOf "law" "law" (defArgs s_law) (defBody s_law) (defScope s_law) .none kV_law dc_law pm_law an_law cd_law ct_law), sl_law⟩) (k_law : PySem.W.codeIn K cd_law "law" = true) (e_law : PySem.W.keepIn K (.ref f_law) = true)
    (z_isinstance : PySem.W.nsIn K mainGlobals "isinstance" = some none)
    (z_range : PySem.W.nsIn K mainGlobals "range" = some none)
    (z_len : PySem.W.nsIn K mainGlobals "len" = some none)
    (z_ValueError : PySem.W.nsIn K mainGlobals "ValueError" = some none) :
    ∃ t, Txt K mg t := by
  refine ⟨⟨c_CourtError, c_NoRow, c_TooMany, c_Changes, c_NoMerge, c_NoText, c_NoName, c_NoDeed, f_Changes_init, PySem.W.fnOf "__init__" "Changes.__init__" (defArgs s_Changes_init) (defBody s_Changes_init) (defScope s_Changes_init) .none kV_Changes_init dc_Changes_init pm_Changes_init an_Changes_init cd_Changes_init ct_Changes_init, f_law_kinds, PySem.W.fnOf "_law_kinds" "_law_kinds" (defArgs s_law_kinds) (defBody s_law_kinds) (defScope s_law_kinds) .none kV_law_kinds dc_law_kinds pm_law_kinds an_law_kinds cd_law_kinds ct_law_kinds, f_law_value, PySem.W.fnOf "_law_value" "_law_value" (defArgs s_law_value) (defBody s_law_value) (defScope s_law_value) .none kV_law_value dc_law_value pm_law_value an_law_value cd_law_value ct_law_value, f_law, PySem.W.fnOf "law" "law" (defArgs s_law) (defBody s_law) (defScope s_law) .none kV_law dc_law pm_law an_law cd_law ct_law⟩, ?_⟩
  have F_Changes_init := fun_mk (x := "__init__") (qual := "Changes.__init__") (st := s_Changes_init) l_Changes_init k_Changes_init e_Changes_init
  have b_Changes_init := F_Changes_init.binds (ps := ["self", "value"]) fun _ _ _ _ _ _ us hl => match us, hl with | [_, _], _ => rfl
  have F_law_kinds := fun_mk (x := "_law_kinds") (qual := "_law_kinds") (st := s_law_kinds) l_law_kinds k_law_kinds e_law_kinds
  have b_law_kinds := F_law_kinds.binds (ps := ["thing"]) fun _ _ _ _ _ _ us hl => match us, hl with | [_], _ => rfl
  have F_law_value := fun_mk (x := "_law_value") (qual := "_law_value") (st := s_law_value) l_law_value k_law_value e_law_value
  have b_law_value := F_law_value.binds (ps := ["cell"]) fun _ _ _ _ _ _ us hl => match us, hl with | [_], _ => rfl
  have F_law := fun_mk (x := "law") (qual := "law") (st := s_law) l_law k_law e_law
  have b_law := F_law.binds (ps := ["script"]) fun _ _ _ _ _ _ us hl => match us, hl with | [_], _ => rfl
  exact ⟨PySem.W.mg_of X G aC_CourtError, bi_CourtError, PySem.W.mg_of X G aC_NoRow, kk_NoRow, ex_NoRow, excK_of xk_NoRow, ki_NoRow_CourtError, ki_NoRow_NoRow, ki_NoRow_TooMany, ki_NoRow_Changes, ki_NoRow_NoMerge, ki_NoRow_NoText, ki_NoRow_NoName, ki_NoRow_NoDeed, kv_NoRow, PySem.W.mg_of X G aC_TooMany, kk_TooMany, ex_TooMany, excK_of xk_TooMany, ki_TooMany_CourtError, ki_TooMany_NoRow, ki_TooMany_TooMany, ki_TooMany_Changes, ki_TooMany_NoMerge, ki_TooMany_NoText, ki_TooMany_NoName, ki_TooMany_NoDeed, kv_TooMany, PySem.W.mg_of X G aC_Changes, kk_Changes, ex_Changes, excK_of xk_Changes, a_Changes_init, i_Changes_init, sb_Changes_value, gb_Changes_value, ki_Changes_CourtError, ki_Changes_NoRow, ki_Changes_TooMany, ki_Changes_Changes, ki_Changes_NoMerge, ki_Changes_NoText, ki_Changes_NoName, ki_Changes_NoDeed, kv_Changes, PySem.W.mg_of X G aC_NoMerge, kk_NoMerge, ex_NoMerge, excK_of xk_NoMerge, ki_NoMerge_CourtError, ki_NoMerge_NoRow, ki_NoMerge_TooMany, ki_NoMerge_Changes, ki_NoMerge_NoMerge, ki_NoMerge_NoText, ki_NoMerge_NoName, ki_NoMerge_NoDeed, kv_NoMerge, PySem.W.mg_of X G aC_NoText, kk_NoText, ex_NoText, excK_of xk_NoText, ki_NoText_CourtError, ki_NoText_NoRow, ki_NoText_TooMany, ki_NoText_Changes, ki_NoText_NoMerge, ki_NoText_NoText, ki_NoText_NoName, ki_NoText_NoDeed, kv_NoText, PySem.W.mg_of X G aC_NoName, kk_NoName, ex_NoName, excK_of xk_NoName, ki_NoName_CourtError, ki_NoName_NoRow, ki_NoName_TooMany, ki_NoName_Changes, ki_NoName_NoMerge, ki_NoName_NoText, ki_NoName_NoName, ki_NoName_NoDeed, kv_NoName, PySem.W.mg_of X G aC_NoDeed, kk_NoDeed, ex_NoDeed, excK_of xk_NoDeed, ki_NoDeed_CourtError, ki_NoDeed_NoRow, ki_NoDeed_TooMany, ki_NoDeed_Changes, ki_NoDeed_NoMerge, ki_NoDeed_NoText, ki_NoDeed_NoName, ki_NoDeed_NoDeed, kv_NoDeed, F_Changes_init, b_Changes_init, F_law_kinds, PySem.W.mg_of X G a_law_kinds, b_law_kinds, F_law_value, PySem.W.mg_of X G a_law_value, b_law_value, F_law, PySem.W.mg_of X G a_law, b_law, PySem.W.mg_none_of X G z_isinstance, PySem.W.mg_none_of X G z_range, PySem.W.mg_none_of X G z_len, PySem.W.mg_none_of X G z_ValueError, fun s u => .of_eq rfl⟩
end My

set_option Elab.async false
set_option linter.all false
set_option maxRecDepth 100000
set_option maxHeartbeats 4000000
namespace My
open PySem PySem.Spec PyProof.Rows L2 Bk
section
variable {P : Program} {w : World} {K : PySem.W.Frag} {mg : Str → Option Value} {base : Heap} {t : Adr}
abbrev names : List Str := []
/-- an own error of the class at C -/
def ErrIs (H : Hp) (a C : Addr) : Prop := H a = some (ErrO C a) ∨ ∃ dx fs, H a = some (ErrW C a dx) ∧ H dx = some (.xd fs)
theorem ErrIs.same {H H' : Hp} {a C : Addr} (h : ErrIs H a C) (s : Same H H') : ErrIs H' a C := by
  rcases h with h | ⟨dx, fs, h, e⟩
  · exact .inl (s _ _ h)
  · exact .inr ⟨dx, fs, s _ _ h, s _ _ e⟩
def clsAt (t : Adr) : Nat → Addr
  | 0 => t.c_NoRow
  | 1 => t.c_TooMany
  | 2 => t.c_NoMerge
  | 3 => t.c_NoText
  | 4 => t.c_NoName
  | 5 => t.c_NoDeed
  | _ => t.c_Changes
theorem six {k : Nat} (h : k < 7) : k = 0 ∨ k = 1 ∨ k = 2 ∨ k = 3 ∨ k = 4 ∨ k = 5 ∨ k = 6 := by omega
theorem xk_at (T : Txt K mg t) (k : Nat) (h : k < 7) : ExcK K (clsAt t k) := by
  rcases six h with rfl | rfl | rfl | rfl | rfl | rfl | rfl
  · exact T.xk_NoRow
  · exact T.xk_TooMany
  · exact T.xk_NoMerge
  · exact T.xk_NoText
  · exact T.xk_NoName
  · exact T.xk_NoDeed
  · exact T.xk_Changes
theorem kv_at (T : Txt K mg t) (k : Nat) (h : k < 7) : PySem.W.kitOne K (.ref (clsAt t k)) (.type "ValueError") = some true := by
  rcases six h with rfl | rfl | rfl | rfl | rfl | rfl | rfl
  · exact T.kv_NoRow
  · exact T.kv_TooMany
  · exact T.kv_NoMerge
  · exact T.kv_NoText
  · exact T.kv_NoName
  · exact T.kv_NoDeed
  · exact T.kv_Changes
theorem kc_at (T : Txt K mg t) (k : Nat) (h : k < 7) : PySem.W.kitOne K (.ref (clsAt t k)) (.ref t.c_CourtError) = some true := by
  rcases six h with rfl | rfl | rfl | rfl | rfl | rfl | rfl
  · exact T.ki_NoRow_CourtError
  · exact T.ki_TooMany_CourtError
  · exact T.ki_NoMerge_CourtError
  · exact T.ki_NoText_CourtError
  · exact T.ki_NoName_CourtError
  · exact T.ki_NoDeed_CourtError
  · exact T.ki_Changes_CourtError
theorem kk_at (T : Txt K mg t) (k j : Nat) (h : k < 7) (h2 : j < 7) : PySem.W.kitOne K (.ref (clsAt t k)) (.ref (clsAt t j)) = some (decide (j = k)) := by
  rcases six h with rfl | rfl | rfl | rfl | rfl | rfl | rfl <;> rcases six h2 with rfl | rfl | rfl | rfl | rfl | rfl | rfl
  · exact T.ki_NoRow_NoRow
  · exact T.ki_NoRow_TooMany
  · exact T.ki_NoRow_NoMerge
  · exact T.ki_NoRow_NoText
  · exact T.ki_NoRow_NoName
  · exact T.ki_NoRow_NoDeed
  · exact T.ki_NoRow_Changes
  · exact T.ki_TooMany_NoRow
  · exact T.ki_TooMany_TooMany
  · exact T.ki_TooMany_NoMerge
  · exact T.ki_TooMany_NoText
  · exact T.ki_TooMany_NoName
  · exact T.ki_TooMany_NoDeed
  · exact T.ki_TooMany_Changes
  · exact T.ki_NoMerge_NoRow
  · exact T.ki_NoMerge_TooMany
  · exact T.ki_NoMerge_NoMerge
  · exact T.ki_NoMerge_NoText
  · exact T.ki_NoMerge_NoName
  · exact T.ki_NoMerge_NoDeed
  · exact T.ki_NoMerge_Changes
  · exact T.ki_NoText_NoRow
  · exact T.ki_NoText_TooMany
  · exact T.ki_NoText_NoMerge
  · exact T.ki_NoText_NoText
  · exact T.ki_NoText_NoName
  · exact T.ki_NoText_NoDeed
  · exact T.ki_NoText_Changes
  · exact T.ki_NoName_NoRow
  · exact T.ki_NoName_TooMany
  · exact T.ki_NoName_NoMerge
  · exact T.ki_NoName_NoText
  · exact T.ki_NoName_NoName
  · exact T.ki_NoName_NoDeed
  · exact T.ki_NoName_Changes
  · exact T.ki_NoDeed_NoRow
  · exact T.ki_NoDeed_TooMany
  · exact T.ki_NoDeed_NoMerge
  · exact T.ki_NoDeed_NoText
  · exact T.ki_NoDeed_NoName
  · exact T.ki_NoDeed_NoDeed
  · exact T.ki_NoDeed_Changes
  · exact T.ki_Changes_NoRow
  · exact T.ki_Changes_TooMany
  · exact T.ki_Changes_NoMerge
  · exact T.ki_Changes_NoText
  · exact T.ki_Changes_NoName
  · exact T.ki_Changes_NoDeed
  · exact T.ki_Changes_Changes
def kinds (k : Nat) : List Bool := (List.range 7).map fun j => decide (j = k)
def spInit (t : Adr) : Sp := fun vs H Q _ => ∃ a v, vs = [.ref a, v] ∧ H a = some (ErrI t.c_Changes a) ∧ ∀ dx, H dx = none → dx ≠ a → Q .non (upd (upd H dx (.xd [("value", v)])) a (ErrW t.c_Changes a dx))
def spKinds (t : Adr) : Sp := fun vs H Q _ => ∃ a k, vs = [.ref a] ∧ k < 7 ∧ ErrIs H a (clsAt t k) ∧ ∀ p H', Same H H' → H' p = some (.lst ((kinds k).map V.bl)) → Q (.ref p) H'
theorem ok_init (T : Txt K mg t) : FnOk P w K mg base CX0 1 t.f_Changes_init t.d_Changes_init ["self", "value"] (spInit t) := by
  refine T.F_Changes_init.ok sc_Changes_init (fun vs H Q E h => ?_) (fun cdv A outer s H vs Q E hr h => ?_)
  · obtain ⟨a, v, rfl, _⟩ := h
    rfl
  · obtain ⟨a, v, rfl, ha, q⟩ := h
    refine ⟨_, (pss_cons (ps_expr (pe_initE T.bi_CourtError g_Changes_init_CourtError T.mg_CourtError (pa_cons (pe_var (i := 0) rfl v_Changes_init_self db_self cd_self) (pa_cons pe_str pa_nil)) db_CourtError))
  (pss_one (ps_setE (pe_var (i := 0) rfl v_Changes_init_self db_self cd_self) (pe_var (i := 1) rfl v_Changes_init_value db_value cd_value) rfl))), ?_⟩
    refine ⟨_, rfl, a, t.c_Changes, _, rfl, by show 1 ≤ sizeLine; decide, ha, T.ex_Changes, ?_⟩
    refine ⟨_, rfl, _, rfl, a, t.c_Changes, rfl, ha, T.sb_Changes_value, fun dx hd ne => ?_⟩
    exact q dx hd ne
theorem isW_ok {σ : L2.St} {H : Hp} {Q : VK} {i : Nat} {a C F : Addr} {b : Bool} (hv : σ[i]? = some (some (V.ref a))) (he : ErrIs H a C) (xk : ExcK K C) (hk : PySem.W.kitOne K (.ref C) (.ref F) = some b) (q : Q (.bl b) H) :
    tCB (rIsW K) (tCons (tVar i) (tCons (tC (.ref F)) tNil)) σ H Q := ⟨_, hv, a, C, _, b, rfl, he, xk, .inl ⟨F, rfl, hk⟩, q⟩
theorem ok_kinds (T : Txt K mg t) : FnOk P w K mg base CX0 1 t.f_law_kinds t.d_law_kinds ["thing"] (spKinds t) := by
  refine T.F_law_kinds.ok sc_law_kinds (fun vs H Q E h => ?_) (fun cdv A outer s H vs Q E hr h => ?_)
  · obtain ⟨a, v, rfl, _⟩ := h
    rfl
  · obtain ⟨a, k, rfl, hk, he, q⟩ := h
    refine ⟨_, (pss_cons (ps_set (i := 1) sc_law_kinds.nd rfl l_law_kinds_kinds (pe_lst (pa_cons (pe_callB (call_isW rfl) g_law_kinds_isinstance T.z_isinstance bt_isinstance (pa_cons (pe_var (i := 0) rfl v_law_kinds_thing db_thing cd_thing) (pa_cons (pe_glob g_law_kinds_NoRow T.mg_NoRow (show RelV (V.ref t.c_NoRow) (Value.ref t.c_NoRow) from rfl) db_NoRow) pa_nil)) nn_isinstance db_isinstance) (pa_cons (pe_callB (call_isW rfl) g_law_kinds_isinstance T.z_isinstance bt_isinstance (pa_cons (pe_var (i := 0) rfl v_law_kinds_thing db_thing cd_thing) (pa_cons (pe_glob g_law_kinds_TooMany T.mg_TooMany (show RelV (V.ref t.c_TooMany) (Value.ref t.c_TooMany) from rfl) db_TooMany) pa_nil)) nn_isinstance db_isinstance) (pa_cons (pe_callB (call_isW rfl) g_law_kinds_isinstance T.z_isinstance bt_isinstance (pa_cons (pe_var (i := 0) rfl v_law_kinds_thing db_thing cd_thing) (pa_cons (pe_glob g_law_kinds_NoMerge T.mg_NoMerge (show RelV (V.ref t.c_NoMerge) (Value.ref t.c_NoMerge) from rfl) db_NoMerge) pa_nil)) nn_isinstance db_isinstance) pa_nil)))))
  (pss_cons (ps_expr (pe_bm PySem.F.plainAttrs_list PySem.F.slot_list_extend PySem.F.type_list_extend mt_extend (pe_var (i := 1) rfl v_law_kinds_kinds db_kinds cd_kinds) (pa_cons (pe_lst (pa_cons (pe_callB (call_isW rfl) g_law_kinds_isinstance T.z_isinstance bt_isinstance (pa_cons (pe_var (i := 0) rfl v_law_kinds_thing db_thing cd_thing) (pa_cons (pe_glob g_law_kinds_NoText T.mg_NoText (show RelV (V.ref t.c_NoText) (Value.ref t.c_NoText) from rfl) db_NoText) pa_nil)) nn_isinstance db_isinstance) (pa_cons (pe_callB (call_isW rfl) g_law_kinds_isinstance T.z_isinstance bt_isinstance (pa_cons (pe_var (i := 0) rfl v_law_kinds_thing db_thing cd_thing) (pa_cons (pe_glob g_law_kinds_NoName T.mg_NoName (show RelV (V.ref t.c_NoName) (Value.ref t.c_NoName) from rfl) db_NoName) pa_nil)) nn_isinstance db_isinstance) (pa_cons (pe_callB (call_isW rfl) g_law_kinds_isinstance T.z_isinstance bt_isinstance (pa_cons (pe_var (i := 0) rfl v_law_kinds_thing db_thing cd_thing) (pa_cons (pe_glob g_law_kinds_NoDeed T.mg_NoDeed (show RelV (V.ref t.c_NoDeed) (Value.ref t.c_NoDeed) from rfl) db_NoDeed) pa_nil)) nn_isinstance db_isinstance) pa_nil)))) pa_nil)))
  (pss_cons (ps_expr (pe_bm PySem.F.plainAttrs_list PySem.F.slot_list_append PySem.F.type_list_append mt_append (pe_var (i := 1) rfl v_law_kinds_kinds db_kinds cd_kinds) (pa_cons (pe_callB (call_isW rfl) g_law_kinds_isinstance T.z_isinstance bt_isinstance (pa_cons (pe_var (i := 0) rfl v_law_kinds_thing db_thing cd_thing) (pa_cons (pe_glob g_law_kinds_Changes T.mg_Changes (show RelV (V.ref t.c_Changes) (Value.ref t.c_Changes) from rfl) db_Changes) pa_nil)) nn_isinstance db_isinstance) pa_nil)))
  (pss_one (ps_ret (pe_var (i := 1) rfl v_law_kinds_kinds db_kinds cd_kinds)))))), ?_⟩
    refine isW_ok rfl he (xk_at T k hk) (kk_at T k 0 hk (by decide)) ?_
    refine isW_ok rfl he (xk_at T k hk) (kk_at T k 1 hk (by decide)) ?_
    refine isW_ok rfl he (xk_at T k hk) (kk_at T k 2 hk (by decide)) ?_
    refine ⟨by show 3 ≤ sizeLine; decide, fun p hp => ?_⟩
    have s1 : Same H (upd H p (.lst [.bl (decide (0 = k)), .bl (decide (1 = k)), .bl (decide (2 = k))])) := Same.new (Same.refl H) hp
    have he1 := he.same s1
    refine ⟨_, rfl, .inl ⟨rfl, _, SqL.of upd_same⟩, ?_⟩
    refine isW_ok rfl he1 (xk_at T k hk) (kk_at T k 3 hk (by decide)) ?_
    refine isW_ok rfl he1 (xk_at T k hk) (kk_at T k 4 hk (by decide)) ?_
    refine isW_ok rfl he1 (xk_at T k hk) (kk_at T k 5 hk (by decide)) ?_
    refine ⟨by show 3 ≤ sizeLine; decide, fun e hne => ?_⟩
    have npe : p ≠ e := ne_of_none upd_same hne
    have s2 := Same.new s1 hne (o := .lst [.bl (decide (3 = k)), .bl (decide (4 = k)), .bl (decide (5 = k))])
    refine ⟨p, e, _, _, rfl, rfl, (by rw [upd_ne npe]; exact upd_same), upd_same, by show 6 ≤ sizeLine; decide, ?_⟩
    have s3 := Same.but s2 hp (KeepBut.upd (o := .lst ([.bl (decide (0 = k)), .bl (decide (1 = k)), .bl (decide (2 = k))] ++ [.bl (decide (3 = k)), .bl (decide (4 = k)), .bl (decide (5 = k))])))
    have he3 := he.same s3
    refine ⟨_, rfl, .inl ⟨rfl, _, SqL.of upd_same⟩, ?_⟩
    refine isW_ok rfl he3 (xk_at T k hk) (kk_at T k 6 hk (by decide)) ?_
    refine ⟨p, _, _, rfl, rfl, upd_same, by show 6 < sizeLine; decide, ?_⟩
    refine ⟨_, rfl, ?_⟩
    exact q p _ (Same.but s3 hp KeepBut.upd) upd_same
inductive NestAt (H : Hp) : Nat → V → PyData → Prop
  | int (i : Int) : NestAt H 0 (.int i) (.int i)
  | nil {a : Addr} : H a = some (.tup [.str "nil"]) → NestAt H 1 (.ref a) (.tuple [.str "nil"])
  | cons {a : Addr} {x : Int} {v : V} {n : Nat} {d : PyData} : H a = some (.tup [.str "cons", .int x, v]) → NestAt H n v d → NestAt H (n + 1) (.ref a) (.tuple [.str "cons", .int x, d])
theorem NestAt.same {H H' : Hp} {n : Nat} {v : V} {d : PyData} (h : NestAt H n v d) (s : Same H H') : NestAt H' n v d := by
  induction h with
  | int i => exact .int i
  | nil e => exact .nil (s _ _ e)
  | cons e _ ih => exact .cons (s _ _ e) ih
theorem NestAt.dp {H : Hp} {n : Nat} {v : V} {d : PyData} (h : NestAt H n v d) : Dp K H v d := by
  induction h with
  | int i => exact .int i
  | nil e => exact .tup (SqT.of e) (.cons (.str _) .nil)
  | cons e _ ih => exact .tup (SqT.of e) (.cons (.str _) (.cons (.int _) (.cons ih .nil)))
theorem NestAt.lay {H : Hp} {n : Nat} {v : V} {d : PyData} (h : NestAt H n v d) : Lay n d := by
  induction h with
  | int i => exact .int i
  | nil e =>
      refine .tup (n := 0) fun d hd => ?_
      rw [List.mem_singleton] at hd
      subst hd
      exact .str (by decide +kernel)
  | cons e _ ih =>
      refine .tup fun d hd => ?_
      simp only [List.mem_cons, List.not_mem_nil, or_false] at hd
      rcases hd with rfl | rfl | rfl
      · exact .str (by decide +kernel)
      · exact .int _
      · exact ih
def spValue : Sp := fun vs H Q _ => ∃ c : Int, vs = [.int c] ∧ ∀ v d n H', Same H H' → NestAt H' n v d → n ≤ 5 → Q v H'
theorem ok_value (T : Txt K mg t) : FnOk P w K mg base CX0 1 t.f_law_value t.d_law_value ["cell"] spValue := by
  refine T.F_law_value.ok sc_law_value (fun vs H Q E h => ?_) (fun cdv A outer s H vs Q E hr h => ?_)
  · obtain ⟨a, rfl, _⟩ := h
    rfl
  · obtain ⟨c, rfl, q⟩ := h
    refine ⟨_, (pss_cons (ps_set (i := 1) sc_law_value.nd rfl l_law_value_number (pe_op op_mod (pe_var (i := 0) rfl v_law_value_cell db_cell cd_cell) (pe_op op_pow pe_int pe_int)))
  (pss_cons (ps_if (pt_cmpR op_eq (pe_op op_mod (pe_var (i := 0) rfl v_law_value_cell db_cell cd_cell) pe_int) pe_int (nomark _)) (pss_one (ps_ret (pe_var (i := 1) rfl v_law_value_number db_number cd_number))) pss_nil)
  (pss_cons (ps_set (i := 2) sc_law_value.nd rfl l_law_value_value (pe_tup (pa_cons pe_str pa_nil)))
  (pss_cons (ps_for PassesOwn.never rfl (pi_range1 g_law_value_range T.z_range (pa_cons (pe_op op_mod (pe_op op_fdivB (pe_var (i := 1) rfl v_law_value_number db_number cd_number) pe_int) pe_int) pa_nil)) (pg_name (i := 3) sc_law_value.nd rfl l_law_value_k (.inl rfl)) (pss_one (ps_set (i := 2) sc_law_value.nd rfl l_law_value_value (pe_tup (pa_cons pe_str (pa_cons (pe_op op_add (pe_op op_fdivB (pe_var (i := 1) rfl v_law_value_number db_number cd_number) pe_int) (pe_var (i := 3) rfl v_law_value_k db_k cd_k)) (pa_cons (pe_var (i := 2) rfl v_law_value_value db_value cd_value) pa_nil)))))))
  (pss_one (ps_ret (pe_var (i := 2) rfl v_law_value_value db_value cd_value))))))), ?_⟩
    refine ⟨_, rfl, _, _, rfl, rfl, ⟨by decide, by decide, by decide⟩, _, _, rfl, rfl, by show (0 : Int) < 10 ^ 60; decide, ?_⟩
    refine ⟨_, rfl, _, _, rfl, rfl, by show (0 : Int) < 3; decide, rfl, _, rfl, ?_⟩
    refine ite2 (fun _ => ?_) (fun _ => ?_)
    · exact ⟨_, rfl, q _ _ 0 _ (Same.refl H) (.int _) (by decide)⟩
    refine ⟨by show 1 ≤ sizeLine; decide, fun a ha => ?_⟩
    refine ⟨_, rfl, _, _, rfl, rfl, ⟨by decide, by decide +kernel⟩, _, _, rfl, rfl, by show (0 : Int) < 5; decide, ?_⟩
    have h0 : 0 ≤ (c % 10 ^ Int.toNat 60) / 3 % 5 := Int.emod_nonneg _ (by decide)
    have h1 : (c % 10 ^ Int.toNat 60) / 3 % 5 < 5 := Int.emod_lt_of_pos _ (by decide)
    refine ⟨_, rfl, by omega, by omega, ?_⟩
    refine for_range (lo := 0) (n := ((c % 10 ^ Int.toNat 60) / 3 % 5).toNat) (fun i σ H' => Same H H' ∧ ∃ v d u, σ = [some (.int c), some (.int (c % 10 ^ Int.toNat 60)), some v, u] ∧ NestAt H' (i + 1) v d) ⟨Same.new (Same.refl H) ha, _, _, none, rfl, .nil upd_same⟩ ?_ ?_
    · rintro i σ H2 hi ⟨s2, v, d, u, rfl, hv⟩
      refine ⟨_, rfl, _, _, rfl, rfl, ⟨by decide, by decide +kernel⟩, _, rfl, _, _, rfl, rfl, _, rfl, by show 3 ≤ sizeLine; decide, fun b hb => ?_⟩
      have s3 := Same.new (Same.refl H2) hb (o := .tup [.str "cons", .int ((c % 10 ^ Int.toNat 60) / 15 + (0 + (i : Int))), v])
      exact ⟨s2.trans s3, _, _, _, rfl, .cons upd_same (hv.same s3)⟩
    · rintro σ H2 ⟨s2, v, d, u, rfl, hv⟩
      exact ⟨_, rfl, q _ _ _ _ s2 hv (by omega)⟩
def spLaw (mg : Str → Option Value) (K : PySem.W.Frag) (base : Heap) : Sp := fun vs H Q _ => ∃ (a : Addr) (ns : List Int), vs = [.ref a] ∧ TabsOf names mg base H ∧ SqL K H a (ns.map V.int) ∧ ns.length ≤ 63 ∧ ∀ H', Same H H' → Q (.bl true) H'
theorem at4 {a b c d : Str} {r : Int} (h0 : 0 ≤ r) (h1 : r < 4) : ∃ w, atI [V.str a, .str b, .str c, .str d] r = some (.str w) := by
  obtain ⟨n, rfl⟩ : ∃ n : Nat, r = n := ⟨r.toNat, by omega⟩
  have : n = 0 ∨ n = 1 ∨ n = 2 ∨ n = 3 := by omega
  rcases this with rfl | rfl | rfl | rfl
  · exact ⟨_, rfl⟩
  · exact ⟨_, rfl⟩
  · exact ⟨_, rfl⟩
  · exact ⟨_, rfl⟩
theorem small {n m : Nat} (h : n ≤ m) (hm : m ≤ 1000 := by decide) : n ≤ sizeLine := Nat.le_of_lt (small1000 (Nat.le_trans h hm))
theorem ok_law (T : Txt K mg t) (kb : K.In base) (hB : ∃ bm ob, BMod base mainGlobals mg bm ob) : FnOk P w K mg base CX0 20 t.f_law t.d_law ["script"] (spLaw mg K base) := by
  have G_law_value : FnOk P w K mg base CX0 1 t.f_law_value t.d_law_value ["cell"] spValue := ok_value T
  have G_law_kinds : FnOk P w K mg base CX0 1 t.f_law_kinds t.d_law_kinds ["thing"] (spKinds t) := ok_kinds T
  have G_Changes_init : FnOk P w K mg base CX0 1 t.f_Changes_init t.d_Changes_init ["self", "value"] (spInit t) := ok_init T
  refine T.F_law.ok sc_law (fun vs H Q E h => ?_) (fun cdv A outer s H vs Q E hr h => ?_)
  · obtain ⟨a, ns, rfl, _⟩ := h
    rfl
  · obtain ⟨a, ns, rfl, tb, hS, hn, q⟩ := h
    refine ⟨_, (pss_cons (ps_for PassesOwn.never rfl (pi_list (pe_op op_catS (pe_lst (pa_cons pe_int pa_nil)) (pe_var (i := 0) rfl v_law_script db_script cd_script))) (pg_name (i := 1) sc_law.nd rfl l_law_cell (.inl rfl)) (pss_cons (ps_set (i := 2) sc_law.nd rfl l_law_words (pe_ix ix_list (pe_lst (pa_cons pe_str (pa_cons pe_str (pa_cons pe_str (pa_cons (pe_op op_repS pe_str (pe_op op_mod (pe_op op_fdivB (pe_var (i := 1) rfl v_law_cell db_cell cd_cell) pe_int) pe_int)) pa_nil))))) (pe_op op_mod (pe_var (i := 1) rfl v_law_cell db_cell cd_cell) pe_int) (fun _ _ => rfl)))
  (pss_cons (ps_set (i := 3) sc_law.nd rfl l_law_value (pe_call G_law_value (hr.mono (by decide)) g_law_law_value T.m_law_value T.F_law_value.kp T.b_law_value .nil pass0 (pa_cons (pe_var (i := 1) rfl v_law_cell db_cell cd_cell) pa_nil) db_law_value))
  (pss_cons (ps_set (i := 4) sc_law.nd rfl l_law_some (pe_lst (pa_cons (pe_exc T.kk_NoRow T.ex_NoRow g_law_NoRow T.mg_NoRow (pa_cons (pe_var (i := 2) rfl v_law_words db_words cd_words) pa_nil) db_NoRow) (pa_cons (pe_exc T.kk_TooMany T.ex_TooMany g_law_TooMany T.mg_TooMany (pa_cons (pe_var (i := 2) rfl v_law_words db_words cd_words) pa_nil) db_TooMany) (pa_cons (pe_exc T.kk_NoMerge T.ex_NoMerge g_law_NoMerge T.mg_NoMerge (pa_cons (pe_var (i := 2) rfl v_law_words db_words cd_words) pa_nil) db_NoMerge) (pa_cons (pe_exc T.kk_NoText T.ex_NoText g_law_NoText T.mg_NoText (pa_cons (pe_var (i := 2) rfl v_law_words db_words cd_words) pa_nil) db_NoText) (pa_cons (pe_exc T.kk_NoName T.ex_NoName g_law_NoName T.mg_NoName (pa_cons (pe_var (i := 2) rfl v_law_words db_words cd_words) pa_nil) db_NoName) (pa_cons (pe_exc T.kk_NoDeed T.ex_NoDeed g_law_NoDeed T.mg_NoDeed (pa_cons (pe_var (i := 2) rfl v_law_words db_words cd_words) pa_nil) db_NoDeed) pa_nil))))))))
  (pss_cons (ps_expr (pe_bm PySem.F.plainAttrs_list PySem.F.slot_list_append PySem.F.type_list_append mt_append (pe_var (i := 4) rfl v_law_some db_some cd_some) (pa_cons (pe_excI T.kk_Changes T.ex_Changes T.in_Changes T.fi_Changes G_Changes_init (hr.mono (by decide)) g_law_Changes T.mg_Changes T.b_Changes_init .nil pass0 (pa_cons (pe_var (i := 3) rfl v_law_value db_value cd_value) pa_nil) db_Changes) pa_nil)))
  (pss_cons (ps_for PassesOwn.never rfl (pi_range1 g_law_range T.z_range (pa_cons (pe_callB call_len_seq g_law_len T.z_len bt_len (pa_cons (pe_var (i := 4) rfl v_law_some db_some cd_some) pa_nil) nn_len db_len) pa_nil)) (pg_name (i := 5) sc_law.nd rfl l_law_k (.inl rfl)) (pss_cons (ps_if (PW.pt (pw_or (pt_not (pt_val (pe_callB (call_isW rfl) g_law_isinstance T.z_isinstance bt_isinstance (pa_cons (pe_ix ix_list (pe_var (i := 4) rfl v_law_some db_some cd_some) (pe_var (i := 5) rfl v_law_k db_k cd_k) (fun _ _ => rfl)) (pa_cons (pe_glob g_law_CourtError T.mg_CourtError (show RelV (V.ref t.c_CourtError) (Value.ref t.c_CourtError) from rfl) db_CourtError) pa_nil)) nn_isinstance db_isinstance))) (pw_or1 (pt_not (pt_val (pe_callB (call_isW rfl) g_law_isinstance T.z_isinstance bt_isinstance (pa_cons (pe_ix ix_list (pe_var (i := 4) rfl v_law_some db_some cd_some) (pe_var (i := 5) rfl v_law_k db_k cd_k) (fun _ _ => rfl)) (pa_cons (pe_bltn (v := V.ty "ValueError") g_law_ValueError T.z_ValueError bt_ValueError rfl nn_ValueError db_ValueError) pa_nil)) nn_isinstance db_isinstance)))))) (pss_one (ps_ret pe_bl)) pss_nil)
  (pss_one (ps_if (pt_cmpR (op_neD hr.units) (pe_call G_law_kinds (hr.mono (by decide)) g_law_law_kinds T.m_law_kinds T.F_law_kinds.kp T.b_law_kinds .nil pass0 (pa_cons (pe_ix ix_list (pe_var (i := 4) rfl v_law_some db_some cd_some) (pe_var (i := 5) rfl v_law_k db_k cd_k) (fun _ _ => rfl)) pa_nil) db_law_kinds) (pe_lc (own := [("other", 6)]) (by rfl) sc_law.nd (pi_range1 g_law_range T.z_range (pa_cons (pe_callB call_len_seq g_law_len T.z_len bt_len (pa_cons (pe_var (i := 4) rfl v_law_some db_some cd_some) pa_nil) nn_len db_len) pa_nil)) (blkOk_by (own := [("other", 6)]) (N := ["script", "cell", "words", "value", "some", "k", "other"]) (sc := defScope s_law) (by decide +kernel)) (fun _ _ _ _ _ => (pg_name (i := 6) sc_law.nd rfl (by first | exact Or.inl rfl | exact Or.inr rfl))) (fun _ _ _ _ _ => pts_nil) (fun _ _ _ _ _ => (pe_cmpR op_eq (pv 6) (pv 5) (nomark _)))) (nomark _)) (pss_one (ps_ret pe_bl)) pss_nil))))
  (pss_one (ps_if (pt_cmpR (op_neD hr.units) (pe_getE (pe_ix ix_list (pe_var (i := 4) rfl v_law_some db_some cd_some) (pe_un un_neg pe_int) (fun _ _ => rfl)) rfl) (pe_var (i := 3) rfl v_law_value db_value cd_value) (nomark _)) (pss_one (ps_ret pe_bl)) pss_nil))))))))
  (pss_one (ps_ret pe_bl))), ?_⟩
    refine ⟨by show 1 ≤ sizeLine; decide, fun l hl => ⟨_, rfl, l, a, [.int 0], ns.map V.int, rfl, rfl, SqL.of upd_same, (Same.new (Same.refl H) hl).seq hS, ?_, fun c hc => ?_⟩⟩
    · rw [List.length_map]
      exact small (m := 64) (by show 1 + ns.length ≤ 64; omega)
    have s1 : Same H (upd (upd H l (.lst [.int 0])) c (.lst ([.int 0] ++ ns.map V.int))) := Same.new (Same.new (Same.refl H) hl) hc
    generalize hHc : upd (upd H l (.lst [.int 0])) c (.lst ([.int 0] ++ ns.map V.int)) = Hc at s1
    have hc' : Hc c = some (.lst ([.int 0] ++ ns.map V.int)) := by rw [← hHc]; exact upd_same
    refine ⟨c, rfl, ⟨_, SqL.of hc'⟩, for_list (K := K) (a := c) (xs := [.int 0] ++ ns.map V.int) (fun i σ H2 => (∃ v1 v2 v3 v4 v5 v6, σ = [some (.ref a), v1, v2, v3, v4, v5, v6]) ∧ Same Hc H2) ⟨⟨_, _, _, _, _, _, rfl⟩, Same.refl _⟩ (fun i σ H2 _ ⟨_, s2⟩ => SqL.of (s2 _ _ hc')) ?_ ?_⟩
    · rintro i x σ H2 hx ⟨⟨v1, v2, v3, v4, v5, v6, rfl⟩, s2⟩
      obtain ⟨z, rfl⟩ : ∃ z, x = V.int z := by
        have := List.mem_of_getElem? hx
        simp only [List.mem_append, List.mem_singleton, List.mem_map] at this
        rcases this with h | ⟨z, _, h⟩
        · exact ⟨_, h⟩
        · exact ⟨z, h.symm⟩
      refine ⟨_, rfl, _, _, rfl, rfl, ⟨by decide, by decide +kernel⟩, _, _, rfl, rfl, (by show (0 : Int) < 30; decide), _, _, rfl, rfl, (by decide +kernel), Int.emod_nonneg _ (by decide), ?_, fun zz hz => ?_⟩
      · have : z / 4 % 30 < 30 := Int.emod_lt_of_pos _ (by decide)
        show z / 4 % 30 ≤ 1000
        omega
      refine ⟨by show 4 ≤ sizeLine; decide, fun wl hwl => ?_⟩
      obtain ⟨wd, hwd⟩ := at4 (a := "") (b := "a") (c := "no such row") (d := zz) (Int.emod_nonneg z (show (4 : Int) ≠ 0 by decide)) (Int.emod_lt_of_pos z (by decide))
      refine ⟨_, rfl, _, _, rfl, rfl, (by show (0 : Int) < 4; decide), wl, _, _, _, rfl, rfl, SqL.of upd_same, hwd, ?_⟩
      have s3 := s2.trans (Same.new (Same.refl H2) hwl (o := .lst [.str "", .str "a", .str "no such row", .str zz]))
      refine ⟨_, rfl, _, rfl, fun v d n H4 s4 hv hn5 => ?_⟩
      refine ⟨_, rfl, by show 1 ≤ sizeLine; decide, fun a0 h0 => ⟨_, rfl, by show 1 ≤ sizeLine; decide, fun a1 h1 => ⟨_, rfl, by show 1 ≤ sizeLine; decide, fun a2 h2 => ⟨_, rfl, by show 1 ≤ sizeLine; decide, fun a3 h3 => ⟨_, rfl, by show 1 ≤ sizeLine; decide, fun a4 h4 =>
        ⟨_, rfl, by show 1 ≤ sizeLine; decide, fun a5 h5 => ?_⟩⟩⟩⟩⟩⟩
      refine ⟨by show 6 ≤ sizeLine; decide, fun sm hsm => ?_⟩
      have f0 := Same.new (Same.refl H4) h0 (o := ErrO t.c_NoRow a0)
      have f1 := Same.new f0 h1 (o := ErrO t.c_TooMany a1)
      have f2 := Same.new f1 h2 (o := ErrO t.c_NoMerge a2)
      have f3 := Same.new f2 h3 (o := ErrO t.c_NoText a3)
      have f4 := Same.new f3 h4 (o := ErrO t.c_NoName a4)
      have f5 := Same.new f4 h5 (o := ErrO t.c_NoDeed a5)
      have g5 := upd_same (H := upd (upd (upd (upd (upd H4 a0 (ErrO t.c_NoRow a0)) a1 (ErrO t.c_TooMany a1)) a2 (ErrO t.c_NoMerge a2)) a3 (ErrO t.c_NoText a3)) a4 (ErrO t.c_NoName a4)) (a := a5) (o := ErrO t.c_NoDeed a5)
      have g4 := Same.new (Same.refl _) h5 (o := ErrO t.c_NoDeed a5) a4 _ upd_same
      have g3 := Same.new (Same.new (Same.refl _) h4 (o := ErrO t.c_NoName a4)) h5 (o := ErrO t.c_NoDeed a5) a3 _ upd_same
      have g2 := Same.new (Same.new (Same.new (Same.refl _) h3 (o := ErrO t.c_NoText a3)) h4 (o := ErrO t.c_NoName a4)) h5 (o := ErrO t.c_NoDeed a5) a2 _ upd_same
      have g1 := Same.new (Same.new (Same.new (Same.new (Same.refl _) h2 (o := ErrO t.c_NoMerge a2)) h3 (o := ErrO t.c_NoText a3)) h4 (o := ErrO t.c_NoName a4)) h5 (o := ErrO t.c_NoDeed a5) a1 _ upd_same
      have g0 := Same.new (Same.new (Same.new (Same.new (Same.new (Same.refl _) h1 (o := ErrO t.c_TooMany a1)) h2 (o := ErrO t.c_NoMerge a2)) h3 (o := ErrO t.c_NoText a3)) h4 (o := ErrO t.c_NoName a4)) h5 (o := ErrO t.c_NoDeed a5) a0 _ upd_same
      generalize upd (upd (upd (upd (upd (upd H4 a0 (ErrO t.c_NoRow a0)) a1 (ErrO t.c_TooMany a1)) a2 (ErrO t.c_NoMerge a2)) a3 (ErrO t.c_NoText a3)) a4 (ErrO t.c_NoName a4)) a5 (ErrO t.c_NoDeed a5) = H5 at hsm f5 g0 g1 g2 g3 g4 g5
      refine ⟨_, rfl, .inl ⟨rfl, _, SqL.of upd_same⟩, ?_⟩
      refine ⟨_, rfl, by show 1 ≤ sizeLine; decide, fun x hx => ⟨x, v, rfl, upd_same, fun dx hdx ne => ⟨rfl, ?_⟩⟩⟩
      have hxs : x ≠ sm := fun z => by subst z; rw [upd_same] at hx; cases hx
      have hx5 : H5 x = none := by rw [upd_ne hxs] at hx; exact hx
      have hds : dx ≠ sm := fun z => by subst z; rw [upd_ne (Ne.symm hxs), upd_same] at hdx; cases hdx
      have hd5 : H5 dx = none := by rw [upd_ne ne, upd_ne hds] at hdx; exact hdx
      refine ⟨sm, _, _, rfl, rfl, (by rw [upd_ne (Ne.symm hxs), upd_ne (Ne.symm hds), upd_ne (Ne.symm hxs)]; exact upd_same), by show 6 < sizeLine; decide, ?_⟩
      have s6 : Same H5 (upd (upd (upd (upd (upd H5 sm (.lst [.ref a0, .ref a1, .ref a2, .ref a3, .ref a4, .ref a5])) x (ErrI t.c_Changes x)) dx (.xd [("value", v)])) x (ErrW t.c_Changes x dx)) sm (.lst ([.ref a0, .ref a1, .ref a2, .ref a3, .ref a4, .ref a5] ++ [.ref x]))) := fun b o e => by
        rw [upd_ne (ne_of_none e hsm), upd_ne (ne_of_none e hx5), upd_ne (ne_of_none e hd5), upd_ne (ne_of_none e hx5), upd_ne (ne_of_none e hsm)]; exact e
      have hs6 : (upd (upd (upd (upd (upd H5 sm (.lst [.ref a0, .ref a1, .ref a2, .ref a3, .ref a4, .ref a5])) x (ErrI t.c_Changes x)) dx (.xd [("value", v)])) x (ErrW t.c_Changes x dx)) sm (.lst ([.ref a0, .ref a1, .ref a2, .ref a3, .ref a4, .ref a5] ++ [.ref x]))) sm = some (.lst (([a0, a1, a2, a3, a4, a5, x] : List Addr).map V.ref)) := upd_same
      have hx6 : (upd (upd (upd (upd (upd H5 sm (.lst [.ref a0, .ref a1, .ref a2, .ref a3, .ref a4, .ref a5])) x (ErrI t.c_Changes x)) dx (.xd [("value", v)])) x (ErrW t.c_Changes x dx)) sm (.lst ([.ref a0, .ref a1, .ref a2, .ref a3, .ref a4, .ref a5] ++ [.ref x]))) x = some (ErrW t.c_Changes x dx) := by
        rw [upd_ne hxs]; exact upd_same
      have hd6 : (upd (upd (upd (upd (upd H5 sm (.lst [.ref a0, .ref a1, .ref a2, .ref a3, .ref a4, .ref a5])) x (ErrI t.c_Changes x)) dx (.xd [("value", v)])) x (ErrW t.c_Changes x dx)) sm (.lst ([.ref a0, .ref a1, .ref a2, .ref a3, .ref a4, .ref a5] ++ [.ref x]))) dx = some (.xd [("value", v)]) := by
        rw [upd_ne hds, upd_ne ne]; exact upd_same
      generalize upd (upd (upd (upd (upd H5 sm (.lst [.ref a0, .ref a1, .ref a2, .ref a3, .ref a4, .ref a5])) x (ErrI t.c_Changes x)) dx (.xd [("value", v)])) x (ErrW t.c_Changes x dx)) sm (.lst ([.ref a0, .ref a1, .ref a2, .ref a3, .ref a4, .ref a5] ++ [.ref x])) = H6 at s6 hs6 hx6 hd6
      have hE : ∀ k, k < 7 → ∃ b, ([a0, a1, a2, a3, a4, a5, x] : List Addr)[k]? = some b ∧ ErrIs H6 b (clsAt t k) := fun k hk => by
        rcases six hk with rfl | rfl | rfl | rfl | rfl | rfl | rfl
        · exact ⟨a0, rfl, .inl (s6 _ _ g0)⟩
        · exact ⟨a1, rfl, .inl (s6 _ _ g1)⟩
        · exact ⟨a2, rfl, .inl (s6 _ _ g2)⟩
        · exact ⟨a3, rfl, .inl (s6 _ _ g3)⟩
        · exact ⟨a4, rfl, .inl (s6 _ _ g4)⟩
        · exact ⟨a5, rfl, .inl (s6 _ _ g5)⟩
        · exact ⟨x, rfl, .inr ⟨dx, _, hx6, hd6⟩⟩
      have s46 := ((s3.trans s4).trans f5).trans s6
      have hv6 := (hv.same f5).same s6
      have hx7 : atI (([a0, a1, a2, a3, a4, a5, x] : List Addr).map V.ref) (-1) = some (.ref x) := rfl
      have hl7 : ([a0, a1, a2, a3, a4, a5, x] : List Addr).length = 7 := rfl
      generalize ([a0, a1, a2, a3, a4, a5, x] : List Addr) = errs at hs6 hE hx7 hl7
      refine ⟨_, rfl, sm, _, rfl, .inl (SqL.of hs6), _, rfl, (by rw [List.length_map, hl7]; decide), (by rw [List.length_map, hl7]; decide), ?_⟩
      rw [List.length_map, hl7]
      refine for_range (lo := 0) (n := ((7 : Nat) : Int).toNat) (fun j σ H' => (∃ u5 u6, σ = [some (.ref a), some (.int z), some (.str wd), some v, some (.ref sm), u5, u6]) ∧ Same H6 H') ⟨⟨_, _, rfl⟩, Same.refl H6⟩ ?_ ?_
      · rintro j σ H7 hj ⟨⟨u5, u6, rfl⟩, s7⟩
        have hj7 : j < 7 := by simpa using hj
        obtain ⟨b, hb, he⟩ := hE j hj7
        have he7 := he.same s7
        have hat : atI (errs.map V.ref) ((0 : Int) + (j : Int)) = some (.ref b) := by rw [Int.zero_add]; exact atI_nat (by rw [List.getElem?_map, hb]; rfl)
        refine ⟨_, rfl, _, rfl, sm, _, _, _, rfl, rfl, SqL.of (s7 _ _ hs6), hat, b, _, _, true, rfl, he7, xk_at T j hj7, .inl ⟨_, rfl, kc_at T j hj7⟩, _, rfl, iteF ?_⟩
        refine ⟨_, rfl, _, rfl, sm, _, _, _, rfl, rfl, SqL.of (s7 _ _ hs6), hat, b, _, _, true, rfl, he7, xk_at T j hj7, .inr ⟨_, rfl, kv_at T j hj7⟩, _, rfl, iteF ?_⟩
        refine ⟨_, rfl, _, rfl, sm, _, _, _, rfl, rfl, SqL.of (s7 _ _ hs6), hat, b, j, rfl, hj7, he7, fun p H8 s8 hp => ?_⟩
        have hs8 := s8 _ _ (s7 _ _ hs6)
        refine ⟨_, rfl, sm, _, rfl, .inl (SqL.of hs8), _, rfl, (by rw [List.length_map, hl7]; decide), (by rw [List.length_map, hl7]; decide), fun D hD => ?_⟩
        rw [List.length_map, hl7]
        refine lc_range (lo := 0) (n := ((7 : Nat) : Int).toNat) (fun i H' => H' D = some (.lst (((List.range i).map fun q => decide (q = j)).map V.bl)) ∧ Same H8 H') ⟨upd_same, Same.new (Same.refl H8) hD⟩ (fun i H' hi ⟨hD2, s9⟩ => ⟨rfl, ?_⟩) (fun H' ⟨hD2, s9⟩ => ?_)
        · have hi7 : i < 7 := by simpa using hi
          refine yes ⟨_, rfl, _, rfl, rfl, _, hD2, ?_, ?_, ?_⟩
          · rw [List.length_map, List.length_map, List.length_range]
            exact small1000 (by omega)
          · rw [upd_same, List.range_succ, List.map_append, List.map_append]
            have e : decide (V.int ((0 : Int) + (i : Int)) = V.int ((0 : Int) + (j : Int))) = decide (i = j) := by
              refine decide_eq_decide.mpr ⟨fun z => ?_, fun z => by rw [z]⟩
              injection z with z
              omega
            rw [e]
            rfl
          · exact Same.but s9 hD KeepBut.upd
        · refine ⟨boolsData (kinds j), boolsData (kinds j), dp_bools ⟨p, rfl, s9 _ _ hp⟩, dp_bools ⟨D, rfl, hD2⟩, bools_shaped _, bools_shaped _, _, rfl, ?_⟩
          rw [eqv_bools, decide_eq_true rfl]
          refine iteF ?_
          exact ⟨⟨_, _, rfl⟩, (s7.trans s8).trans s9⟩
      · rintro σ H7 ⟨⟨u5, u6, rfl⟩, s7⟩
        refine ⟨_, rfl, _, rfl, sm, _, _, _, rfl, rfl, SqL.of (s7 _ _ hs6), hx7, x, _, dx, v, _, rfl, s7 _ _ hx6, s7 _ _ hd6, T.gb_Changes_value, rfl, _, rfl, d, d, (hv6.same s7).dp, (hv6.same s7).dp, hv.lay.shaped (by omega), hv.lay.shaped (by omega), _, rfl, ?_⟩
        rw [eqv_self (hv.lay.shaped (by omega))]
        refine iteF ?_
        exact ⟨⟨_, _, _, _, _, _, rfl⟩, s46.trans s7⟩
    · rintro σ H2 ⟨⟨v1, v2, v3, v4, v5, v6, rfl⟩, s2⟩
      exact q _ (s1.trans s2)
theorem law_start {mg : Str → Option Value} {K : PySem.W.Frag} {base : Heap} {H : Hp} {a : Addr} {ns : List Int} (hl : ns.length ≤ 63) (hT : TabsOf names mg base H) (hS : SqL K H a (ns.map V.int)) :
    spLaw mg K base [.ref a] H (fun v H' => v = .bl true ∧ ∀ P, H P = some (tabO P) → H' P = some (tabO P)) fun _ _ _ => False :=
  ⟨a, ns, rfl, hT, hS, hl, fun H' s => ⟨rfl, fun P h => s P _ h⟩⟩
end
end My
open PySem PySem.W PyProof.Rows
set_option maxRecDepth 100000 in
set_option maxHeartbeats 0 in
theorem PySem.Challenge.cw_shapecourt_k02_refusals_apart_holds : PySem.Challenge.rw_shapecourt_k02_refusals_apart.Holds := by
  w_on; o_law; k_head; (case hw => w_witness2)
  k_fill
  refine L2.walk_ofT (l := PySem.Challenge.rw_shapecourt_k02_refusals_apart) (n := 63) (k := 20) (x := "script") (names := []) (sp := fun mg K base => My.spLaw mg K base) rfl (by decide) rfl ⟨rfl, by decide, by decide⟩ (fun w h Y => PySem.W.kIn_of Y) ?KC ?NM ?F ?S
  case KC => intro p; kernel_rfl
  case NM => decide +kernel
  case S => exact fun mg K base H a ns hl hT hS => My.law_start hl hT hS
  case F =>
    intro w mg fa h KX G hmg
    have T : ∃ t, My.Txt (L2.KOf KX) mg t := by
      dsimp only [L2.KOf]
      refine' My.txt_mk KX G ?aC_CourtError ?aC_NoRow ?aC_TooMany ?aC_Changes ?aC_NoMerge ?aC_NoText ?aC_NoName ?aC_NoDeed ?bi_CourtError ?kk_NoRow ?ex_NoRow ?xk_NoRow ?ki_NoRow_CourtError ?ki_NoRow_NoRow ?ki_NoRow_TooMany ?ki_NoRow_Changes ?ki_NoRow_NoMerge ?ki_NoRow_NoText ?ki_NoRow_NoName ?ki_NoRow_NoDeed ?kv_NoRow ?kk_TooMany ?ex_TooMany ?xk_TooMany ?ki_TooMany_CourtError ?ki_TooMany_NoRow ?ki_TooMany_TooMany ?ki_TooMany_Changes ?ki_TooMany_NoMerge ?ki_TooMany_NoText ?ki_TooMany_NoName ?ki_TooMany_NoDeed ?kv_TooMany ?kk_Changes ?ex_Changes ?xk_Changes ?sb_Changes_value ?gb_Changes_value ?ki_Changes_CourtError ?ki_Changes_NoRow ?ki_Changes_TooMany ?ki_Changes_Changes ?ki_Changes_NoMerge ?ki_Changes_NoText ?ki_Changes_NoName ?ki_Changes_NoDeed ?kv_Changes ?kk_NoMerge ?ex_NoMerge ?xk_NoMerge ?ki_NoMerge_CourtError ?ki_NoMerge_NoRow ?ki_NoMerge_TooMany ?ki_NoMerge_Changes ?ki_NoMerge_NoMerge ?ki_NoMerge_NoText ?ki_NoMerge_NoName ?ki_NoMerge_NoDeed ?kv_NoMerge ?kk_NoText ?ex_NoText ?xk_NoText ?ki_NoText_CourtError ?ki_NoText_NoRow ?ki_NoText_TooMany ?ki_NoText_Changes ?ki_NoText_NoMerge ?ki_NoText_NoText ?ki_NoText_NoName ?ki_NoText_NoDeed ?kv_NoText ?kk_NoName ?ex_NoName ?xk_NoName ?ki_NoName_CourtError ?ki_NoName_NoRow ?ki_NoName_TooMany ?ki_NoName_Changes ?ki_NoName_NoMerge ?ki_NoName_NoText ?ki_NoName_NoName ?ki_NoName_NoDeed ?kv_NoName ?kk_NoDeed ?ex_NoDeed ?xk_NoDeed ?ki_NoDeed_CourtError ?ki_NoDeed_NoRow ?ki_NoDeed_TooMany ?ki_NoDeed_Changes ?ki_NoDeed_NoMerge ?ki_NoDeed_NoText ?ki_NoDeed_NoName ?ki_NoDeed_NoDeed ?kv_NoDeed ?a_Changes_init ?i_Changes_init ?l_Changes_init ?k_Changes_init ?e_Changes_init ?a_law_kinds ?l_law_kinds ?k_law_kinds ?e_law_kinds ?a_law_value ?l_law_value ?k_law_value ?e_law_value ?a_law ?l_law ?k_law ?e_law ?z_isinstance ?z_range ?z_len ?z_ValueError

      (case aC_CourtError => k_is)
      (case aC_NoRow => k_is)
      (case aC_TooMany => k_is)
      (case aC_Changes => k_is)
      (case aC_NoMerge => k_is)
      (case aC_NoText => k_is)
      (case aC_NoName => k_is)
      (case aC_NoDeed => k_is)
      (case bi_CourtError => kernel_rfl)
      (case kk_NoRow => k_is)
      (case ex_NoRow => kernel_rfl)
      (case xk_NoRow => kernel_rfl)
      (case ki_NoRow_CourtError => kit_is)
      (case ki_NoRow_NoRow => kit_is)
      (case ki_NoRow_TooMany => kit_is)
      (case ki_NoRow_Changes => kit_is)
      (case ki_NoRow_NoMerge => kit_is)
      (case ki_NoRow_NoText => kit_is)
      (case ki_NoRow_NoName => kit_is)
      (case ki_NoRow_NoDeed => kit_is)
      (case kv_NoRow => kit_is)
      (case kk_TooMany => k_is)
      (case ex_TooMany => kernel_rfl)
      (case xk_TooMany => kernel_rfl)
      (case ki_TooMany_CourtError => kit_is)
      (case ki_TooMany_NoRow => kit_is)
      (case ki_TooMany_TooMany => kit_is)
      (case ki_TooMany_Changes => kit_is)
      (case ki_TooMany_NoMerge => kit_is)
      (case ki_TooMany_NoText => kit_is)
      (case ki_TooMany_NoName => kit_is)
      (case ki_TooMany_NoDeed => kit_is)
      (case kv_TooMany => kit_is)
      (case kk_Changes => k_is)
      (case ex_Changes => kernel_rfl)
      (case xk_Changes => kernel_rfl)
      (case sb_Changes_value => kernel_rfl)
      (case gb_Changes_value => kernel_rfl)
      (case ki_Changes_CourtError => kit_is)
      (case ki_Changes_NoRow => kit_is)
      (case ki_Changes_TooMany => kit_is)
      (case ki_Changes_Changes => kit_is)
      (case ki_Changes_NoMerge => kit_is)
      (case ki_Changes_NoText => kit_is)
      (case ki_Changes_NoName => kit_is)
      (case ki_Changes_NoDeed => kit_is)
      (case kv_Changes => kit_is)
      (case kk_NoMerge => k_is)
      (case ex_NoMerge => kernel_rfl)
      (case xk_NoMerge => kernel_rfl)
      (case ki_NoMerge_CourtError => kit_is)
      (case ki_NoMerge_NoRow => kit_is)
      (case ki_NoMerge_TooMany => kit_is)
      (case ki_NoMerge_Changes => kit_is)
      (case ki_NoMerge_NoMerge => kit_is)
      (case ki_NoMerge_NoText => kit_is)
      (case ki_NoMerge_NoName => kit_is)
      (case ki_NoMerge_NoDeed => kit_is)
      (case kv_NoMerge => kit_is)
      (case kk_NoText => k_is)
      (case ex_NoText => kernel_rfl)
      (case xk_NoText => kernel_rfl)
      (case ki_NoText_CourtError => kit_is)
      (case ki_NoText_NoRow => kit_is)
      (case ki_NoText_TooMany => kit_is)
      (case ki_NoText_Changes => kit_is)
      (case ki_NoText_NoMerge => kit_is)
      (case ki_NoText_NoText => kit_is)
      (case ki_NoText_NoName => kit_is)
      (case ki_NoText_NoDeed => kit_is)
      (case kv_NoText => kit_is)
      (case kk_NoName => k_is)
      (case ex_NoName => kernel_rfl)
      (case xk_NoName => kernel_rfl)
      (case ki_NoName_CourtError => kit_is)
      (case ki_NoName_NoRow => kit_is)
      (case ki_NoName_TooMany => kit_is)
      (case ki_NoName_Changes => kit_is)
      (case ki_NoName_NoMerge => kit_is)
      (case ki_NoName_NoText => kit_is)
      (case ki_NoName_NoName => kit_is)
      (case ki_NoName_NoDeed => kit_is)
      (case kv_NoName => kit_is)
      (case kk_NoDeed => k_is)
      (case ex_NoDeed => kernel_rfl)
      (case xk_NoDeed => kernel_rfl)
      (case ki_NoDeed_CourtError => kit_is)
      (case ki_NoDeed_NoRow => kit_is)
      (case ki_NoDeed_TooMany => kit_is)
      (case ki_NoDeed_Changes => kit_is)
      (case ki_NoDeed_NoMerge => kit_is)
      (case ki_NoDeed_NoText => kit_is)
      (case ki_NoDeed_NoName => kit_is)
      (case ki_NoDeed_NoDeed => kit_is)
      (case kv_NoDeed => kit_is)
      (case a_Changes_init => k_is)
      (case i_Changes_init => k_is)
      (case l_Changes_init => k_is)
      (case k_Changes_init => k_is)
      (case e_Changes_init => k_is)
      (case a_law_kinds => k_is)
      (case l_law_kinds => k_is)
      (case k_law_kinds => k_is)
      (case e_law_kinds => k_is)
      (case a_law_value => k_is)
      (case l_law_value => k_is)
      (case k_law_value => k_is)
      (case e_law_value => k_is)
      (case a_law => k_is)
      (case l_law => k_is)
      (case k_law => k_is)
      (case e_law => k_is)
      (case z_isinstance => k_is)
      (case z_range => k_is)
      (case z_len => k_is)
      (case z_ValueError => k_is)
    obtain ⟨t, T⟩ := T
    have e0 := hmg.symm.trans T.m_law
    cases e0
    refine ⟨t.d_law, ?bb, fun base kb nb hB => My.ok_law T kb hB⟩
    exact fun s u => T.bind_law s u
