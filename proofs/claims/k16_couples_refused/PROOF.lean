import PyProof.Rows.All
import Wide.All
import OpenK.AllK
import Wide.FinOn
import Lean
import PyProof.EqAt
import PyProof.EqKinds
import PyProof.TupleCall
import PySem.Challenge.RW_yearpledge_k16_couples_refused
set_option Elab.async false
set_option linter.all false
set_option maxRecDepth 100000
namespace L2
open PySem PySem.Spec PyProof.Rows
/-- a key: an int or a str -/
abbrev Key := Sum Int Str
def keyIs : Key → Value → Bool
  | .inl k, v => Value.isInt k v
  | .inr x, v => Value.isStrOf x v
def keyH (w : World) : Key → Int
  | .inl k => hashInt k
  | .inr x => hashStr w x
theorem keyIs_shape : ∀ {k : Key} {v : Value}, keyIs k v = true → (∃ i t, k = Sum.inl i ∧ v = Value.int i t) ∨ (∃ x t, k = Sum.inr x ∧ v = Value.str x t)
  | .inl i, v, h => by
    obtain ⟨t, e⟩ := Value.isInt_shape (k := i) (v := v) h
    exact .inl ⟨i, t, rfl, e⟩
  | .inr x, v, h => by
    obtain ⟨t, e⟩ := Value.isStrOf_shape (x := x) (v := v) h
    exact .inr ⟨x, t, rfl, e⟩
theorem key_ll (a b : Int) : decide ((Sum.inl a : Key) = Sum.inl b) = (a == b) := by
  by_cases e : a = b
  · subst e; simp
  · have h : ¬ (Sum.inl a : Key) = Sum.inl b := fun q => e (Sum.inl.inj q)
    rw [decide_eq_false h]
    exact (beq_eq_false_iff_ne.mpr e).symm
theorem key_rr (a b : Str) : decide ((Sum.inr a : Key) = Sum.inr b) = decide (a = b) := by
  by_cases e : a = b
  · subst e; simp
  · have h : ¬ (Sum.inr a : Key) = Sum.inr b := fun q => e (Sum.inr.inj q)
    rw [decide_eq_false h, decide_eq_false e]
theorem key_lr (a : Int) (b : Str) : decide ((Sum.inl a : Key) = Sum.inr b) = false := decide_eq_false (fun q => nomatch q)
theorem key_rl (a : Str) (b : Int) : decide ((Sum.inr a : Key) = Sum.inl b) = false := decide_eq_false (fun q => nomatch q)
def mixKind (prog : Program) (w : World) : PySem.KeyKind prog w Key where
  is := keyIs
  hash := keyH w
  inj := fun v a b ha hb => by
    rcases keyIs_shape ha with ⟨i, t, rfl, rfl⟩ | ⟨x, t, rfl, rfl⟩
    · rcases keyIs_shape hb with ⟨j, u, rfl, e⟩ | ⟨y, u, rfl, e⟩
      · injection e with e1 _; rw [e1]
      · exact nomatch e
    · rcases keyIs_shape hb with ⟨j, u, rfl, e⟩ | ⟨y, u, rfl, e⟩
      · exact nomatch e
      · injection e with e1 _; rw [e1]
  byValue := fun k v h => by
    rcases keyIs_shape h with ⟨i, t, rfl, rfl⟩ | ⟨x, t, rfl, rfl⟩ <;> rfl
  pyHash := fun hv h => by
    rcases keyIs_shape hv with ⟨i, t, rfl, rfl⟩ | ⟨x, t, rfl, rfl⟩
    · exact wpAny_pyHash_int h
    · exact wpAny_pyHash_str h
  eqBool := fun hu hv h => by
    rcases keyIs_shape hu with ⟨i, t, rfl, rfl⟩ | ⟨x, t, rfl, rfl⟩
    · rcases keyIs_shape hv with ⟨j, u, rfl, rfl⟩ | ⟨y, u, rfl, rfl⟩
      · rw [key_ll] at h; exact wpAny_eqBool_int h
      · rw [key_lr] at h; exact SeqAt.EqAt.int_str i t y u _ _ _ _ h
    · rcases keyIs_shape hv with ⟨j, u, rfl, rfl⟩ | ⟨y, u, rfl, rfl⟩
      · rw [key_rl] at h; exact SeqAt.EqAt.str_int x t j u _ _ _ _ h
      · rw [key_rr] at h; exact wpAny_eqBool_str h
  «strs» := fun k x t v h => by
    rcases keyIs_shape h with ⟨i, u, rfl, e⟩ | ⟨y, u, rfl, e⟩
    · exact nomatch e
    · injection e with e1 _
      subst e1
      cases v <;> rfl
end L2
namespace L2
open PySem PySem.Spec PyProof.Rows
/-- a value, without the heap -/
inductive V where
  | non | bl (b : Bool) | int (i : Int) | str (x : Str) | byt (b : Array UInt8) | flt (b : UInt64) | ref (a : Addr) | ty (n : String)
  deriving DecidableEq
def RelV : V → Value → Prop
  | .non, u => u = Value.none
  | .bl b, u => u = Value.bool b
  | .int i, u => ∃ t, u = Value.int i t
  | .str x, u => ∃ t, u = Value.str x t
  | .byt b, u => ∃ t, u = Value.bytes b t
  | .flt b, u => ∃ t, u = Value.float b t
  | .ref a, u => u = Value.ref a
  | .ty n, u => u = Value.type n
abbrev Vals : List V → List Value → Prop := Paired RelV
theorem Vals.length {xs : List V} {us : List Value} (r : Vals xs us) : xs.length = us.length := Paired.length r
theorem Vals.get : ∀ {xs : List V} {us : List Value} {i : Nat} {x : V}, Vals xs us → xs[i]? = some x → ∃ u, us[i]? = some u ∧ RelV x u
  | _, _, _, _, .nil, e => by simp at e
  | _, _, 0, _, .cons r _, e => by simp at e; subst e; exact ⟨_, rfl, r⟩
  | _, _, i + 1, x, .cons _ t, e => by
    obtain ⟨u, h1, h2⟩ := Vals.get (i := i) (x := x) t (by simpa using e)
    exact ⟨u, by simpa using h1, h2⟩
theorem Vals.append : ∀ {xs ys : List V} {us ws : List Value}, Vals xs us → Vals ys ws → Vals (xs ++ ys) (us ++ ws)
  | _, _, _, _, .nil, s => s
  | _, _, _, _, .cons r t, s => .cons r (Vals.append t s)
theorem Vals.take : ∀ {xs : List V} {us : List Value} (n : Nat), Vals xs us → Vals (xs.take n) (us.take n)
  | _, _, 0, _ => .nil
  | _, _, _ + 1, .nil => .nil
  | _, _, n + 1, .cons r t => .cons r (Vals.take n t)
theorem Vals.drop : ∀ {xs : List V} {us : List Value} (n : Nat), Vals xs us → Vals (xs.drop n) (us.drop n)
  | _, _, 0, r => r
  | _, _, _ + 1, .nil => .nil
  | _, _, n + 1, .cons _ t => Vals.drop n t
def RelO : Option V → Option Value → Prop
  | some v, some u => RelV v u
  | none, none => True
  | _, _ => False
def KV {κ : Type} : List (κ × V) → List (κ × Value) → Prop := Paired fun (p : κ × V) (q : κ × Value) => p.1 = q.1 ∧ RelV p.2 q.2
/-- a key of a dict (00_mix): an int or a text -/
def kV : Key → V
  | .inl i => .int i
  | .inr x => .str x
/-- what stands at a tracked address -/
inductive HO where
  /-- a list -/
  | lst (xs : List V)
  /-- a tuple (never changes) -/
  | tup (xs : List V)
  /-- a dict whose keys are ints and texts; one whose keys are tuples of ints and texts (the empty one is both) -/
  | dK (kvs : List (Key × V)) | dT (kvs : List (List Key × V))
  /-- a set of ints: its members, its size -/
  | set (S : Int → Bool) (n : Nat)
  /-- an instance of the class at C, its dict at dx, its attributes -/
  | ins (C dx : Addr) (fs : List (Str × V))
  /-- the dict of the instance at x -/
  | own (x : Addr)
  /-- the dict of an exception -/
  | xd (fs : List (Str × V))
  /-- a bound method, f of x -/
  | met (f x : Addr)
  /-- a range object lo, lo + 1, .. below hi -/
  | rng (lo hi : Int)
  /-- a thing that is known to the object (the script; a dict while a loop walks it): read, never written while it is so -/
  | frz (o : Obj) (u : HO)
  /-- a code object's table -/
  | tbl (ps : Array Value)
  /-- any other thing, by what is true of its one object (a def of one's own: SetO a S n := HO.ext fun h => ..) -/
  | ext (φ : Heap → Prop)
abbrev Hp := Addr → Option HO
def upd (H : Hp) (a : Addr) (o : HO) : Hp := fun b => if b = a then some o else H b
theorem upd_same {H : Hp} {a : Addr} {o : HO} : upd H a o a = some o := by unfold upd; rw [if_pos rfl]
theorem upd_ne {H : Hp} {a b : Addr} {o : HO} (h : b ≠ a) : upd H a o b = H b := by unfold upd; rw [if_neg h]
theorem ne_of_none {H : Hp} {a b : Addr} {o : HO} (h : H a = some o) (h' : H b = none) : a ≠ b := by
  intro e; subst e; rw [h] at h'; cases h'
section
variable (P : Program) (w : World)
def ObjOk (H : Hp) (h : Heap) (a : Addr) : HO → Prop
  | .lst xs => xs.length ≤ sizeLine ∧ ∃ (its : List Value) (n : Nat), Vals xs its ∧ h.get? a = some { cls := .type "list", data := .seq its.toArray n }
  | .tup xs => xs.length ≤ sizeLine ∧ ∃ its : List Value, Vals xs its ∧ IsTup h a its.toArray
  | .dK kvs => kvs.length ≤ sizeLine ∧ (a == sysModules) = false ∧ ∃ vs, KV kvs vs ∧ h.DictOf (mixKind P w) a vs
  | .dT kvs => kvs.length ≤ sizeLine ∧ (a == sysModules) = false ∧ ∃ xs : List (List Key × Addr × Value),
      Paired (fun (p : List Key × V) (q : List Key × Addr × Value) => p.1 = q.1 ∧ H q.2.1 = some (.tup (p.1.map kV)) ∧ RelV p.2 q.2.2) kvs xs ∧
      ∃ o es ep, h.get? a = some o ∧ o.ExactDict ∧ o.data = .dict es ep ∧ es.toList = xs.map (entryOfKey (tupleKind (mixKind P w))) ∧ (xs.map (·.1)).Nodup
  | .set S n => h.SetOf (intKind P w) a S n
  | .ins C dx fs => H dx = some (.own a) ∧ fs.length ≤ 1000 ∧ dx ≠ a ∧ h.get? a = some (PySem.W.instObj C dx) ∧
      ∃ mA, h.Ns1 dx mA ∧ (∀ f, RelO (fs.lookup f) (mA f)) ∧ PySem.Within mA (fs.map (·.1))
  | .own _ => ∃ o, h.get? a = some o
  | .xd fs => ∃ mA, h.Ns1 a mA ∧ ∀ f, RelO (fs.lookup f) (mA f)
  | .rng lo hi => ∃ t u v, h.get? a = some { cls := .type "range", data := .fields #[.int lo t, .int hi u, .int 1 v] }
  | .frz o u => h.get? a = some o ∧ ObjOk H h a u
  | .tbl ps => h.get? a = some { cls := .none, data := .fields ps }
  | .met f x => h.get? a = some (PySem.W.methodObj (.ref f) (.ref x))
  | .ext φ => φ h ∧ (∃ o, h.get? a = some o) ∧ ∀ h1 h2 : Heap, φ h1 → (∀ o, h1.get? a = some o → h2.get? a = some o) → φ h2
/-- the abstract heap is held -/
def HOk (H : Hp) (h : Heap) : Prop := ∀ a o, H a = some o → ObjOk P w H h a o
end
section
variable {P : Program} {w : World} {H H' : Hp} {h h' : Heap} {a : Addr} {o : HO}
theorem ObjOk.lt (x : ObjOk P w H h a o) : a < h.objs.size := by
  cases o with
  | lst xs => obtain ⟨_, _, _, _, e⟩ := x; exact Heap.lt_size e
  | tup xs => obtain ⟨_, _, _, p⟩ := x; exact p.lt
  | dK kvs => obtain ⟨_, _, _, _, o, _, _, e, _⟩ := x; exact Heap.lt_size e
  | dT kvs => obtain ⟨_, _, _, _, o, _, _, e, _⟩ := x; exact Heap.lt_size e
  | set S n => obtain ⟨o, _, _, _, e, _⟩ := x; exact Heap.lt_size e
  | ins C dx fs => obtain ⟨_, _, _, e, _⟩ := x; exact Heap.lt_size e
  | own y => obtain ⟨_, e⟩ := x; exact Heap.lt_size e
  | xd fs => obtain ⟨_, ⟨_, _, _, e, _⟩, _⟩ := x; exact Heap.lt_size e
  | rng lo hi => obtain ⟨_, _, _, e⟩ := x; exact Heap.lt_size e
  | frz ob u => obtain ⟨e, _⟩ := x; exact Heap.lt_size e
  | tbl ps => exact Heap.lt_size (show h.get? a = some _ from x)
  | met f y => exact Heap.lt_size (show h.get? a = some _ from x)
  | ext φ => obtain ⟨_, ⟨_, e⟩, _⟩ := x; exact Heap.lt_size e
theorem Paired.mapP {α β : Type} {F G : α → β → Prop} : ∀ {l₁ : List α} {l₂ : List β}, Paired F l₁ l₂ → (∀ a b, F a b → G a b) → Paired G l₁ l₂
  | _, _, .nil, _ => .nil
  | _, _, .cons r t, f => .cons (f _ _ r) (Paired.mapP t f)
/-- what an object's description leans on: its own object, its own dict, the tuples -/
theorem ObjOk.stay (x : ObjOk P w H h a o) (k : ∀ b u, (b = a ∨ H b = some (.own a)) → h.get? b = some u → h'.get? b = some u)
    (ho : ∀ b, H b = some (.own a) → H' b = some (.own a)) (ht : ∀ b xs, H b = some (.tup xs) → H' b = some (.tup xs)) : ObjOk P w H' h' a o := by
  induction o with
  | lst xs => obtain ⟨z, its, n, r, e⟩ := x; exact ⟨z, its, n, r, k _ _ (.inl rfl) e⟩
  | tup xs => obtain ⟨z, its, r, ob, e, c⟩ := x; exact ⟨z, its, r, ob, k _ _ (.inl rfl) e, c⟩
  | dK kvs => obtain ⟨z, y, vs, r, ob, es, ep, e, c⟩ := x; exact ⟨z, y, vs, r, ob, es, ep, k _ _ (.inl rfl) e, c⟩
  | dT kvs =>
    obtain ⟨z, y, xs, r, ob, es, ep, e, c⟩ := x
    exact ⟨z, y, xs, Paired.mapP r fun p q z => ⟨z.1, ht _ _ z.2.1, z.2.2⟩, ob, es, ep, k _ _ (.inl rfl) e, c⟩
  | set S n => obtain ⟨ob, es, ep, t, e, c⟩ := x; exact ⟨ob, es, ep, t, k _ _ (.inl rfl) e, c⟩
  | ins C dx fs =>
    obtain ⟨d, z, ne, e, mA, ⟨od, es, ep, e2, c⟩, r⟩ := x
    exact ⟨ho _ d, z, ne, k _ _ (.inl rfl) e, mA, ⟨od, es, ep, k _ _ (.inr d) e2, c⟩, r⟩
  | own y => obtain ⟨ob, e⟩ := x; exact ⟨ob, k _ _ (.inl rfl) e⟩
  | xd fs => obtain ⟨mA, ⟨od, es, ep, e, c⟩, r⟩ := x; exact ⟨mA, ⟨od, es, ep, k _ _ (.inl rfl) e, c⟩, r⟩
  | rng lo hi => obtain ⟨t, u, v, e⟩ := x; exact ⟨t, u, v, k _ _ (.inl rfl) e⟩
  | frz ob u ih => obtain ⟨e, q⟩ := x; exact ⟨k _ _ (.inl rfl) e, ih q⟩
  | tbl ps =>
    have e : h.get? a = some { cls := .none, data := .fields ps } := x
    show h'.get? a = some { cls := .none, data := .fields ps }
    exact k a _ (.inl rfl) e
  | met f y =>
    have e : h.get? a = some (PySem.W.methodObj (.ref f) (.ref y)) := x
    show h'.get? a = some (PySem.W.methodObj (.ref f) (.ref y))
    exact k a _ (.inl rfl) e
  | ext φ => obtain ⟨p, ⟨o, e⟩, st⟩ := x; exact ⟨st _ _ p fun o q => k _ _ (.inl rfl) q, ⟨o, k _ _ (.inl rfl) e⟩, st⟩
theorem HOk.lt (x : HOk P w H h) (e : H a = some o) : a < h.objs.size := (x a o e).lt
theorem HOk.fresh (x : HOk P w H h) (e : h.objs.size ≤ a) : H a = none := by
  cases q : H a with
  | none => rfl
  | some u => exact absurd (Nat.lt_of_lt_of_le (x.lt q) e) (Nat.lt_irrefl _)
/-- every object of the heap is kept -/
theorem HOk.kept (x : HOk P w H h) (k : ∀ b u, h.get? b = some u → h'.get? b = some u) : HOk P w H h' := fun a o e =>
  (x a o e).stay (fun b u _ q => k b u q) (fun _ q => q) fun _ _ q => q
/-- a new object is laid and tracked -/
theorem HOk.laid (x : HOk P w H h) (k : ∀ b u, h.get? b = some u → h'.get? b = some u) (hp : h.objs.size ≤ a) (new : ObjOk P w (upd H a o) h' a o) : HOk P w (upd H a o) h' := fun b u e => by
  have hn := x.fresh hp
  by_cases hb : b = a
  · subst hb; rw [upd_same] at e; cases e; exact new
  · rw [upd_ne hb] at e
    exact (x b u e).stay (fun c v _ q => k c v q) (fun c q => by rw [upd_ne (ne_of_none q hn)]; exact q) fun c xs q => by rw [upd_ne (ne_of_none q hn)]; exact q
end
/-- what may be read as u: it is u, or a known u -/
def Rd (H : Hp) (a : Addr) (u : HO) : Prop := H a = some u ∨ ∃ o, H a = some (.frz o u)
theorem Rd.ok {P : Program} {w : World} {H : Hp} {h : Heap} {a : Addr} {u : HO} (r : Rd H a u) (x : HOk P w H h) : ObjOk P w H h a u := by
  rcases r with r | ⟨o, r⟩
  · exact x a u r
  · obtain ⟨_, q⟩ := x a _ r
    exact q
/-- what may be written -/
def Mut : Option HO → Prop
  | some (.lst _) => True
  | some (.dK _) => True
  | some (.dT _) => True
  | some (.set _ _) => True
  | some (.ins _ _ _) => True
  | some (.ext _) => True
  | _ => False
section
variable {P : Program} {w : World} {H : Hp} {h h' : Heap} {x e : Addr} {o' : HO}
/-- the object at e is changed: x itself, or the dict of the instance x -/
theorem HOk.write (ok : HOk P w H h) (mu : Mut (H x)) (he : e = x ∨ H e = some (.own x)) (k : ∀ b u, b ≠ e → h.get? b = some u → h'.get? b = some u) (heo : ∃ u, h'.get? e = some u)
    (new : ObjOk P w (upd H x o') h' x o') : HOk P w (upd H x o') h' := fun b u q => by
  have nown : ∀ c y, H c = some (.own y) → c ≠ x := fun c y r z => by subst z; rw [r] at mu; exact mu
  have ntup : ∀ c xs, H c = some (.tup xs) → c ≠ x := fun c xs r z => by subst z; rw [r] at mu; exact mu
  by_cases hb : b = x
  · subst hb; rw [upd_same] at q; cases q; exact new
  · rw [upd_ne hb] at q
    by_cases hbe : b = e
    · have q' : H b = some (.own x) := by
        rcases he with z | z
        · exact absurd (hbe.trans z) hb
        · rw [hbe]; exact z
      rw [q] at q'; cases q'
      obtain ⟨v, hv⟩ := heo
      exact ⟨v, by rw [hbe]; exact hv⟩
    · refine (ok b u q).stay (fun c v hc r => k c v ?_ r) (fun c r => by rw [upd_ne (nown c b r)]; exact r) fun c xs r => by rw [upd_ne (ntup c xs r)]; exact r
      rcases hc with rfl | hc
      · exact hbe
      · rintro rfl
        rcases he with z | z
        · exact nown c b hc z
        · rw [hc] at z; cases z; exact hb rfl
end
structure Un (fs ex : List Addr) (H H' : Hp) (h h' : Heap) : Prop where
  keep : ∀ b o, h.get? b = some o → H b = none → b ∉ fs → b ∉ ex → h'.get? b = some o
  slot : ∀ b o, h.get? b = some o → H b = none → b ∈ fs → b ∉ ex → ∃ sl, h'.get? b = some { o with slots := sl }
  free : ∀ b o, h.get? b = some o → H b = none → b ∉ ex → H' b = none
  there : ∀ b o, h.get? b = some o → b ∉ ex → ∃ o', h'.get? b = some o'
  tups : ∀ b xs, H b = some (.tup xs) → H' b = some (.tup xs)
  frzs : ∀ b o u, H b = some (.frz o u) → H' b = some (.frz o u)
  tbls : ∀ b ps, H b = some (.tbl ps) → ∃ more, H' b = some (.tbl (ps ++ more))
section
variable {fs fs' ex ex' : List Addr} {H H1 H2 : Hp} {h h1 h2 h' : Heap} {a x e : Addr} {o : HO}
theorem Un.any (u : Un fs ex H H1 h h1) {b : Addr} {ob : Obj} (q : h.get? b = some ob) (n : H b = none) (hx : b ∉ ex) : ∃ sl, h1.get? b = some { ob with slots := sl } := by
  by_cases hb : b ∈ fs
  · exact u.slot b ob q n hb hx
  · exact ⟨ob.slots, u.keep b ob q n hb hx⟩
theorem Un.trans (a : Un fs ex H H1 h h1) (b : Un fs ex H1 H2 h1 h2) : Un fs ex H H2 h h2 where
  keep := fun c ob q n hc hx => b.keep c ob (a.keep c ob q n hc hx) (a.free c ob q n hx) hc hx
  slot := fun c ob q n hc hx => by
    obtain ⟨sl, e1⟩ := a.slot c ob q n hc hx
    obtain ⟨sl', e2⟩ := b.slot c _ e1 (a.free c ob q n hx) hc hx
    exact ⟨sl', e2⟩
  free := fun c ob q n hx => by
    obtain ⟨o', e1⟩ := a.there c ob q hx
    exact b.free c o' e1 (a.free c ob q n hx) hx
  there := fun c ob q hx => by
    obtain ⟨o', e1⟩ := a.there c ob q hx
    exact b.there c o' e1 hx
  tups := fun c xs q => b.tups c xs (a.tups c xs q)
  frzs := fun c ob xs q => b.frzs c ob xs (a.frzs c ob xs q)
  tbls := fun c ps q => by
    obtain ⟨m1, e1⟩ := a.tbls c ps q
    obtain ⟨m2, e2⟩ := b.tbls c _ e1
    exact ⟨m1 ++ m2, by rw [e2, Array.append_assoc]⟩
theorem Un.kept (k : ∀ b u, h.get? b = some u → h'.get? b = some u) : Un fs ex H H h h' :=
  ⟨fun b ob q _ _ _ => k b ob q, fun b ob q _ _ _ => ⟨ob.slots, k b ob q⟩, fun _ _ _ n _ => n, fun b ob q _ => ⟨ob, k b ob q⟩, fun _ _ q => q, fun _ _ _ q => q, fun _ ps q => ⟨#[], by rw [q]; simp⟩⟩
theorem Un.refl : Un fs ex H H h h := Un.kept fun _ _ q => q
theorem Un.laid (k : ∀ b u, h.get? b = some u → h'.get? b = some u) (hp : h.objs.size ≤ a) (hn : H a = none) : Un fs ex H (upd H a o) h h' where
  keep := fun b u q _ _ _ => k b u q
  slot := fun b u q _ _ _ => ⟨u.slots, k b u q⟩
  free := fun b u q n _ => by rw [upd_ne (Nat.ne_of_lt (Nat.lt_of_lt_of_le (Heap.lt_size q) hp))]; exact n
  there := fun b u q _ => ⟨u, k b u q⟩
  tups := fun b xs q => by rw [upd_ne (ne_of_none q hn)]; exact q
  frzs := fun b u xs q => by rw [upd_ne (ne_of_none q hn)]; exact q
  tbls := fun b ps q => ⟨#[], by rw [upd_ne (ne_of_none q hn), q]; simp⟩
theorem Un.write (mu : Mut (H x)) (he : e = x ∨ H e = some (.own x)) (k : ∀ b u, b ≠ e → h.get? b = some u → h'.get? b = some u) (heo : ∃ u, h'.get? e = some u) : Un fs ex H (upd H x o) h h' := by
  have hx : ∀ b, H b = none → b ≠ x := fun b n z => by subst z; rw [n] at mu; exact mu
  have hb : ∀ b, H b = none → b ≠ e := fun b n z => by
    subst z
    rcases he with r | r
    · exact hx b n r
    · rw [n] at r; cases r
  have hm : ∀ b u, H b = some u → ¬ Mut (some u) → b ≠ x := fun b u q nm z => by subst z; rw [q] at mu; exact nm mu
  refine ⟨fun b u q n _ _ => k b u (hb b n) q, fun b u q n _ _ => ⟨u.slots, k b u (hb b n) q⟩, fun b u q n _ => by rw [upd_ne (hx b n)]; exact n, fun b u q _ => ?_,
    fun b xs q => by rw [upd_ne (hm b _ q fun z => z)]; exact q, fun b u xs q => by rw [upd_ne (hm b _ q fun z => z)]; exact q, fun b ps q => ⟨#[], by rw [upd_ne (hm b _ q fun z => z), q]; simp⟩⟩
  by_cases hbe : b = e
  · subst hbe; exact heo
  · exact ⟨u, k b u hbe q⟩
end
def trk (h : Heap) (H : Hp) : List Addr := (List.range h.objs.size).filter fun a => (H a).isSome
def hidT (h : Heap) (H : Hp) : Heap := PySem.W.hideAll h (trk h H)
theorem hidT_size (h : Heap) (H : Hp) : (hidT h H).objs.size = h.objs.size := PySem.W.hideAll_size _ _
theorem hidT_get {h : Heap} {H : Hp} {b : Addr} {o : Obj} (e : h.get? b = some o) (n : H b = none) : (hidT h H).get? b = some o :=
  PySem.W.hideAll_get _ e fun hm => by
    have q : (H b).isSome = true := (List.mem_filter.mp hm).2
    rw [n] at q; simp at q
theorem of_hidT {h : Heap} {H : Hp} {b : Addr} {o : Obj} (e : (hidT h H).get? b = some o) : h.get? b = some o ∧ H b = none := by
  have e' : h.get? b = some o := PySem.W.of_hideAll (trk h H) e
  refine ⟨e', ?_⟩
  cases q : H b with
  | none => rfl
  | some x =>
    have hm : b ∈ trk h H := List.mem_filter.mpr ⟨List.mem_range.mpr (Heap.lt_size e'), by simp [q]⟩
    have z : (hidT h H).get? b = none := PySem.W.hideAll_none (trk h H) hm
    rw [z] at e; cases e
def allNews (g h : Heap) (L : Addr) : List (Addr × Obj) := (List.range h.objs.size).filterMap fun a => if a = L ∨ (g.get? a).isSome = true then none else (h.get? a).map fun o => (a, o)
def rest (g h : Heap) (L d : Addr) : List (Addr × Obj) := (allNews g h L).filter fun p => decide (p.1 ≠ d)
end L2
namespace L2
open PySem PySem.Spec PyProof.Rows
/-- the module's facts, over the base: the heap at the law's entry without what is tracked there -/
structure Mod (K : PySem.W.Frag) (mg : Str → Option Value) (base : Heap) : Prop where
  kin : K.In base
  glob : base.Ns mainGlobals mg
  blt : ∃ mb, base.Ns builtinsNs mb ∧ ∀ x : Str, x ≠ "__name__" → mb x = bootBuiltins x
  nolimit : base.NoLimit
/-- the context: a def's body (or a comprehension's block) running. base: fixed through the whole law; s₀, H₀: the entry; outer: the frames whose slots others may change (a def's callers); stack: all frames that run;
   ex: iterators that were made ahead of the entry and are walked here (a comprehension's); fn: the names whose cells were made at the entry (a def: all; a comprehension's block: its own); calm: not within an except suite; pn: pins that every state bears; xe: what is wanted of an exception that leaves the code -/
structure Cx where
  prog : Program
  w : World
  K : PySem.W.Frag
  mg : Str → Option Value
  base : Heap
  A : Around
  N : List Str
  s₀ : Shared
  H₀ : Hp
  env : Env
  outer : List Env
  stack : List Env
  ex : List Addr
  fn : Str → Bool
  calm : Bool
  pn : List (Addr × Obj)
  xe : Value → Shared → Prop
/-- the callers' frames -/
def frs (l : List Env) : List Addr := l.filterMap (·.frame)
abbrev Cx.fs (X : Cx) : List Addr := frs X.outer
def Vis (sc : Scope) (x : Str) : Prop := sc.names.lookup x = some .local ∨ sc.names.lookup x = some .cell ∨ sc.names.lookup x = some .free
def Loc (sc : Scope) (x : Str) : Prop := sc.names.lookup x = some .local ∨ sc.names.lookup x = some .cell
def Look (env : Env) (h : Heap) (m : Str → Option Value) (x : Str) (u : Value) : Prop :=
  (env.kindOf x = some .local ∧ m x = some u) ∨ ((env.kindOf x = some .cell ∨ env.kindOf x = some .free) ∧ ∃ c, env.cells.lookup x = some c ∧ h.IsCell c (some u))
structure Cx.Ok (X : Cx) : Prop where
  mod : Mod X.K X.mg X.base
  kind : X.env.scope.kind = .function
  glob : X.env.globals = mainGlobals
  blt : X.env.builtins = builtinsNs
  above : X.s₀.heap.objs.size ≤ X.env.locals
  inj : ∀ x y c, X.env.cells.lookup x = some c → X.env.cells.lookup y = some c → x = y
  has : ∀ x, (X.env.kindOf x = some .cell ∨ X.env.kindOf x = some .free) → ∃ c, X.env.cells.lookup x = some c
  cab : ∀ x c, X.fn x = true → X.env.cells.lookup x = some c → X.s₀.heap.objs.size ≤ c
  hd : X.calm = true → X.A.handled = none
  frames : X.A.frames = some X.stack
  stk : X.stack = X.outer ∨ (X.stack = X.env :: X.outer ∧ X.env.frame = some X.env.locals)
  exf : ∀ b ∈ X.ex, b ≠ X.env.locals ∧ ∀ x c, X.env.cells.lookup x = some c → c ≠ b
  bs : ∀ b o, X.base.get? b = some o → X.s₀.heap.get? b = some o ∧ X.H₀ b = none
  bsz : X.base.objs.size ≤ X.s₀.heap.objs.size
  noex : ∀ b o, X.base.get? b = some o → b ∉ X.ex
  exfs : ∀ b ∈ X.ex, b ∉ X.fs
  funs : X.s₀.heap.FunFrames X.base X.outer
  frf : ∀ b ∈ X.fs, X.H₀ b = none
structure Inv (X : Cx) (pins : List (Addr × Obj)) (σ : List (Option V)) (H : Hp) (s : Shared) : Prop where
  ok : X.Ok
  os : s.os = X.s₀.os
  bare : AllBare s.gens
  base : Un X.fs X.ex X.H₀ H X.s₀.heap s.heap
  loc : ∃ m, s.heap.Ns X.env.locals m ∧ ∀ (i : Nat) (x : Str) (v : V), X.N[i]? = some x → σ[i]? = some (some v) → Vis X.env.scope x → ∃ u, RelV v u ∧ Look X.env s.heap m x u
  cell : ∀ x c, X.env.cells.lookup x = some c → ∃ v, s.heap.IsCell c v
  free : H X.env.locals = none
  freeC : ∀ x c, X.env.cells.lookup x = some c → H c = none
  pin : ∀ p ∈ X.pn ++ pins, s.heap.get? p.1 = some p.2 ∧ H p.1 = none ∧ p.1 ≠ X.env.locals ∧ p.1 ∉ X.fs ∧ ∀ v, p.2.data ≠ .cell v
  hok : HOk X.prog X.w H s.heap
  len : σ.length = X.N.length
section
variable {X : Cx} {pins : List (Addr × Obj)} {σ : List (Option V)} {H H' : Hp} {s : Shared} {h' : Heap}
theorem Cx.Ok.nofr (ok : X.Ok) {b : Addr} {o : Obj} (e : X.base.get? b = some o) : b ∉ X.fs := fun hb => by
  have := (ok.funs.mem hb).1
  rw [e] at this; cases this
theorem Inv.bs (I : Inv X pins σ H s) : ∀ b o, X.base.get? b = some o → s.heap.get? b = some o ∧ H b = none := fun b o e =>
  ⟨I.base.keep b o (I.ok.bs b o e).1 (I.ok.bs b o e).2 (I.ok.nofr e) (I.ok.noex b o e), I.base.free b o (I.ok.bs b o e).1 (I.ok.bs b o e).2 (I.ok.noex b o e)⟩
theorem Inv.bk (I : Inv X pins σ H s) : ∀ b o, X.base.get? b = some o → s.heap.get? b = some o := fun b o e => (I.bs b o e).1
theorem Inv.mod (I : Inv X pins σ H s) : Mod X.K X.mg X.base := I.ok.mod
theorem Inv.kIn (I : Inv X pins σ H s) : X.K.In s.heap := I.ok.mod.kin.keeps I.bk
theorem Inv.nolimit (I : Inv X pins σ H s) : s.heap.NoLimit := I.ok.mod.nolimit.keeps I.bk
/-- the frame over the base: for OpenK's rules (K.In X.base is I.mod.kin) -/
theorem Inv.fr (I : Inv X pins σ H s) : ∃ m, Fr X.base X.env.locals s.heap m :=
  let ⟨m, hn, _⟩ := I.loc
  ⟨m, hn, I.bk, Nat.le_trans I.ok.bsz I.ok.above⟩
theorem Inv.lt (I : Inv X pins σ H s) : X.env.locals < s.heap.objs.size := let ⟨_, hn, _⟩ := I.loc; hn.lt
theorem Inv.sz (I : Inv X pins σ H s) : X.s₀.heap.objs.size ≤ s.heap.objs.size := Nat.le_trans I.ok.above (Nat.le_of_lt I.lt)
theorem Inv.nofs (I : Inv X pins σ H s) {a : Addr} (h : s.heap.objs.size ≤ a) : a ∉ X.fs := fun hb => by
  obtain ⟨_, o, ho, _⟩ := I.ok.funs.mem hb
  exact absurd (Nat.lt_of_lt_of_le (Heap.lt_size ho) (Nat.le_trans I.sz h)) (Nat.lt_irrefl _)
theorem Inv.cne (I : Inv X pins σ H s) : ∀ x c, X.env.cells.lookup x = some c → c ≠ X.env.locals := fun x c e z => by
  obtain ⟨v, o, ho, hd⟩ := I.cell x c e
  obtain ⟨m, ⟨o', es, ep, ho', hd', _⟩, _⟩ := I.loc
  rw [z, ho'] at ho; cases ho; rw [hd'] at hd; cases hd
theorem Inv.funs (I : Inv X pins σ H s) : s.heap.FunFrames X.base X.outer := by
  have all : ∀ (l : List Env), (∀ b ∈ frs l, b ∈ X.fs) → X.s₀.heap.FunFrames X.base l → s.heap.FunFrames X.base l := by
    intro l
    induction l with
    | nil => intro _ _; trivial
    | cons env r ih =>
      intro hs hl
      obtain ⟨hk, ⟨L, o, hf, hn, ho, hd⟩, hr⟩ := hl
      have hL : L ∈ X.fs := hs L (by unfold frs; rw [List.filterMap_cons, hf]; exact List.mem_cons_self)
      obtain ⟨sl, e⟩ := I.base.slot L o ho (I.ok.frf L hL) hL fun z => I.ok.exfs L z hL
      exact ⟨hk, ⟨L, _, hf, hn, e, hd⟩, ih (fun b hb => hs b (by unfold frs; rw [List.filterMap_cons, hf]; exact List.mem_cons_of_mem _ hb)) hr⟩
  exact all X.outer (fun _ hb => hb) I.ok.funs
/-- the frames that run, for a call -/
theorem Inv.stack (I : Inv X pins σ H s) : s.heap.FunFrames X.base X.stack := by
  rcases I.ok.stk with e | ⟨e, hf⟩
  · rw [e]; exact I.funs
  · rw [e]
    obtain ⟨m, hn, _⟩ := I.loc
    refine .cons (by rw [I.ok.kind]; decide) hf hn ?_ I.funs
    exact Heap.get?_none_of_le (Nat.le_trans I.ok.bsz I.ok.above)
theorem Inv.stkSub (I : Inv X pins σ H s) : ∀ b ∈ frs X.stack, b ∈ X.env.locals :: X.fs := fun b hb => by
  rcases I.ok.stk with e | ⟨e, hf⟩
  · rw [e] at hb; exact List.mem_cons_of_mem _ hb
  · rw [e] at hb
    unfold frs at hb
    rw [List.filterMap_cons, hf] at hb
    exact hb
theorem Inv.stkFree (I : Inv X pins σ H s) : ∀ b ∈ frs X.stack, H b = none := fun b hb => by
  rcases List.mem_cons.mp (I.stkSub b hb) with e | hb
  · rw [e]; exact I.free
  · obtain ⟨_, o, ho, _⟩ := I.ok.funs.mem hb
    exact I.base.free b o ho (I.ok.frf b hb) fun z => I.ok.exfs b z hb
/-- THE STEP: the untracked objects but the frame and the records at ch are kept (the callers' frames up to slots), the frame's map is kept, the new abstract heap is held -/
theorem Inv.step {g' : Array GenState} {t' : Nat} {d' : Drawn} {ch : List Addr} (I : Inv X pins σ H s)
    (hch : ∀ b ∈ ch, (b ∈ X.ex ∨ X.s₀.heap.objs.size ≤ b) ∧ b ≠ X.env.locals ∧ (∀ x c, X.env.cells.lookup x = some c → c ≠ b) ∧ ∀ p ∈ X.pn ++ pins, p.1 ≠ b)
    (keep : ∀ b o, b ≠ X.env.locals → b ∉ X.fs → b ∉ ch → s.heap.get? b = some o → H b = none → h'.get? b = some o)
    (slot : ∀ b o, b ≠ X.env.locals → b ∈ X.fs → b ∉ ch → s.heap.get? b = some o → H b = none → ∃ sl, h'.get? b = some { o with slots := sl }) (free : ∀ b o, b ∉ ch → s.heap.get? b = some o → H b = none → H' b = none)
    (there : ∀ b o, b ∉ ch → s.heap.get? b = some o → ∃ o', h'.get? b = some o')
    (tups : ∀ b xs, H b = some (.tup xs) → H' b = some (.tup xs)) (frzs : ∀ b o u, H b = some (.frz o u) → H' b = some (.frz o u)) (tbls : ∀ b ps, H b = some (.tbl ps) → ∃ more, H' b = some (.tbl (ps ++ more)))
    (ns : ∀ m, s.heap.Ns X.env.locals m → h'.Ns X.env.locals m) (hok : HOk X.prog X.w H' h') (hg : AllBare g') :
    Inv X pins σ H' { s with heap := h', gens := g', drawn := d', toks := t' } := by
  have neL : ∀ b o, X.s₀.heap.get? b = some o → b ≠ X.env.locals := fun b o e => Nat.ne_of_lt (Nat.lt_of_lt_of_le (Heap.lt_size e) I.ok.above)
  have neC : ∀ b o, X.s₀.heap.get? b = some o → b ∉ X.ex → b ∉ ch := fun b o e hx hb => by
    rcases (hch b hb).1 with z | z
    · exact hx z
    · exact absurd (Nat.lt_of_lt_of_le (Heap.lt_size e) z) (Nat.lt_irrefl _)
  have cellK : ∀ x c, X.env.cells.lookup x = some c → ∀ v, s.heap.IsCell c v → h'.IsCell c v := fun x c e v ⟨o, ho, hd⟩ => by
    have nch : c ∉ ch := fun z => (hch c z).2.2.1 x c e rfl
    by_cases hc : c ∈ X.fs
    · obtain ⟨sl, q⟩ := slot c o (I.cne x c e) hc nch ho (I.freeC x c e)
      exact ⟨_, q, hd⟩
    · exact ⟨o, keep c o (I.cne x c e) hc nch ho (I.freeC x c e), hd⟩
  refine ⟨I.ok, I.os, hg, ⟨fun b o e n hb hx => ?_, fun b o e n hb hx => ?_, fun b o e n hx => ?_, fun b o e hx => ?_, fun b xs e => tups b xs (I.base.tups b xs e), fun b o xs e => frzs b o xs (I.base.frzs b o xs e), fun b ps e => ?_⟩, ?_, fun x c e => ?_, ?_, fun x c e => ?_, fun p hp => ?_, hok, I.len⟩
  · exact keep b o (neL b o e) hb (neC b o e hx) (I.base.keep b o e n hb hx) (I.base.free b o e n hx)
  · obtain ⟨sl, e1⟩ := I.base.slot b o e n hb hx
    obtain ⟨sl', e2⟩ := slot b _ (neL b o e) hb (neC b o e hx) e1 (I.base.free b o e n hx)
    exact ⟨sl', e2⟩
  · obtain ⟨o', e1⟩ := I.base.there b o e hx
    exact free b o' (neC b o e hx) e1 (I.base.free b o e n hx)
  · obtain ⟨o', e1⟩ := I.base.there b o e hx
    exact there b o' (neC b o e hx) e1
  · obtain ⟨m1, e1⟩ := I.base.tbls b ps e
    obtain ⟨m2, e2⟩ := tbls b _ e1
    exact ⟨m1 ++ m2, by rw [e2, Array.append_assoc]⟩
  · obtain ⟨m, hn, hl⟩ := I.loc
    refine ⟨m, ns m hn, fun i x v e1 e2 e3 => ?_⟩
    obtain ⟨u, r, l⟩ := hl i x v e1 e2 e3
    refine ⟨u, r, ?_⟩
    rcases l with l | ⟨k, c, e, z⟩
    · exact .inl l
    · exact .inr ⟨k, c, e, cellK x c e _ z⟩
  · obtain ⟨v, z⟩ := I.cell x c e
    exact ⟨v, cellK x c e v z⟩
  · obtain ⟨m, ⟨o, _, _, ho, _⟩, _⟩ := I.loc
    exact free _ o (fun z => (hch _ z).2.1 rfl) ho I.free
  · obtain ⟨v, o, ho, hd⟩ := I.cell x c e
    exact free c o (fun z => (hch c z).2.2.1 x c e rfl) ho (I.freeC x c e)
  · obtain ⟨e, n, ne, nf, d⟩ := I.pin p hp
    have nch : p.1 ∉ ch := fun z => (hch p.1 z).2.2.2 p hp rfl
    exact ⟨keep p.1 p.2 ne nf nch e n, free p.1 p.2 nch e n, ne, nf, d⟩
/-- .. where the frame's own object is kept too -/
theorem Inv.un {t' : Nat} (I : Inv X pins σ H s) (u : Un X.fs [] H H' s.heap h') (hok : HOk X.prog X.w H' h') : Inv X pins σ H' { s with heap := h', toks := t' } := by
  obtain ⟨m, ⟨o, es, ep, ho, r⟩, _⟩ := id I.loc
  obtain ⟨sl, hL⟩ := u.any ho I.free (by simp)
  exact I.step (g' := s.gens) (d' := s.drawn) (ch := []) (fun _ z => nomatch z) (fun b o _ hb _ e n => u.keep b o e n hb (by simp)) (fun b o _ hb _ e n => u.slot b o e n hb (by simp)) (fun b o _ e n => u.free b o e n (by simp)) (fun b o _ e => u.there b o e (by simp)) u.tups u.frzs u.tbls (fun m' hm => by
    obtain ⟨o', es', ep', ho', r'⟩ := hm
    rw [ho] at ho'; cases ho'
    exact ⟨_, es', ep', hL, r'⟩) hok I.bare
/-- behind a call (or a comprehension's block): the slots of this frame may have changed too, the records at ch may have turned -/
theorem Inv.call {g' : Array GenState} {t' : Nat} {d' : Drawn} {ch : List Addr} (I : Inv X pins σ H s) (u : Un (frs X.stack) ch H H' s.heap h') (hok : HOk X.prog X.w H' h') (hg : AllBare g')
    (hch : ∀ b ∈ ch, (b ∈ X.ex ∨ X.s₀.heap.objs.size ≤ b) ∧ b ≠ X.env.locals ∧ (∀ x c, X.env.cells.lookup x = some c → c ≠ b) ∧ ∀ p ∈ X.pn ++ pins, p.1 ≠ b) :
    Inv X pins σ H' { s with heap := h', gens := g', drawn := d', toks := t' } := by
  obtain ⟨m, ⟨o, es, ep, ho, r⟩, _⟩ := id I.loc
  obtain ⟨sl, hL⟩ := u.any ho I.free fun z => (hch _ z).2.1 rfl
  exact I.step (ch := ch) hch (fun b o hL hb hc e n => u.keep b o e n (fun z => (List.mem_cons.mp (I.stkSub b z)).elim hL hb) hc) (fun b o _ _ hc e n => u.any e n hc) (fun b o hc e n => u.free b o e n hc) (fun b o hc e => u.there b o e hc) u.tups u.frzs u.tbls (fun m' hm => by
    obtain ⟨o', es', ep', ho', r'⟩ := hm
    rw [ho] at ho'; cases ho'
    exact ⟨_, es', ep', hL, r'⟩) hok hg
/-- an untracked record of ours (an iterator) has turned -/
theorem Inv.turned {t' : Nat} {it : Addr} (I : Inv X pins σ H s) (k : ∀ b o, b ≠ it → s.heap.get? b = some o → h'.get? b = some o) (hn : H it = none) (hL : it ≠ X.env.locals)
    (h1 : it ∈ X.ex ∨ X.s₀.heap.objs.size ≤ it) (h2 : ∀ x c, X.env.cells.lookup x = some c → c ≠ it) (h3 : ∀ p ∈ X.pn ++ pins, p.1 ≠ it) : Inv X pins σ H { s with heap := h', toks := t' } := by
  have nit : ∀ b u, H b = some u → b ≠ it := fun b u e z => by rw [z, hn] at e; cases e
  refine I.step (g' := s.gens) (d' := s.drawn) (ch := [it]) (fun b hb => ?_) (fun b o _ _ hc e _ => k b o (fun z => hc (by simp [z])) e) (fun b o _ _ hc e _ => ⟨o.slots, k b o (fun z => hc (by simp [z])) e⟩) (fun _ _ _ _ n => n)
    (fun b o hc e => ⟨o, k b o (fun z => hc (by simp [z])) e⟩) (fun _ _ e => e) (fun _ _ _ e => e) (fun b ps e => ⟨#[], by rw [e]; simp⟩) (fun m hm => ?_) (fun b u e => ?_) I.bare
  · have e : b = it := by simpa using hb
    subst e
    exact ⟨h1, hL, h2, h3⟩
  · obtain ⟨o, es, ep, ho, r⟩ := hm
    exact ⟨o, es, ep, k _ o (Ne.symm hL) ho, r⟩
  · refine (I.hok b u e).stay (fun c v hc q => k c v ?_ q) (fun _ q => q) fun _ _ q => q
    rcases hc with z | z
    · rw [z]; exact nit b u e
    · exact nit c _ z
theorem Inv.tok (I : Inv X pins σ H s) (t : Nat) : Inv X pins σ H { s with toks := t } := I.un (h' := s.heap) (t' := t) Un.refl I.hok
/-- all objects kept -/
theorem Inv.kept {t' : Nat} (I : Inv X pins σ H s) (k : ∀ b u, s.heap.get? b = some u → h'.get? b = some u) : Inv X pins σ H { s with heap := h', toks := t' } := I.un (Un.kept k) (I.hok.kept k)
/-- a new object laid and tracked -/
theorem Inv.laid {a : Addr} {o : HO} {t' : Nat} (I : Inv X pins σ H s) (k : ∀ b u, s.heap.get? b = some u → h'.get? b = some u) (hp : s.heap.objs.size ≤ a) (new : ObjOk X.prog X.w (upd H a o) h' a o) :
    Inv X pins σ (upd H a o) { s with heap := h', toks := t' } := I.un (Un.laid k hp (I.hok.fresh hp)) (I.hok.laid k hp new)
/-- an object written -/
theorem Inv.write {x e : Addr} {o : HO} {t' : Nat} (I : Inv X pins σ H s) (mu : Mut (H x)) (he : e = x ∨ H e = some (.own x)) (k : ∀ b u, b ≠ e → s.heap.get? b = some u → h'.get? b = some u) (heo : ∃ u, h'.get? e = some u)
    (new : ObjOk X.prog X.w (upd H x o) h' x o) : Inv X pins σ (upd H x o) { s with heap := h', toks := t' } := I.un (Un.write mu he k heo) (I.hok.write mu he k heo new)
theorem Inv.pins_of {pins' : List (Addr × Obj)} (I : Inv X pins σ H s) (h : ∀ p ∈ pins', s.heap.get? p.1 = some p.2 ∧ H p.1 = none ∧ p.1 ≠ X.env.locals ∧ p.1 ∉ X.fs ∧ ∀ v, p.2.data ≠ .cell v) : Inv X pins' σ H s :=
  ⟨I.ok, I.os, I.bare, I.base, I.loc, I.cell, I.free, I.freeC, fun p hp => (List.mem_append.mp hp).elim (fun z => I.pin p (List.mem_append_left _ z)) (h p), I.hok, I.len⟩
theorem nodup_ix {N : List Str} (hN : N.Nodup) {i j : Nat} {x : Str} (a : N[i]? = some x) (b : N[j]? = some x) : i = j := by
  obtain ⟨h1, e1⟩ := List.getElem?_eq_some_iff.mp a
  obtain ⟨h2, e2⟩ := List.getElem?_eq_some_iff.mp b
  exact (List.getElem_inj hN).mp (e1.trans e2.symm)
/-- a name is stored; what changed -/
theorem store_ok2 {M : Model} {A : Around} {E : Value → Shared → Prop} {i : Nat} {x : Str} {v : V} {u : Value} {Q : Unit → Shared → Prop} (I : Inv X pins σ H s) (hN : X.N.Nodup) (hi : X.N[i]? = some x) (hx : Loc X.env.scope x) (r : RelV v u)
    (h : ∀ s', Inv X pins (σ.set i (some v)) H s' → (∃ a, Heap.SameBut a s.heap s'.heap ∧ (a = X.env.locals ∨ X.env.cells.lookup x = some a)) → Q () s') (hf : X.fn x = true ∨ X.env.scope.names.lookup x = some .local := by first | exact .inl rfl | exact .inr rfl | assumption) : wpAny M A (storeName X.env x u) Q E s := by
  obtain ⟨m, hn, hl⟩ := id I.loc
  have hcls : (X.env.scope.kind == .class || (X.env.scope.kind == .module && X.env.locals != X.env.globals)) = false := by rw [I.ok.kind]; rfl
  have hiσ : i < σ.length := by rw [I.len]; exact (List.getElem?_eq_some_iff.mp hi).1
  have cne := I.cne
  have tracked : ∀ {a : Addr} {h' : Heap}, (∃ o, s.heap.get? a = some o ∧ H a = none) → Heap.SameBut a s.heap h' → HOk X.prog X.w H h' := fun {a h'} ha hs b ob e => by
    obtain ⟨_, _, hfree⟩ := ha
    refine (I.hok b ob e).stay (fun c w' hc q => (hs.2 c ?_).trans q) (fun _ q => q) fun _ _ q => q
    rintro rfl
    rcases hc with rfl | hc
    · rw [hfree] at e; cases e
    · rw [hfree] at hc; cases hc
  rcases hx with hk | hk
  · refine wpAny_storeName_local hk hn (fun h' hn' hs => ?_) hcls
    obtain ⟨oL, _, _, hoL, _⟩ := id hn
    refine h _ ⟨I.ok, I.os, I.bare, ⟨fun b o e n hb hx => ?_, fun b o e n hb hx => ?_, I.base.free, fun b o e hx => ?_, I.base.tups, I.base.frzs, I.base.tbls⟩, ⟨_, hn', fun j y v' e1 e2 e3 => ?_⟩, fun y c e => ?_, I.free, I.freeC, fun p hp => ?_, tracked ⟨oL, hoL, I.free⟩ hs, by simpa using I.len⟩ ⟨_, hs, .inl rfl⟩
    · exact (hs.2 b (Nat.ne_of_lt (Nat.lt_of_lt_of_le (Heap.lt_size e) I.ok.above))).trans (I.base.keep b o e n hb hx)
    · obtain ⟨sl, e1⟩ := I.base.slot b o e n hb hx
      exact ⟨sl, (hs.2 b (Nat.ne_of_lt (Nat.lt_of_lt_of_le (Heap.lt_size e) I.ok.above))).trans e1⟩
    · obtain ⟨o', e1⟩ := I.base.there b o e hx
      exact ⟨o', (hs.2 b (Nat.ne_of_lt (Nat.lt_of_lt_of_le (Heap.lt_size e) I.ok.above))).trans e1⟩
    · by_cases hj : j = i
      · subst hj
        rw [hi] at e1; cases e1
        rw [List.getElem?_set_self hiσ] at e2
        cases e2
        exact ⟨u, r, .inl ⟨hk, by simp⟩⟩
      · rw [List.getElem?_set_ne (Ne.symm hj)] at e2
        obtain ⟨u', r', q⟩ := hl j y v' e1 e2 e3
        refine ⟨u', r', ?_⟩
        rcases q with ⟨k, e⟩ | ⟨k, c, e, z⟩
        · refine .inl ⟨k, ?_⟩
          have : y ≠ x := fun e => hj (nodup_ix hN e1 (e ▸ hi))
          simp [this, e]
        · exact .inr ⟨k, c, e, z.sameBut hs (cne y c e)⟩
    · obtain ⟨w', z⟩ := I.cell y c e
      exact ⟨w', z.sameBut hs (cne y c e)⟩
    · obtain ⟨e, n, ne, nf, d⟩ := I.pin p hp
      exact ⟨(hs.2 p.1 ne).trans e, n, ne, nf, d⟩
  · have hfn : X.fn x = true := by
      rcases hf with z | z
      · exact z
      · rw [z] at hk; cases hk
    obtain ⟨c, hc⟩ := I.ok.has x (.inl hk)
    obtain ⟨w', z⟩ := I.cell x c hc
    refine wpAny_storeName_cell I.ok.kind hk hc z (fun h' hc' hs => ?_)
    obtain ⟨oc, hoc, hocd⟩ := id z
    refine h { s with heap := h' } ⟨I.ok, I.os, I.bare, ⟨fun b o e n hb hx => ?_, fun b o e n hb hx => ?_, I.base.free, fun b o e hx => ?_, I.base.tups, I.base.frzs, I.base.tbls⟩, ⟨m, hn.sameBut hs (Ne.symm (cne x c hc)), fun j y v' e1 e2 e3 => ?_⟩, fun y c' e => ?_, I.free, I.freeC, fun p hp => ?_, tracked ⟨oc, hoc, I.freeC x c hc⟩ hs, by simpa using I.len⟩ ⟨c, hs, .inr hc⟩
    · exact (hs.2 b (Nat.ne_of_lt (Nat.lt_of_lt_of_le (Heap.lt_size e) (I.ok.cab x c hfn hc)))).trans (I.base.keep b o e n hb hx)
    · obtain ⟨sl, e1⟩ := I.base.slot b o e n hb hx
      exact ⟨sl, (hs.2 b (Nat.ne_of_lt (Nat.lt_of_lt_of_le (Heap.lt_size e) (I.ok.cab x c hfn hc)))).trans e1⟩
    · obtain ⟨o', e1⟩ := I.base.there b o e hx
      exact ⟨o', (hs.2 b (Nat.ne_of_lt (Nat.lt_of_lt_of_le (Heap.lt_size e) (I.ok.cab x c hfn hc)))).trans e1⟩
    · by_cases hj : j = i
      · subst hj
        rw [hi] at e1; cases e1
        rw [List.getElem?_set_self hiσ] at e2
        cases e2
        exact ⟨u, r, .inr ⟨.inl hk, c, hc, hc'⟩⟩
      · rw [List.getElem?_set_ne (Ne.symm hj)] at e2
        obtain ⟨u', r', q⟩ := hl j y v' e1 e2 e3
        refine ⟨u', r', ?_⟩
        rcases q with q | ⟨k, c', e, z'⟩
        · exact .inl q
        · refine .inr ⟨k, c', e, z'.sameBut hs ?_⟩
          rintro rfl
          exact hj (nodup_ix hN e1 (I.ok.inj _ _ _ e hc ▸ hi))
    · by_cases hcc : c' = c
      · subst hcc; exact ⟨_, hc'⟩
      · obtain ⟨w2, z2⟩ := I.cell y c' e
        exact ⟨w2, z2.sameBut hs hcc⟩
    · obtain ⟨e, n, ne, nf, d⟩ := I.pin p hp
      refine ⟨(hs.2 p.1 ?_).trans e, n, ne, nf, d⟩
      intro q
      rw [q, hoc] at e
      have q' : oc = p.2 := Option.some.inj e
      exact d w' (by rw [← q']; exact hocd)
theorem store_ok {M : Model} {A : Around} {E : Value → Shared → Prop} {i : Nat} {x : Str} {v : V} {u : Value} {Q : Unit → Shared → Prop} (I : Inv X pins σ H s) (hN : X.N.Nodup) (hi : X.N[i]? = some x) (hx : Loc X.env.scope x) (r : RelV v u)
    (h : ∀ s', Inv X pins (σ.set i (some v)) H s' → Q () s') (hf : X.fn x = true ∨ X.env.scope.names.lookup x = some .local := by first | exact .inl rfl | exact .inr rfl | assumption) : wpAny M A (storeName X.env x u) Q E s :=
  store_ok2 I hN hi hx r (fun s' I' _ => h s' I') hf
/-- behind a call or a block, the state as it is -/
theorem Inv.call' {s' : Shared} {ch : List Addr} (I : Inv X pins σ H s) (ho : s'.os = s.os) (u : Un (frs X.stack) ch H H' s.heap s'.heap) (hok : HOk X.prog X.w H' s'.heap) (hg : AllBare s'.gens)
    (hch : ∀ b ∈ ch, (b ∈ X.ex ∨ X.s₀.heap.objs.size ≤ b) ∧ b ≠ X.env.locals ∧ (∀ x c, X.env.cells.lookup x = some c → c ≠ b) ∧ ∀ p ∈ X.pn ++ pins, p.1 ≠ b) : Inv X pins σ H' s' := by
  obtain ⟨h', g', d', t', o'⟩ := s'
  have e : o' = s.os := ho
  subst e
  exact I.call (g' := g') (t' := t') (d' := d') u hok hg hch
end
/-- an exception: its class, its own dict's address (where it has one), the abstract heap behind it -/
abbrev XK := Value → Option Addr → Hp → Prop
abbrev St := List (Option V)
abbrev VK := V → Hp → Prop
/-- an expression's reading; a test's; an argument list's -/
abbrev TE := St → Hp → VK → Prop
abbrev TT := St → Hp → (Bool → Hp → Prop) → Prop
abbrev TA := St → Hp → (List V → Hp → Prop) → Prop
/-- what is wanted behind a statement -/
structure Ends where
  nx : St → Hp → Prop
  rt : VK
  bk : St → Hp → Prop := fun _ _ => False
  ct : St → Hp → Prop := fun _ _ => False
abbrev TS := Ends → St → Hp → Prop
def EP (X : Cx) (pins : List (Addr × Obj)) (σ : St) (Q : VK) (u : Value) (s' : Shared) : Prop := ∃ v H', Inv X pins σ H' s' ∧ RelV v u ∧ Q v H'
def TP (X : Cx) (pins : List (Addr × Obj)) (σ : St) (Q : Bool → Hp → Prop) (b : Bool) (s' : Shared) : Prop := ∃ H', Inv X pins σ H' s' ∧ Q b H'
def AP (X : Cx) (pins : List (Addr × Obj)) (σ : St) (Q : List V → Hp → Prop) (us : List Value) (s' : Shared) : Prop := ∃ vs H', Inv X pins σ H' s' ∧ Vals vs us ∧ Q vs H'
def SP (X : Cx) (pins : List (Addr × Obj)) (D : Ends) (f : Flow) (s' : Shared) : Prop :=
  match f with
  | .next => ∃ σ' H', Inv X pins σ' H' s' ∧ D.nx σ' H'
  | .brk => ∃ σ' H', Inv X pins σ' H' s' ∧ D.bk σ' H'
  | .cont => ∃ σ' H', Inv X pins σ' H' s' ∧ D.ct σ' H'
  | .ret u => ∃ v σ' H', Inv X pins σ' H' s' ∧ RelV v u ∧ D.rt v H'
def PE (X : Cx) (e : Expr) (t : TE) : Prop :=
  ∀ (pins : List (Addr × Obj)) (s : Shared) (σ : St) (H : Hp) (Q : VK), Inv X pins σ H s → t σ H Q → wpAny (model X.prog X.w) X.A (eval e X.env) (EP X pins σ Q) X.xe s
def PT (X : Cx) (e : Expr) (t : TT) : Prop :=
  ∀ (pins : List (Addr × Obj)) (s : Shared) (σ : St) (H : Hp) (Q : Bool → Hp → Prop), Inv X pins σ H s → t σ H Q → wpAny (model X.prog X.w) X.A (isTrue e X.env (eval e X.env)) (TP X pins σ Q) X.xe s
/-- a test whatever its 'whole' is (and, or) -/
def PW (X : Cx) (e : Expr) (t : TT) : Prop :=
  ∀ (whole : Sem Value) (pins : List (Addr × Obj)) (s : Shared) (σ : St) (H : Hp) (Q : Bool → Hp → Prop), Inv X pins σ H s → t σ H Q → wpAny (model X.prog X.w) X.A (isTrue e X.env whole) (TP X pins σ Q) X.xe s
theorem PW.pt {X : Cx} {e : Expr} {t : TT} (h : PW X e t) : PT X e t := h _
/-- an argument list (no star), from the left -/
def PA (X : Cx) (es : List Expr) (t : TA) : Prop :=
  ∀ (pos : Pos) (pins : List (Addr × Obj)) (s : Shared) (σ : St) (H : Hp) (Q : List V → Hp → Prop), Inv X pins σ H s → t σ H Q → wpAny (model X.prog X.w) X.A (spliced (backTo pos (starEach es X.env))) (AP X pins σ Q) X.xe s
def PS (X : Cx) (st : Stmt) (t : TS) : Prop :=
  ∀ (pins : List (Addr × Obj)) (s : Shared) (σ : St) (H : Hp) (D : Ends), Inv X pins σ H s → t D σ H → wpAny (model X.prog X.w) X.A (exec st X.env) (SP X pins D) X.xe s
def PSs (X : Cx) (st : List Stmt) (t : TS) : Prop :=
  ∀ (pins : List (Addr × Obj)) (s : Shared) (σ : St) (H : Hp) (D : Ends), Inv X pins σ H s → t D σ H → wpAny (model X.prog X.w) X.A (execs st X.env) (SP X pins D) X.xe s
/-- weaken the end -/
theorem thn {α : Type} {t : Sem α} {Q Q' : α → Shared → Prop} {M : Model} {A : Around} {E : Value → Shared → Prop} {s : Shared} (h : wpAny M A t Q E s) (hQ : ∀ a s, Q a s → Q' a s) : wpAny M A t Q' E s := wpAny_mono h hQ fun _ _ x => x
end L2
namespace L2
open PySem PySem.Spec PyProof.Rows
section
variable {X : Cx}
def tVar (i : Nat) : TE := fun σ H Q => ∃ v, σ[i]? = some (some v) ∧ Q v H
def tC (v : V) : TE := fun _ H Q => Q v H
theorem pe_var {i : Nat} {x : Str} {pos : Pos} (hN : X.N[i]? = some x) (hv : Vis X.env.scope x) (hd : (x == ("__debug__" : Str)) = false := by decide) (hcd : (x == ("__classdict__" : Str)) = false := by decide) : PE X (.Name x pos) (tVar i) := by
  intro pins s σ H Q I h
  obtain ⟨v, e, h⟩ := h
  obtain ⟨m, hn, hl⟩ := I.loc
  obtain ⟨u, r, l⟩ := hl i x v hN e hv
  have fin : EP X pins σ Q u s := ⟨v, H, I, r, h⟩
  rcases l with ⟨hk, hm⟩ | ⟨hk, c, hc, hcell⟩
  · exact wpAny_Name (wpAny_loadName_local I.ok.kind hk hn hm fin) hd
  · rcases hk with hk | hk
    · exact wpAny_Name (wpAny_loadName_cell I.ok.kind hk hc hcell fin) hd
    · exact wpAny_Name (wpAny_loadName_free I.ok.kind hk hc hcell fin hcd) hd
theorem pe_int {i j pos} : PE X (.Constant (.int i) j pos) (tC (.int i)) := fun _ _ _ H _ I h => wpAny_Constant_int ⟨.int i, H, I.tok _, ⟨_, rfl⟩, h⟩
theorem pe_bl {b j pos} : PE X (.Constant (.bool b) j pos) (tC (.bl b)) := fun _ _ _ H _ I h => Constant_bool ⟨.bl b, H, I, rfl, h⟩
theorem pe_non {j pos} : PE X (.Constant .none j pos) (tC .non) := fun _ _ _ H _ I h => Constant_none ⟨.non, H, I, rfl, h⟩
theorem pe_str {x j pos} : PE X (.Constant (.str x) j pos) (tC (.str x)) := fun _ _ _ H _ I h => Calls.Constant_str ⟨.str x, H, I.tok _, ⟨_, rfl⟩, h⟩
/-- a global name of the def -/
def Gl (X : Cx) (x : Str) : Prop := X.env.kindOf x = some .globalImplicit
theorem ld_glob {E : Value → Shared → Prop} {pins : List (Addr × Obj)} {s : Shared} {σ : St} {H : Hp} {x : Str} {u : Value} {pos : Pos} {Q : Value → Shared → Prop} (I : Inv X pins σ H s) (hg : Gl X x) (hm : X.mg x = some u) (h : Q u s)
    (hd : (x == ("__debug__" : Str)) = false := by decide) : wpAny (model X.prog X.w) X.A (eval (.Name x pos) X.env) Q E s :=
  Calls.Name_function_global I.ok.kind hg (Calls.loadGlobal_global (by rw [I.ok.glob]; exact I.mod.glob.keeps I.bk) hm h) hd
theorem ld_blt {E : Value → Shared → Prop} {pins : List (Addr × Obj)} {s : Shared} {σ : St} {H : Hp} {x : Str} {u : Value} {pos : Pos} {Q : Value → Shared → Prop} (I : Inv X pins σ H s) (hg : Gl X x) (hm : X.mg x = none) (hv : bootBuiltins x = some u) (h : Q u s)
    (hn : x ≠ "__name__" := by decide) (hd : (x == ("__debug__" : Str)) = false := by decide) : wpAny (model X.prog X.w) X.A (eval (.Name x pos) X.env) Q E s := by
  obtain ⟨mb, h1, h2⟩ := I.mod.blt
  exact Calls.Name_function_global I.ok.kind hg (Calls.loadGlobal_builtin (by rw [I.ok.glob]; exact I.mod.glob.keeps I.bk) hm (by rw [I.ok.blt]; exact h1.keeps I.bk) ((h2 x hn).trans hv) h) hd
/-- a module's constant, a class, a function, as a value -/
theorem pe_glob {x : Str} {v : V} {u : Value} {pos : Pos} (hg : Gl X x) (hm : X.mg x = some u) (r : RelV v u) (hd : (x == ("__debug__" : Str)) = false := by decide) : PE X (.Name x pos) (tC v) :=
  fun _ _ _ H _ I h => ld_glob I hg hm ⟨v, H, I, r, h⟩ hd
theorem pe_bltn {x : Str} {v : V} {u : Value} {pos : Pos} (hg : Gl X x) (hm : X.mg x = none) (hv : bootBuiltins x = some u) (r : RelV v u) (hn : x ≠ "__name__" := by decide) (hd : (x == ("__debug__" : Str)) = false := by decide) : PE X (.Name x pos) (tC v) :=
  fun _ _ _ H _ I h => ld_blt I hg hm hv ⟨v, H, I, r, h⟩ hn hd
variable {a b : Expr} {ta tb : TE} {pos : Pos}
/-- a comparison as a value, as a test -/
def tB (t : TE) : TT := fun σ H Q => t σ H fun x H1 => ∃ c, x = .bl c ∧ Q c H1
/-- an expression whose value is a bool, as a test -/
theorem pt_val {e : Expr} {t : TE} (h : PE X e t) (he : ∀ whole, isTrue e X.env whole = (do let v ← whole; standAt e.pos; holding [v] (truthy v)) := by intro _; rfl) : PT X e (tB t) := by
  intro pins s σ H Q I hw
  refine isTrue_plain (thn (h pins s σ H _ I hw) fun v s1 zr6 => ?_) (he _)
  obtain ⟨x, H1, I1, r1, q1⟩ := zr6
  obtain ⟨d, rfl, q⟩ := q1
  cases r1
  exact wpAny_truthy_bool ⟨H1, I1, q⟩
variable {tA tB' : TT} {rest : List Expr}
def tAnd (t u : TT) : TT := fun σ H Q => t σ H fun c H1 => if c = true then u σ H1 Q else Q false H1
def tOr (t u : TT) : TT := fun σ H Q => t σ H fun c H1 => if c = true then Q true H1 else u σ H1 Q
def tNot (t : TT) : TT := fun σ H Q => t σ H fun c H1 => Q (!c) H1
theorem pw_and1 (ha : PT X a tA) : PW X (.BoolOp .And [a] pos) tA := by
  intro wh pins s σ H Q I h
  refine isTrue_and (thn (ha pins s σ H Q I h) fun c s1 e => ?_)
  cases c with
  | true => exact isTrue_and_nil e
  | false => exact e
theorem pw_or1 (ha : PT X a tA) : PW X (.BoolOp .Or [a] pos) tA := by
  intro wh pins s σ H Q I h
  refine isTrue_or (thn (ha pins s σ H Q I h) fun c s1 e => ?_)
  cases c with
  | false => exact isTrue_or_nil e
  | true => exact e
theorem pw_and (ha : PT X a tA) (hb : PW X (.BoolOp .And (b :: rest) pos) tB') : PW X (.BoolOp .And (a :: b :: rest) pos) (tAnd tA tB') := by
  intro wh pins s σ H Q I h
  refine isTrue_and (thn (ha pins s σ H _ I h) fun c s1 zr7 => ?_)
  obtain ⟨H1, I1, q1⟩ := zr7
  cases c with
  | true => exact hb wh pins s1 σ H1 Q I1 q1
  | false => exact ⟨H1, I1, q1⟩
theorem pw_or (ha : PT X a tA) (hb : PW X (.BoolOp .Or (b :: rest) pos) tB') : PW X (.BoolOp .Or (a :: b :: rest) pos) (tOr tA tB') := by
  intro wh pins s σ H Q I h
  refine isTrue_or (thn (ha pins s σ H _ I h) fun c s1 zr8 => ?_)
  obtain ⟨H1, I1, q1⟩ := zr8
  cases c with
  | true => exact ⟨H1, I1, q1⟩
  | false => exact hb wh pins s1 σ H1 Q I1 q1
theorem pt_not (ha : PT X a tA) : PT X (.UnaryOp .Not a pos) (tNot tA) := by
  intro pins s σ H Q I h
  exact isTrue_not (ha pins s σ H (fun c H1 => Q (!c) H1) I h)
end
end L2
namespace L2
open PySem PySem.Spec PyProof.Rows
def SqL (K : PySem.W.Frag) (H : Hp) (a : Addr) (xs : List V) : Prop :=
  Rd H a (.lst xs) ∨
    ∃ (o : Obj) (its : Array Value) (n : Nat), K.lookup a = some o ∧ o.cls = .type "list" ∧ o.dict = none ∧ o.data = .seq its n ∧ its.size ≤ sizeLine ∧ Vals xs its.toList
def SqT (K : PySem.W.Frag) (H : Hp) (a : Addr) (xs : List V) : Prop :=
  Rd H a (.tup xs) ∨
    ∃ (o : Obj) (its : Array Value) (n : Nat), K.lookup a = some o ∧ o.cls = .type "tuple" ∧ o.data = .seq its n ∧ its.size ≤ sizeLine ∧ Vals xs its.toList
def absV : Value → Option V
  | .none => some .non
  | .bool b => some (.bl b)
  | .int i _ => some (.int i)
  | .str x _ => some (.str x)
  | .bytes b _ => some (.byt b)
  | .float b _ => some (.flt b)
  | .ref a => some (.ref a)
  | .type n => some (.ty n)
  | _ => none
theorem RelV.abs {x : V} {u : Value} (r : RelV x u) : absV u = some x := by
  cases x with
  | non => cases r; rfl
  | bl _ => cases r; rfl
  | int _ => obtain ⟨t, rfl⟩ := r; rfl
  | str _ => obtain ⟨t, rfl⟩ := r; rfl
  | byt _ => obtain ⟨t, rfl⟩ := r; rfl
  | flt _ => obtain ⟨t, rfl⟩ := r; rfl
  | ref _ => cases r; rfl
  | ty _ => cases r; rfl
theorem RelV.inj {x y : V} {u : Value} (r : RelV x u) (q : RelV y u) : x = y := Option.some.inj (r.abs.symm.trans q.abs)
theorem Vals.inj : ∀ {xs ys : List V} {us : List Value}, Vals xs us → Vals ys us → xs = ys
  | _, _, _, .nil, .nil => rfl
  | _, _, _, .cons r t, .cons r' t' => by rw [r.inj r', Vals.inj t t']
section
variable {X : Cx} {pins : List (Addr × Obj)} {σ : St} {H : Hp} {s : Shared} {a : Addr} {xs ys : List V}
theorem SqL.of {K : PySem.W.Frag} (h : H a = some (.lst xs)) : SqL K H a xs := .inl (.inl h)
theorem SqT.of {K : PySem.W.Frag} (h : H a = some (.tup xs)) : SqT K H a xs := .inl (.inl h)
theorem Inv.list (I : Inv X pins σ H s) (h : SqL X.K H a xs) : ∃ its : List Value, Vals xs its ∧ PlainL s.heap a its.toArray ∧ xs.length ≤ sizeLine := by
  rcases h with h | ⟨o, its, n, hk, hc, hd, hs, hz, r⟩
  · obtain ⟨z, its, n, r, e⟩ := h.ok I.hok
    exact ⟨its, r, ⟨_, n, e, rfl, rfl, rfl⟩, z⟩
  · refine ⟨its.toList, r, ⟨o, n, I.kIn a o hk, hc, hd, by simpa using hs⟩, ?_⟩
    have e := r.length
    simp only [Array.length_toList] at e
    omega
theorem Inv.tuple (I : Inv X pins σ H s) (h : SqT X.K H a xs) : ∃ its : List Value, Vals xs its ∧ IsTup s.heap a its.toArray ∧ xs.length ≤ sizeLine := by
  rcases h with h | ⟨o, its, n, hk, hc, hs, hz, r⟩
  · obtain ⟨z, its, r, p⟩ := h.ok I.hok
    exact ⟨its, r, p, z⟩
  · refine ⟨its.toList, r, ⟨o, I.kIn a o hk, hc, n, by simpa using hs⟩, ?_⟩
    have e := r.length
    simp only [Array.length_toList] at e
    omega
theorem Inv.list_inj (I : Inv X pins σ H s) (h : SqL X.K H a xs) (h' : SqL X.K H a ys) : xs = ys := by
  obtain ⟨its, r, ⟨o, n, e, _, _, d⟩, _⟩ := I.list h
  obtain ⟨its', r', ⟨o', n', e', _, _, d'⟩, _⟩ := I.list h'
  rw [e] at e'; cases e'
  rw [d] at d'
  injection d' with d1 _
  have : its = its' := by simpa using congrArg Array.toList d1
  subst this
  exact r.inj r'
end
abbrev Cx.wish (X : Cx) (E : Value → Shared → Prop) : Cx := { X with xe := E }
/-- no exception leaves -/
abbrev Cx.nox (X : Cx) : Cx := X.wish fun _ _ => False
theorem Cx.Ok.wish {X : Cx} (ok : X.Ok) (E : Value → Shared → Prop) : (X.wish E).Ok :=
  ⟨ok.mod, ok.kind, ok.glob, ok.blt, ok.above, ok.inj, ok.has, ok.cab, ok.hd, ok.frames, ok.stk, ok.exf, ok.bs, ok.bsz, ok.noex, ok.exfs, ok.funs, ok.frf⟩
theorem Cx.Ok.unwish {X : Cx} {E : Value → Shared → Prop} (ok : (X.wish E).Ok) : X.Ok :=
  ⟨ok.mod, ok.kind, ok.glob, ok.blt, ok.above, ok.inj, ok.has, ok.cab, ok.hd, ok.frames, ok.stk, ok.exf, ok.bs, ok.bsz, ok.noex, ok.exfs, ok.funs, ok.frf⟩
section
variable {X : Cx} {pins : List (Addr × Obj)} {σ : St} {H : Hp} {s : Shared} {E : Value → Shared → Prop}
theorem Inv.wish (I : Inv X pins σ H s) (E : Value → Shared → Prop) : Inv (X.wish E) pins σ H s := ⟨I.ok.wish E, I.os, I.bare, I.base, I.loc, I.cell, I.free, I.freeC, I.pin, I.hok, I.len⟩
theorem Inv.unwish (I : Inv (X.wish E) pins σ H s) : Inv X pins σ H s := ⟨I.ok.unwish, I.os, I.bare, I.base, I.loc, I.cell, I.free, I.freeC, I.pin, I.hok, I.len⟩
theorem SP.unwish {D : Ends} {f : Flow} {s' : Shared} (h : SP (X.wish E) pins D f s') : SP X pins D f s' := by
  cases f with
  | next => obtain ⟨σ', H', I, q⟩ := h; exact ⟨σ', H', I.unwish, q⟩
  | brk => obtain ⟨σ', H', I, q⟩ := h; exact ⟨σ', H', I.unwish, q⟩
  | cont => obtain ⟨σ', H', I, q⟩ := h; exact ⟨σ', H', I.unwish, q⟩
  | ret u => obtain ⟨v, σ', H', I, r, q⟩ := h; exact ⟨v, σ', H', I.unwish, r, q⟩
theorem PSs.nox {st : List Stmt} {t : TS} (h : PSs X.nox st t) : PSs X st t := fun pins s σ H D I hw =>
  wpAny_mono (h pins s σ H D (I.wish _) hw) (fun _ _ q => q.unwish) fun _ _ z => False.elim z
end
section
variable {X : Cx} {st : Stmt} {rest : List Stmt} {t u : TS} {e : Expr} {te : TE} {pos : Pos}
def tNext : TS := fun D σ H => D.nx σ H
def tSeq (t u : TS) : TS := fun D σ H => t { D with nx := u D } σ H
theorem pss_nil : PSs X [] tNext := fun _ _ σ H _ I h => wpAny_execs_nil ⟨σ, H, I, h⟩
theorem pss_cons (h1 : PS X st t) (h2 : PSs X rest u) : PSs X (st :: rest) (tSeq t u) := by
  intro pins s σ H D I h
  refine wpAny_execs_cons (thn (h1 pins s σ H { D with nx := u D } I h) fun f s1 q => ?_)
  cases f with
  | next =>
    obtain ⟨σ', H', I', q⟩ := q
    exact h2 pins s1 σ' H' D I' q
  | ret v => exact q
  | brk => exact q
  | cont => exact q
theorem pss_one (h1 : PS X st t) : PSs X [st] t := by
  intro pins s σ H D I h
  refine wpAny_execs_cons (thn (h1 pins s σ H D I h) fun f s1 q => ?_)
  cases f with
  | next => exact wpAny_execs_nil q
  | ret v => exact q
  | brk => exact q
  | cont => exact q
/-- in a def's body nothing is shown -/
theorem Inv.quiet {pins : List (Addr × Obj)} {σ : St} {H : Hp} {s : Shared} (I : Inv X pins σ H s) : interactive X.env = false := by simp [interactive, I.ok.kind]
/-- an expression whose value is dropped -/
def tDrop (te : TE) : TS := fun D σ H => te σ H fun _ H1 => D.nx σ H1
theorem ps_expr (he : PE X e te) (hs : swapsWith e none pos.line X.env = pure false := by rfl) : PS X (.Expr e pos) (tDrop te) := by
  intro pins s σ H D I h
  exact wpAny_Expr_any (thn (he pins s σ H _ I h) fun v s1 ⟨x, H1, I1, r1, q1⟩ => ⟨σ, H1, I1, q1⟩) I.quiet hs
def tRet (te : TE) : TS := fun D σ H => te σ H D.rt
theorem ps_ret (he : PE X e te) : PS X (.Return (some e) pos) (tRet te) := by
  intro pins s σ H D I h
  exact wpAny_Return_some (thn (he pins s σ H _ I h) fun v s1 ⟨x, H1, I1, r1, q1⟩ => ⟨x, σ, H1, I1, r1, q1⟩)
def tIfS (c : TT) (t u : TS) : TS := fun D σ H => c σ H fun b H1 => if b = true then t D σ H1 else u D σ H1
theorem ps_if {c : Expr} {a b : List Stmt} {tc : TT} (hc : PT X c tc) (ha : PSs X a t) (hb : PSs X b u) : PS X (.If c a b pos) (tIfS tc t u) := by
  intro pins s σ H D I h
  refine wpAny_If (thn (hc pins s σ H _ I h) fun d s1 zr13 => ?_)
  obtain ⟨H1, I1, q1⟩ := zr13
  cases d with
  | true => exact ha pins s1 σ H1 D I1 q1
  | false => exact hb pins s1 σ H1 D I1 q1
end
abbrev TG := V → St → Hp → (St → Hp → Prop) → Prop
abbrev TGs := List V → St → Hp → (St → Hp → Prop) → Prop
def PG (X : Cx) (target : Expr) (t : TG) : Prop :=
  ∀ (pins : List (Addr × Obj)) (s : Shared) (σ : St) (H : Hp) (v : V) (u : Value) (Q : St → Hp → Prop), Inv X pins σ H s → RelV v u → t v σ H Q →
    wpAny (model X.prog X.w) X.A (assign target X.env u) (fun _ s' => ∃ σ' H', Inv X pins σ' H' s' ∧ Q σ' H') X.xe s
/-- several targets, one after another -/
def PGs (X : Cx) (ts : List Expr) (t : TGs) : Prop :=
  ∀ (pins : List (Addr × Obj)) (s : Shared) (σ : St) (H : Hp) (vs : List V) (us : List Value) (Q : St → Hp → Prop), Inv X pins σ H s → Vals vs us → t vs σ H Q →
    wpAny (model X.prog X.w) X.A (assignInOrder ((assignEach ts X.env).map (·.2)) us) (fun _ s' => ∃ σ' H', Inv X pins σ' H' s' ∧ Q σ' H') X.xe s
section
variable {X : Cx} {pos : Pos}
def gName (i : Nat) : TG := fun v σ H Q => Q (σ.set i (some v)) H
theorem pg_name {i : Nat} {x : Str} (hN : X.N.Nodup) (hi : X.N[i]? = some x) (hx : Loc X.env.scope x) (hf : X.fn x = true ∨ X.env.scope.names.lookup x = some .local := by first | exact .inl rfl | exact .inr rfl | assumption) : PG X (.Name x pos) (gName i) := by
  intro pins s σ H v u Q I r h
  exact wpAny_assign_Name (store_ok I hN hi hx r (fun s' I' => ⟨_, H, I', h⟩) hf)
def gNil : TGs := fun vs σ H Q => vs = [] ∧ Q σ H
def gCons (t : TG) (u : TGs) : TGs := fun vs σ H Q => ∃ v r, vs = v :: r ∧ t v σ H fun σ' H' => u r σ' H' Q
theorem pgs_nil : PGs X [] gNil := by
  intro pins s σ H vs us Q I r h
  obtain ⟨e, h⟩ := h
  subst e
  cases r
  exact assignInOrder_nil ⟨σ, H, I, h⟩
theorem pgs_cons {e : Expr} {es : List Expr} {t : TG} {u : TGs} (h1 : PG X e t) (h2 : PGs X es u)
    (hs : (assignEach (e :: es) X.env).map (·.2) = assign e X.env :: (assignEach es X.env).map (·.2) := by rfl) : PGs X (e :: es) (gCons t u) := by
  intro pins s σ H vs us Q I r h
  obtain ⟨v, vr, e1, h⟩ := h
  subst e1
  cases r with
  | cons r rr =>
    rw [hs]
    refine assignInOrder_cons (thn (h1 pins s σ H _ _ _ I r h) fun _ s1 zr14 => ?_)
    obtain ⟨σ1, H1, I1, q1⟩ := zr14
    exact h2 pins s1 σ1 H1 _ _ Q I1 rr q1
/-- (a, b, ..) = a tuple of that length -/
def gTup (K : PySem.W.Frag) (n : Nat) (t : TGs) : TG := fun v σ H Q => ∃ a xs, v = .ref a ∧ SqT K H a xs ∧ xs.length = n ∧ t xs σ H Q
theorem pg_tup {es : List Expr} {k : Nat} {t : TGs} {n : Nat} (hc : X.calm = true) (h : PGs X es t)
    (hn : (assignEach es X.env).length = n := by rfl) (hst : (assignEach es X.env).findIdx? (·.1) = none := by rfl) : PG X (.Tuple es k pos) (gTup X.K n t) := by
  intro pins s σ H v u Q I r hw
  obtain ⟨a, xs, e1, hq, hl, hw⟩ := hw
  subst e1
  cases r
  obtain ⟨its, rv, ht, hz⟩ := I.tuple hq
  refine assign_Tuple_tuple (I.ok.hd hc) ht (by simp [hn, ← hl, rv.length]) hst fun h' hx => ?_
  have I1 : Inv X pins σ H { s with heap := h' } := I.kept (t' := s.toks) fun b o e => hx b o (Nat.ne_of_lt (Heap.lt_size e)) e
  exact h pins _ σ H xs _ Q I1 (by simpa using rv) hw
/-- target = value -/
def tAsg (te : TE) (g : TG) : TS := fun D σ H => te σ H fun x H1 => g x σ H1 D.nx
/-- name = value -/
theorem ps_set {i : Nat} {x : Str} {e : Expr} {te : TE} {pos' : Pos} (hN : X.N.Nodup) (hi : X.N[i]? = some x) (hx : Loc X.env.scope x) (he : PE X e te) (hs : swapsWith e (some (.Name x pos')) pos.line X.env = pure false := by rfl) (hf : X.fn x = true ∨ X.env.scope.names.lookup x = some .local := by first | exact .inl rfl | exact .inr rfl | assumption) :
    PS X (.Assign [.Name x pos'] e pos) (tAsg te (gName i)) := by
  intro pins s σ H D I h
  refine wpAny_Assign_Name (thn (he pins s σ H _ I h) fun v s1 zr19 => ?_) hs
  obtain ⟨y, H1, I1, r1, q1⟩ := zr19
  exact store_ok I1 hN hi hx r1 (fun s2 I2 => ⟨_, H1, I2, q1⟩) hf
end
section
variable {X : Cx} {pos : Pos}
/-- the invariant W with its measure -/
def tWhile (c : TT) (tb : TS) : TS := fun D σ H => ∃ W : Nat → St → Hp → Prop, (∃ m, W m σ H) ∧ ∀ m σ H, W m σ H →
  c σ H fun b H1 => if b = true then ∃ N : St → Hp → Prop, (∀ σ' H', N σ' H' → ∃ m', m' < m ∧ W m' σ' H') ∧ tb { D with nx := N, ct := N, bk := D.nx } σ H1 else D.nx σ H1
theorem ps_while {c : Expr} {body : List Stmt} {tc : TT} {tb : TS} (hp : PassesOwn (model X.prog X.w) X.A X.env X.xe) (hc : PT X c tc) (hb : PSs X body tb) : PS X (.While c body [] pos) (tWhile tc tb) := by
  intro pins s σ H D I h
  obtain ⟨W, ⟨m0, w0⟩, turn⟩ := h
  refine wpAny_While (codeAny_whileLoop (fun n s' => ∃ σ' H', Inv X pins σ' H' s' ∧ W n σ' H') ?_ m0 ⟨σ, H, I, w0⟩)
  rintro n s1 ⟨σ1, H1, I1, w1⟩
  refine wpAny_passesOwn hp (thn (hc pins s1 σ1 H1 _ I1 (turn n σ1 H1 w1)) fun b s2 zr28 => ?_)
  obtain ⟨H2, I2, q2⟩ := zr28
  cases b with
  | true =>
    obtain ⟨N, hN, q2⟩ := q2
    rw [if_pos rfl]
    refine wpAny_passesOwn hp (thn (hb pins s2 σ1 H2 _ I2 q2) fun f s3 q3 => ?_)
    cases f with
    | next =>
      obtain ⟨σ3, H3, I3, n3⟩ := q3
      obtain ⟨m', hm, w3⟩ := hN σ3 H3 n3
      exact ⟨m', hm, σ3, H3, I3, w3⟩
    | cont =>
      obtain ⟨σ3, H3, I3, n3⟩ := q3
      obtain ⟨m', hm, w3⟩ := hN σ3 H3 n3
      exact ⟨m', hm, σ3, H3, I3, w3⟩
    | brk => exact q3
    | ret v => exact q3
  | false =>
    rw [if_neg Bool.false_ne_true]
    exact wpAny_execs_nil ⟨σ1, H2, I2, q2⟩
end
/-- at turn i: it yields x (the heap may grow), or it stops -/
structure It where
  go : Nat → Hp → Prop
  yld : Nat → Hp → V → Hp → Prop
  stop : Nat → Hp → Prop
/-- the iterator's own objects may turn: they are not the frame's, not pinned, younger than the entry (or a comprehension's own) -/
def FpOk (X : Cx) (pins : List (Addr × Obj)) (H : Hp) (b : Addr) : Prop :=
  H b = none ∧ b ≠ X.env.locals ∧ b ∉ X.fs ∧ (b ∈ X.ex ∨ X.s₀.heap.objs.size ≤ b) ∧ (∀ x c, X.env.cells.lookup x = some c → c ≠ b) ∧ ∀ p ∈ X.pn ++ pins, p.1 ≠ b
theorem Inv.fpOk {X : Cx} {pins : List (Addr × Obj)} {σ : St} {H H' : Hp} {s : Shared} {b : Addr} (I : Inv X pins σ H s) (hb : s.heap.objs.size ≤ b) (hn : H' b = none) : FpOk X pins H' b := by
  refine ⟨hn, Nat.ne_of_gt (Nat.lt_of_lt_of_le I.lt hb), I.nofs hb, .inr (Nat.le_trans I.sz hb), fun x c e z => ?_, fun p hp z => ?_⟩
  · obtain ⟨v, q⟩ := I.cell x c e
    exact absurd (Nat.lt_of_lt_of_le q.lt (by rw [z]; exact hb)) (Nat.lt_irrefl _)
  · exact absurd (Nat.lt_of_lt_of_le (Heap.lt_size (I.pin p hp).1) (by rw [z]; exact hb)) (Nat.lt_irrefl _)
structure Turn (P : Program) (w : World) (K : PySem.W.Frag) (tg : Expr) (J : It) (fp : List Addr) (it : Addr) (tn : Nat → Heap → Prop) : Prop where
  mem : it ∈ fp
  obj : ∀ i h, tn i h → ∀ b ∈ fp, ∃ o, h.get? b = some o ∧ ∀ v, o.data ≠ .cell v
  keep : ∀ i h h', tn i h → (∀ b ∈ fp, ∀ o, h.get? b = some o → h'.get? b = some o) → tn i h'
  item : ∀ (X : Cx), X.prog = P → X.w = w → X.K = K → X.calm = true → ∀ (i : Nat) (pins : List (Addr × Obj)) (s : Shared) (σ : St) (H : Hp) (E : Value → Shared → Prop), Inv X pins σ H s → (∀ b ∈ fp, FpOk X pins H b) → tn i s.heap → J.go i H →
    wpAny (model P w) X.A (pyNext (.ref it)) (fun r s1 => ∃ u, r = some u ∧
      wpAny (model P w) X.A (letOwnedTupleGo tg (.ref it) u) (fun _ s2 => ∃ x H', Inv X pins σ H' s2 ∧ RelV x u ∧ J.yld i H x H' ∧ tn (i + 1) s2.heap ∧ ∀ b ∈ fp, H' b = none) E s1) E s
  done : ∀ (X : Cx), X.prog = P → X.w = w → X.K = K → X.calm = true → ∀ (i : Nat) (pins : List (Addr × Obj)) (s : Shared) (σ : St) (H : Hp) (E : Value → Shared → Prop), Inv X pins σ H s → (∀ b ∈ fp, FpOk X pins H b) → tn i s.heap → J.stop i H →
    wpAny (model P w) X.A (pyNext (.ref it)) (fun r s1 => r = none ∧ Inv X pins σ H s1) E s
  self : ∀ (A : Around) (i : Nat) (s : Shared) (Q : Value → Shared → Prop) (E : Value → Shared → Prop), tn i s.heap → Q (.ref it) s → wpAny (model P w) A (pyIter (.ref it)) Q E s
abbrev TI := St → Hp → (It → Hp → Prop) → Prop
/-- an iterator has come -/
def PIE (X : Cx) (pins : List (Addr × Obj)) (σ : St) (tg : Expr) (R : It → Hp → Prop) (itv : Value) (s2 : Shared) : Prop :=
  ∃ (it : Addr) (fp : List Addr) (tn : Nat → Heap → Prop) (J : It) (H' : Hp), itv = .ref it ∧ Inv X pins σ H' s2 ∧ Turn X.prog X.w X.K tg J fp it tn ∧ tn 0 s2.heap ∧ (∀ b ∈ fp, FpOk X pins H' b) ∧ R J H'
def PI (X : Cx) (tg iter : Expr) (wi : TI) : Prop :=
  ∀ (pins : List (Addr × Obj)) (s : Shared) (σ : St) (H : Hp) (R : It → Hp → Prop), Inv X pins σ H s → wi σ H R →
    wpAny (model X.prog X.w) X.A (eval iter X.env) (fun v s1 => wpAny (model X.prog X.w) X.A (pyIter v) (PIE X pins σ tg R) X.xe s1) X.xe s
/-- the step ahead of the store is nothing for an iterator that keeps no tuple -/
theorem go_of {M : Model} {A : Around} {E : Value → Shared → Prop} {s : Shared} {tg : Expr} {it : Addr} {u : Value} {o : Obj} {n : String} {vs : Array Value} {Q : Unit → Shared → Prop} (ho : s.heap.get? it = some o) (hc : o.cls = .type n) (hd : o.data = .fields vs)
    (hn : ["enumerate", "zip", "dict_itemiterator", "dict_reverseitemiterator", "odict_iterator", "itertools.zip_longest", "itertools.pairwise"].contains n = false) (hQ : Q () s) : wpAny M A (letOwnedTupleGo tg (.ref it) u) Q E s := by
  unfold letOwnedTupleGo
  cases tg <;> first
    | exact wpAny_pure hQ
    | (cases u <;> first
        | exact wpAny_pure hQ
        | (refine wpAny_bind (wpAny_load ho ?_)
           rw [hc, hd]
           show wpAny M A (if (["enumerate", "zip", "dict_itemiterator", "dict_reverseitemiterator", "odict_iterator", "itertools.zip_longest", "itertools.pairwise"].contains n && vs[0]? == some (rawInt _)) = true then _ else _) Q E s
           rw [if_neg (by intro h; rw [hn, Bool.false_and] at h; cases h)]
           exact wpAny_pure hQ))
/-- the list at a, as it stands at each turn (a loop may append to it) -/
def Itl (K : PySem.W.Frag) (a : Addr) : It :=
  ⟨fun i H => ∃ xs x, SqL K H a xs ∧ xs[i]? = some x, fun i H x H' => H' = H ∧ ∀ xs, SqL K H a xs → xs[i]? = some x, fun i H => ∃ xs, SqL K H a xs ∧ xs.length ≤ i⟩
/-- lo, lo + 1, .. (n of them) -/
def Itr (lo : Int) (n : Nat) : It := ⟨fun i _ => i < n, fun i H x H' => H' = H ∧ x = .int (lo + i), fun i _ => n ≤ i⟩
theorem turn_list {P : Program} {w : World} {K : PySem.W.Frag} {tg : Expr} (a it : Addr) : Turn P w K tg (Itl K a) [it] it (fun i h => h.IsListIter it a i) where
  mem := by simp
  obj := fun i h st b hb => by
    have e : b = it := by simpa using hb
    subst e
    obtain ⟨o, e, c, d⟩ := st
    exact ⟨o, e, fun v z => by rw [d] at z; cases z⟩
  keep := fun i h h' st k => st.at fun o e => k it (by simp) o e
  item := by
    intro X hP hw hK hc i pins s σ H E I hf st hg
    subst hP hw hK
    obtain ⟨xs, x, hq, hx⟩ := hg
    obtain ⟨its, rv, p, hz⟩ := I.list hq
    obtain ⟨u, hu, ru⟩ := rv.get hx
    obtain ⟨f0, f1, f2, f3, f4, f5⟩ := hf it (by simp)
    refine wpAny_pyNext_list_item st p.isList (x := u) (by simpa using hu) fun h' st' sb => ?_
    have I1 : Inv X pins σ H { s with heap := h' } := I.turned (t' := s.toks) (fun b o hb e => (sb.2 b hb).trans e) f0 f1 f3 f4 f5
    obtain ⟨o, e, c, d⟩ := id st'
    exact ⟨u, rfl, go_of (s := { s with heap := h' }) e c d (by decide) ⟨x, H, I1, ru, ⟨rfl, fun ys hy => by rw [I.list_inj hy hq]; exact hx⟩, st', fun b hb => (hf b hb).1⟩⟩
  done := by
    intro X hP hw hK hc i pins s σ H E I hf st hg
    subst hP hw hK
    obtain ⟨xs, hq, hx⟩ := hg
    obtain ⟨its, rv, p, hz⟩ := I.list hq
    obtain ⟨f0, f1, f2, f3, f4, f5⟩ := hf it (by simp)
    have hl := rv.length
    exact wpAny_pyNext_list_end (I.ok.hd hc) st p.isList (by simp; omega) fun h' eb => ⟨rfl, I.turned (t' := s.toks) (fun b o hb e => eb b o hb e) f0 f1 f3 f4 f5⟩
  self := fun _ _ _ _ _ st h => wpAny_pyIter_listiter st h
theorem turn_range {P : Program} {w : World} {K : PySem.W.Frag} {tg : Expr} (it : Addr) (lo : Int) (n : Nat) : Turn P w K tg (Itr lo n) [it] it (fun i h => IsRangeIter h it (lo + (i : Nat) * 1) ((n : Int) - (i : Nat)) 1) where
  mem := by simp
  obj := fun i h st b hb => by
    have e : b = it := by simpa using hb
    subst e
    exact ⟨_, st, fun v z => by
      have z' : Data.fields _ = Data.cell v := z
      cases z'⟩
  keep := fun i h h' st k => k it (by simp) _ st
  item := by
    intro X hP hw hK hc i pins s σ H E I hf st hg
    subst hP hw hK
    obtain ⟨f0, f1, f2, f3, f4, f5⟩ := hf it (by simp)
    have W := Walks.range (prog := X.prog) (w := X.w) (I.ok.hd hc) it lo 1 n
    refine W.item i s _ _ hg st fun v h' tk hv st' kk => ?_
    obtain ⟨t, rfl⟩ := hv
    have I1 : Inv X pins σ H { s with heap := h', toks := tk } := I.turned (fun b o hb e => kk b o (by simpa using hb) e) f0 f1 f3 f4 f5
    refine ⟨_, rfl, go_of (s := { s with heap := h', toks := tk }) (n := "range_iterator") st' rfl rfl (by decide) ⟨.int (lo + i), H, I1, ⟨t, ?_⟩, ⟨rfl, rfl⟩, st', fun b hb => (hf b hb).1⟩⟩
    rw [Int.mul_one]
  done := by
    intro X hP hw hK hc i pins s σ H E I hf st hg
    subst hP hw hK
    obtain ⟨f0, f1, f2, f3, f4, f5⟩ := hf it (by simp)
    exact wpAny_pyNext_range_end (I.ok.hd hc) st (by have : n ≤ i := hg; omega) fun h' eb => ⟨rfl, I.turned (t' := s.toks) (fun b o hb e => eb b o hb e) f0 f1 f3 f4 f5⟩
  self := fun _ _ _ _ _ st h => wpAny_pyIter_rangeiter st h
end L2
namespace L2
open PySem PySem.Spec PyProof.Rows
section
variable {X : Cx} {tg : Expr}
def iList (K : PySem.W.Frag) (tl : TE) : TI := fun σ H R => tl σ H fun x H1 => ∃ a, x = .ref a ∧ (∃ xs, SqL K H1 a xs) ∧ R (Itl K a) H1
theorem pi_list {l : Expr} {tl : TE} (hl : PE X l tl) : PI X tg l (iList X.K tl) := by
  intro pins s σ H R I h
  refine thn (hl pins s σ H _ I h) fun v s1 zr29 => ?_
  obtain ⟨x, H1, I1, r1, q1⟩ := zr29
  obtain ⟨a, e, ⟨xs, hq⟩, q⟩ := q1
  subst e
  cases r1
  obtain ⟨its, rv, p, hz⟩ := I1.list hq
  refine wpAny_pyIter_list p.isList ?_
  refine ⟨s1.heap.objs.size, [s1.heap.objs.size], _, _, H1, rfl, I1.kept (t' := s1.toks) fun b o e => Heap.get?_push_of_some _ e, turn_list a _, ⟨_, Heap.get?_push_size _ rfl, rfl, rfl⟩, fun b hb => ?_, q⟩
  have e : b = s1.heap.objs.size := by simpa using hb
  subst e
  exact I1.fpOk (Nat.le_refl _) (I1.hok.fresh (Nat.le_refl _))
/-- a range object just made, walked -/
theorem range_it {pins : List (Addr × Obj)} {σ : St} {H : Hp} {s : Shared} {R : It → Hp → Prop} {E : Value → Shared → Prop} {lo hi : Int} {t u v : Tok} {tk : Nat} (I : Inv X pins σ H s) (h1 : -(2 ^ 62) ≤ lo) (h2 : lo < 2 ^ 62) (h3 : -(2 ^ 62) ≤ hi) (h4 : hi < 2 ^ 62)
    (q : R (Itr lo (hi - lo).toNat) H) : wpAny (model X.prog X.w) X.A (pyIter (.ref s.heap.objs.size)) (PIE X pins σ tg R) E { s with heap := s.heap.push { cls := .type "range", data := .fields #[.int lo t, .int hi u, .int 1 v] }, toks := tk } := by
  refine wpAny_pyIter_range (IsRange.new ..) (small_one h1 h2 h3 h4) ?_
  have I1 : Inv X pins σ H { s with heap := s.heap.push { cls := .type "range", data := .fields #[.int lo t, .int hi u, .int 1 v] }, toks := tk } := I.kept fun b o e => Heap.get?_push_of_some _ e
  refine ⟨(s.heap.push { cls := .type "range", data := .fields #[.int lo t, .int hi u, .int 1 v] }).objs.size, [(s.heap.push { cls := .type "range", data := .fields #[.int lo t, .int hi u, .int 1 v] }).objs.size], _, _, H, rfl,
    I1.kept (t' := tk) fun b o e => Heap.get?_push_of_some _ e, turn_range _ lo (hi - lo).toNat, ?_, fun b hb => ?_, q⟩
  · have e1 : lo + ((0 : Nat) : Int) * 1 = lo := by simp
    have e2 : (((hi - lo).toNat : Nat) : Int) - ((0 : Nat) : Int) = Builtin.Range.rangeSize lo hi 1 := by rw [rangeSize_one]; split <;> omega
    show IsRangeIter _ _ (lo + ((0 : Nat) : Int) * 1) ((((hi - lo).toNat : Nat) : Int) - ((0 : Nat) : Int)) 1
    rw [e1, e2]
    exact Heap.get?_push_size _ rfl
  · have e : b = (s.heap.push { cls := .type "range", data := .fields #[.int lo t, .int hi u, .int 1 v] }).objs.size := by simpa using hb
    subst e
    exact I1.fpOk (Nat.le_refl _) (I1.hok.fresh (Nat.le_refl _))
def iRng1 (ta : TA) : TI := fun σ H R => ta σ H fun vs H1 => ∃ j : Int, vs = [.int j] ∧ -(2 ^ 62) ≤ j ∧ j < 2 ^ 62 ∧ R (Itr 0 j.toNat) H1
theorem pi_range1 {a : Expr} {ta : TA} {p pos : Pos} (hg : Gl X "range") (hm : X.mg "range" = none) (ha : PA X [a] ta) (hs : starEach [a] X.env = [(false, eval a X.env)] := by rfl) : PI X tg (.Call (.Name "range" p) [a] [] pos) (iRng1 ta) := by
  intro pins s σ H R I h
  refine Call_ (ld_blt I hg hm boot_range (PyProof.Rows.callWith_type1 (thn (ha pos pins s σ H _ I h) fun us s1 zr31 => ?_) hs rfl))
  obtain ⟨vs, H1, I1, r1, q1⟩ := zr31
  obtain ⟨j, e, q1, q2, q⟩ := q1
  subst e
  cases r1 with
  | cons r rr =>
    cases rr
    obtain ⟨t, rfl⟩ := r
    exact call_range_1 (range_it I1 (by omega) (by omega) q1 q2 (by simpa using q))
/-- W: the invariant by the turn and a measure; N: what the body is to reach -/
def tFor (wi : TI) (g : TG) (tb : TS) : TS := fun D σ H => wi σ H fun J H1 => ∃ W : Nat → Nat → St → Hp → Prop, (∃ m, W 0 m σ H1) ∧ ∀ i m σ H, W i m σ H →
  (J.stop i H ∧ D.nx σ H) ∨ (J.go i H ∧ ∃ N : St → Hp → Prop, (∀ σ' H', N σ' H' → ∃ m', m' < m ∧ W (i + 1) m' σ' H') ∧ ∀ x H', J.yld i H x H' → g x σ H' fun σ2 H2 => tb { D with nx := N, ct := N, bk := D.nx } σ2 H2)
/-- the records at fp as they stand -/
def pinsAt (fp : List Addr) (h : Heap) : List (Addr × Obj) := fp.filterMap fun b => (h.get? b).map fun o => (b, o)
theorem mem_pinsAt {fp : List Addr} {h : Heap} {b : Addr} {o : Obj} (hb : b ∈ fp) (e : h.get? b = some o) : (b, o) ∈ pinsAt fp h := List.mem_filterMap.mpr ⟨b, hb, by rw [e]; rfl⟩
theorem of_pinsAt {fp : List Addr} {h : Heap} {p : Addr × Obj} (hp : p ∈ pinsAt fp h) : p.1 ∈ fp ∧ h.get? p.1 = some p.2 := by
  obtain ⟨b, hb, e⟩ := List.mem_filterMap.mp hp
  cases q : h.get? b with
  | none => rw [q] at e; cases e
  | some o =>
    rw [q] at e
    have e' : (b, o) = p := Option.some.inj e
    subst e'
    exact ⟨hb, q⟩
theorem Inv.pinned {pins : List (Addr × Obj)} {σ : St} {H : Hp} {s : Shared} {fp : List Addr} (I : Inv X pins σ H s) (hf : ∀ b ∈ fp, FpOk X pins H b) (ho : ∀ b ∈ fp, ∃ o, s.heap.get? b = some o ∧ ∀ v, o.data ≠ .cell v) : Inv X (pins ++ pinsAt fp s.heap) σ H s :=
  I.pins_of fun p hp => (List.mem_append.mp hp).elim (fun z => I.pin p (List.mem_append_right _ z)) fun z => by
    obtain ⟨hb, e⟩ := of_pinsAt z
    obtain ⟨f0, f1, f2, _⟩ := hf p.1 hb
    obtain ⟨o, e', d⟩ := ho p.1 hb
    rw [e] at e'; cases e'
    exact ⟨e, f0, f1, f2, d⟩
theorem Inv.unpinned {pins pl : List (Addr × Obj)} {σ : St} {H : Hp} {s : Shared} (I : Inv X (pins ++ pl) σ H s) : Inv X pins σ H s := I.pins_of fun p hp => I.pin p (List.mem_append_right _ (List.mem_append_left _ hp))
theorem ps_for {iter : Expr} {body : List Stmt} {wi : TI} {g : TG} {tb : TS} {pos : Pos} (hp : PassesOwn (model X.prog X.w) X.A X.env X.xe) (hc : X.calm = true) (hi : PI X tg iter wi) (hg : PG X tg g) (hb : PSs X body tb)
    (hs : ∀ x, foldedSetIterable iter X.env x = pure x := by intro _; rfl) : PS X (.For tg iter body [] pos) (tFor wi g tb) := by
  intro pins s σ H D I h
  refine wpAny_For (thn (hi pins s σ H _ I h) fun v s1 h1 => thn h1 fun itv s2 h2 => ?_) hs
  obtain ⟨it, fp, tn, J, H2, e, I2, T, st2, f2, W, ⟨m0, w0⟩, turn⟩ := h2
  subst e
  -- what stays true of the iterator's objects through the loop
  have stat : ∀ {H' : Hp}, (∀ b ∈ fp, H' b = none) → ∀ b ∈ fp, FpOk X pins H' b := fun hn b hb => ⟨hn b hb, (f2 b hb).2⟩
  refine codeAny_forLoop_any (fun n s' => ∃ i σ' H', Inv X pins σ' H' s' ∧ tn i s'.heap ∧ (∀ b ∈ fp, H' b = none) ∧ W i n σ' H') ?_ m0 ⟨0, σ, H2, I2, st2, fun b hb => (f2 b hb).1, w0⟩
  rintro n s3 ⟨i, σ3, H3, I3, st3, fr3, w3⟩
  rcases turn i n σ3 H3 w3 with ⟨stop, qn⟩ | ⟨go, N, hN, step⟩
  · refine wpAny_passesOwn hp (thn (T.done X rfl rfl rfl hc i pins s3 σ3 H3 X.xe I3 (stat fr3) st3 stop) fun r s4 zr33 => ?_)
    obtain ⟨hr, I4⟩ := zr33
    subst hr
    exact wpAny_execs_nil ⟨σ3, H3, I4, qn⟩
  · refine wpAny_passesOwn hp (thn (T.item X rfl rfl rfl hc i pins s3 σ3 H3 X.xe I3 (stat fr3) st3 go) fun r s4 zr34 => ?_)
    obtain ⟨u, hr, h4⟩ := zr34
    subst hr
    refine wpAny_passesOwn hp (thn h4 fun _ s5 zr35 => ?_)
    obtain ⟨x, H5, I5, r5, y5, st5, fr5⟩ := zr35
    have I5' := I5.pinned (stat fr5) (T.obj _ _ st5)
    refine wpAny_passesOwn hp (thn (hg _ s5 σ3 H5 x u _ I5' r5 (step x H5 y5)) fun _ s6 zr36 => ?_)
    obtain ⟨σ6, H6, I6, q6⟩ := zr36
    refine wpAny_passesOwn hp (thn (hb _ s6 σ6 H6 _ I6 q6) fun f s7 q7 => ?_)
    have again : ∀ {σ7 : St} {H7 : Hp}, Inv X (pins ++ pinsAt fp s5.heap) σ7 H7 s7 → N σ7 H7 → ∃ m, m < n ∧ ∃ i σ' H', Inv X pins σ' H' s7 ∧ tn i s7.heap ∧ (∀ b ∈ fp, H' b = none) ∧ W i m σ' H' := fun {σ7 H7} I7 n7 => by
      obtain ⟨m', hm, w7⟩ := hN σ7 H7 n7
      refine ⟨m', hm, i + 1, σ7, H7, I7.unpinned, T.keep _ _ _ st5 fun b hb o e => (I7.pin (b, o) (List.mem_append_right _ (List.mem_append_right _ (mem_pinsAt hb e)))).1, fun b hb => ?_, w7⟩
      obtain ⟨o, e, d⟩ := T.obj _ _ st5 b hb
      exact (I7.pin (b, o) (List.mem_append_right _ (List.mem_append_right _ (mem_pinsAt hb e)))).2.1
    cases f with
    | next => obtain ⟨σ7, H7, I7, n7⟩ := q7; exact again I7 n7
    | cont => obtain ⟨σ7, H7, I7, n7⟩ := q7; exact again I7 n7
    | brk => obtain ⟨σ7, H7, I7, q7⟩ := q7; exact ⟨σ7, H7, I7.unpinned, q7⟩
    | ret v => obtain ⟨x7, σ7, H7, I7, r7, q7⟩ := q7; exact ⟨x7, σ7, H7, I7.unpinned, r7, q7⟩
end
end L2
namespace L2
open PySem PySem.Spec PyProof.Rows
abbrev R2 := V → V → Hp → VK → Prop
/-- a two-place operation on values: f is binaryOp op, inplaceOp op or compareOp op -/
def OpR (X : Cx) (f : Value → Value → Sem Value) (r : R2) : Prop :=
  ∀ (pins : List (Addr × Obj)) (s : Shared) (σ : St) (H : Hp) (x y : V) (v u : Value) (Q : VK), Inv X pins σ H s → RelV x v → RelV y u → r x y H Q →
    wpAny (model X.prog X.w) X.A (f v u) (EP X pins σ Q) X.xe s
/-- a one-place operation -/
def UnR (X : Cx) (f : Value → Sem Value) (r : V → Hp → VK → Prop) : Prop :=
  ∀ (pins : List (Addr × Obj)) (s : Shared) (σ : St) (H : Hp) (x : V) (v : Value) (Q : VK), Inv X pins σ H s → RelV x v → r x H Q →
    wpAny (model X.prog X.w) X.A (f v) (EP X pins σ Q) X.xe s
/-- a call of a value that is known (a builtin, a type) with values -/
def CallR (X : Cx) (f : Value) (r : List V → Hp → VK → Prop) : Prop :=
  ∀ (pins : List (Addr × Obj)) (s : Shared) (σ : St) (H : Hp) (xs : List V) (us : List Value) (Q : VK), Inv X pins σ H s → Vals xs us → r xs H Q →
    wpAny (model X.prog X.w) X.A (call f us) (EP X pins σ Q) X.xe s
def tOp (r : R2) (ta tb : TE) : TE := fun σ H Q => ta σ H fun x H1 => tb σ H1 fun y H2 => r x y H2 Q
def tUn (r : V → Hp → VK → Prop) (ta : TE) : TE := fun σ H Q => ta σ H fun x H1 => r x H1 Q
/-- ints in, under C, and a value out -/
def rI (C : Int → Int → Prop) (g : Int → Int → V) : R2 := fun x y H Q => ∃ i j, x = .int i ∧ y = .int j ∧ C i j ∧ Q (g i j) H
def rI0 (g : Int → Int → V) : R2 := fun x y H Q => ∃ i j, x = .int i ∧ y = .int j ∧ Q (g i j) H
def rU (g : Int → V) : V → Hp → VK → Prop := fun x H Q => ∃ i, x = .int i ∧ Q (g i) H
section
variable {X : Cx} {a b c : Expr} {ta tb tc : TE} {pos : Pos}
theorem binT (ha : PE X a ta) (hb : PE X b tb) {pins : List (Addr × Obj)} {s : Shared} {σ : St} {H : Hp} {R : V → V → Hp → Prop} (I : Inv X pins σ H s)
    (h : ta σ H fun x H1 => tb σ H1 fun y H2 => R x y H2) {Q : Value → Shared → Prop} {f : Value → Value → Sem Value}
    (hf : ∀ v u s2 x y H2, Inv X pins σ H2 s2 → RelV x v → RelV y u → R x y H2 → wpAny (model X.prog X.w) X.A (f v u) Q X.xe s2) :
    wpAny (model X.prog X.w) X.A (eval a X.env) (fun v s₁ => wpAny (model X.prog X.w) X.A (eval b X.env) (fun u s₂ => wpAny (model X.prog X.w) X.A (f v u) Q X.xe s₂) X.xe s₁) X.xe s := by
  refine thn (ha pins s σ H _ I h) fun v s1 zr37 => ?_
  obtain ⟨x, H1, I1, r1, q1⟩ := zr37
  refine thn (hb pins s1 σ H1 _ I1 q1) fun u s2 zr38 => ?_
  obtain ⟨y, H2, I2, r2, q2⟩ := zr38
  exact hf v u s2 x y H2 I2 r1 r2 q2
theorem pe_op {op : Operator} {r : R2} (ho : OpR X (binaryOp op) r) (ha : PE X a ta) (hb : PE X b tb) : PE X (.BinOp a op b pos) (tOp r ta tb) := by
  intro pins s σ H Q I h
  exact wpAny_BinOp (binT ha hb I h fun v u s2 x y H2 I2 rx ry q => ho pins s2 σ H2 x y v u Q I2 rx ry q)
theorem pe_un {op : UnaryOp} {r : V → Hp → VK → Prop} (ho : UnR X (unaryOp op) r) (ha : PE X a ta) : PE X (.UnaryOp op a pos) (tUn r ta) := by
  intro pins s σ H Q I h
  exact UnaryOp_ (thn (ha pins s σ H _ I h) fun v s1 ⟨x, H1, I1, r1, q1⟩ => ho pins s1 σ H1 x v Q I1 r1 q1)
theorem opI {f : Value → Value → Sem Value} {C : Int → Int → Prop} {g : Int → Int → Int}
    (rule : ∀ (i j : Int) (t u : Tok) (s : Shared) (Q : Value → Shared → Prop) (E : Value → Shared → Prop), C i j → Q (.int (g i j) s.toks) { s with toks := s.toks + 1 } → wpAny (model X.prog X.w) X.A (f (.int i t) (.int j u)) Q E s) :
    OpR X f (rI C fun i j => .int (g i j)) := by
  intro pins s σ H x y v u Q I rx ry h
  obtain ⟨i, j, rfl, rfl, hc, q⟩ := h
  obtain ⟨t, rfl⟩ := rx
  obtain ⟨t', rfl⟩ := ry
  exact rule i j t t' s _ _ hc ⟨.int (g i j), H, I.tok _, ⟨_, rfl⟩, q⟩
theorem opI0 {f : Value → Value → Sem Value} {g : Int → Int → Int}
    (rule : ∀ (i j : Int) (t u : Tok) (s : Shared) (Q : Value → Shared → Prop) (E : Value → Shared → Prop), Q (.int (g i j) s.toks) { s with toks := s.toks + 1 } → wpAny (model X.prog X.w) X.A (f (.int i t) (.int j u)) Q E s) :
    OpR X f (rI0 fun i j => .int (g i j)) := by
  intro pins s σ H x y v u Q I rx ry h
  obtain ⟨i, j, rfl, rfl, q⟩ := h
  obtain ⟨t, rfl⟩ := rx
  obtain ⟨t', rfl⟩ := ry
  exact rule i j t t' s _ _ ⟨.int (g i j), H, I.tok _, ⟨_, rfl⟩, q⟩
theorem opB0 {f : Value → Value → Sem Value} {g : Int → Int → Bool}
    (rule : ∀ (i j : Int) (t u : Tok) (s : Shared) (Q : Value → Shared → Prop) (E : Value → Shared → Prop), Q (.bool (g i j)) s → wpAny (model X.prog X.w) X.A (f (.int i t) (.int j u)) Q E s) :
    OpR X f (rI0 fun i j => .bl (g i j)) := by
  intro pins s σ H x y v u Q I rx ry h
  obtain ⟨i, j, rfl, rfl, q⟩ := h
  obtain ⟨t, rfl⟩ := rx
  obtain ⟨t', rfl⟩ := ry
  exact rule i j t t' s _ _ ⟨.bl (g i j), H, I, rfl, q⟩
def CPow (i j : Int) : Prop := 0 ≤ j ∧ j ≤ 1000000 ∧ i.natAbs < 2 ^ 64
theorem op_add : OpR X (binaryOp .Add) (rI0 fun i j => .int (i + j)) := opI0 fun _ _ _ _ _ _ _ q => add_int q
theorem op_sub : OpR X (binaryOp .Sub) (rI0 fun i j => .int (i - j)) := opI0 fun _ _ _ _ _ _ _ q => sub_int q
theorem op_modN : OpR X (binaryOp .Mod) (rI (fun _ j => j ≠ 0) fun i j => .int (i.fmod j)) := opI fun _ _ _ _ _ _ _ hc q => mod_int' hc q
theorem op_pow : OpR X (binaryOp .Pow) (rI CPow fun i j => .int (i ^ j.toNat)) := opI fun _ _ _ _ _ _ _ hc q => pow_int_small hc.1 hc.2.1 hc.2.2 q
theorem unI {f : Value → Sem Value} {g : Int → Int}
    (rule : ∀ (i : Int) (t : Tok) (s : Shared) (Q : Value → Shared → Prop) (E : Value → Shared → Prop), Q (.int (g i) s.toks) { s with toks := s.toks + 1 } → wpAny (model X.prog X.w) X.A (f (.int i t)) Q E s) :
    UnR X f (rU fun i => .int (g i)) := by
  intro pins s σ H x v Q I rx h
  obtain ⟨i, rfl, q⟩ := h
  obtain ⟨t, rfl⟩ := rx
  exact rule i t s _ _ ⟨.int (g i), H, I.tok _, ⟨_, rfl⟩, q⟩
theorem un_neg : UnR X (unaryOp .USub) (rU fun i => .int (-i)) := unI fun _ _ _ _ _ q => neg_int q
end
section
variable {X : Cx} {a b c : Expr} {ta tb tc : TE} {pos : Pos}
theorem op_lt : OpR X (compareOp .Lt) (rI0 fun i j => .bl (decide (i < j))) := opB0 fun _ _ _ _ _ _ _ q => lt_int q
theorem op_le : OpR X (compareOp .LtE) (rI0 fun i j => .bl (decide (i ≤ j))) := opB0 fun _ _ _ _ _ _ _ q => le_int q
theorem op_gt : OpR X (compareOp .Gt) (rI0 fun i j => .bl (decide (j < i))) := opB0 fun _ _ _ _ _ _ _ q => gt_int q
theorem op_ge : OpR X (compareOp .GtE) (rI0 fun i j => .bl (decide (j ≤ i))) := opB0 fun _ _ _ _ _ _ _ q => ge_int q
/-- two rules for one operation: by cases -/
theorem OpR.or {f : Value → Value → Sem Value} {r r' : R2} (h : OpR X f r) (h' : OpR X f r') : OpR X f (fun x y H Q => r x y H Q ∨ r' x y H Q) := by
  intro pins s σ H x y v u Q I rx ry q
  rcases q with q | q
  · exact h pins s σ H x y v u Q I rx ry q
  · exact h' pins s σ H x y v u Q I rx ry q
theorem nomark (b : Expr) {op : CmpOp} (h : op ≠ .In := by decide) (h2 : op ≠ .NotIn := by decide) : behindInMarks op b = false := by
  have e1 : (op == CmpOp.In) = false := by cases op <;> first | rfl | exact absurd rfl h
  have e2 : (op == CmpOp.NotIn) = false := by cases op <;> first | rfl | exact absurd rfl h2
  cases b <;> simp [behindInMarks, e1, e2]
/-- a comparison as a value; hm: nomark b, or (for in, not in) by with_unfolding_all rfl -/
theorem pe_cmpR {op : CmpOp} {r : R2} (ho : OpR X (compareOp op) r) (ha : PE X a ta) (hb : PE X b tb) (hm : behindInMarks op b = false) : PE X (.Compare a [op] [b] pos) (tOp r ta tb) := by
  intro pins s σ H Q I h
  exact wpAny_Compare1 (binT ha hb I h fun v u s2 x y H2 I2 rx ry q => ho pins s2 σ H2 x y v u Q I2 rx ry q) hm
/-- a reading of a value as a test -/
def tTest (t : TE) : TT := fun σ H Q => t σ H fun x H' => ∃ k, x = .bl k ∧ Q k H'
theorem pt_cmpR {op : CmpOp} {r : R2} (ho : OpR X (compareOp op) r) (ha : PE X a ta) (hb : PE X b tb) (hm : behindInMarks op b = false) : PT X (.Compare a [op] [b] pos) (tTest (tOp r ta tb)) := by
  intro pins s σ H Q I h
  refine wpAny_isTrue_Compare1 (thn (ha pins s σ H _ I h) fun v s1 ⟨x, H1, I1, r1, q1⟩ => thn (hb pins s1 σ H1 _ I1 q1) fun u s2 ⟨y, H2, I2, r2, q2⟩ =>
    thn (ho pins s2 σ H2 x y v u _ I2 r1 r2 q2) fun c s3 ⟨z, H3, I3, r3, k, e, q3⟩ => ?_) hm
  subst e
  cases r3
  exact wpAny_truthy_bool ⟨H3, I3, q3⟩
/-- a op1 b op2 c -/
def tChain (r r' : R2) (ta tb tc : TE) : TE := fun σ H Q => ta σ H fun x H1 => tb σ H1 fun y H2 => r x y H2 fun z H3 => ∃ k, z = .bl k ∧
  (if k = true then tc σ H3 fun w' H4 => r' y w' H4 Q else Q (.bl false) H3)
theorem pt_chain {op op' : CmpOp} {r r' : R2} (ho : OpR X (compareOp op) r) (ho' : OpR X (compareOp op') r') (ha : PE X a ta) (hb : PE X b tb) (hc : PE X c tc)
    (hm : lastMarks [op, op'] [b, c] = false := by with_unfolding_all rfl) : PT X (.Compare a [op, op'] [b, c] pos) (tTest (tChain r r' ta tb tc)) := by
  intro pins s σ H Q I h
  refine isTrue_chain (thn (ha pins s σ H _ I h) fun v s1 ⟨x, H1, I1, r1, q1⟩ => test_link (thn (hb pins s1 σ H1 _ I1 q1) fun u s2 ⟨y, H2, I2, r2, q2⟩ =>
    thn (ho pins s2 σ H2 x y v u _ I2 r1 r2 q2) fun d s3 ⟨z, H3, I3, r3, k, e, q3⟩ => ?_)) hm
  subst e
  cases r3
  refine wpAny_truthy_bool ?_
  cases k with
  | false =>
    obtain ⟨k', e', q'⟩ := q3
    cases e'
    exact ite_ff ⟨H3, I3, q'⟩
  | true =>
    refine ite_tt (test_last (thn (hc pins s3 σ H3 _ I3 q3) fun w' s4 ⟨z', H4, I4, r4, q4⟩ => thn (ho' pins s4 σ H4 y z' u w' _ I4 r2 r4 q4) fun d' s5 zr39 => ?_))
    obtain ⟨z2, H5, I5, r5, k2, e2, q5⟩ := zr39
    subst e2
    cases r5
    exact wpAny_truthy_bool ⟨H5, I5, q5⟩
theorem line63 : (sizeLine : Nat) < 2 ^ 63 := by rw [sizeLine_eq]; decide
theorem vals1 {x : V} {us : List Value} (r : Vals [x] us) : ∃ u, us = [u] ∧ RelV x u := by
  cases r with
  | cons r1 r2 => cases r2; exact ⟨_, rfl, r1⟩
theorem vals2 {x y : V} {us : List Value} (r : Vals [x, y] us) : ∃ u w', us = [u, w'] ∧ RelV x u ∧ RelV y w' := by
  cases r with
  | cons r1 r2 =>
    cases r2 with
    | cons r3 r4 => cases r4; exact ⟨_, _, rfl, r1, r3⟩
theorem call_abs : CallR X (.builtin "abs") (fun xs H Q => ∃ i, xs = [.int i] ∧ Q (.int (if i < 0 then -i else i)) H) := by
  intro pins s σ H xs us Q I r h
  obtain ⟨i, rfl, q⟩ := h
  obtain ⟨u, rfl, t, rfl⟩ := vals1 r
  exact call_abs_int fun u tk => ⟨.int (if i < 0 then -i else i), H, I.tok _, ⟨_, rfl⟩, q⟩
end
end L2
namespace L2
open PySem PySem.Spec PyProof.Rows
structure ObjM (h : Heap) (x dx C : Addr) (mA : Str → Option Value) : Prop where
  obj : h.get? x = some (PySem.W.instObj C dx)
  ns : h.Ns1 dx mA
  ne : dx ≠ x
theorem lookIn_ns {h : Heap} {dx : Addr} {mA : Str → Option Value} (n : h.Ns1 dx mA) : ∃ od, h.get? dx = some od ∧ ∀ name, PySem.W.lookIn name od = some (mA name) := by
  obtain ⟨o, es, ep, ho, hd, hk, _, hm⟩ := n
  refine ⟨o, ho, fun name => ?_⟩
  have e := hm name
  unfold nsFind findBy at e
  rw [← Array.find?_toList] at e
  unfold PySem.W.lookIn
  rw [hd]
  dsimp only
  split
  · rename_i y q
    rw [q] at e
    exact congrArg some e
  · rename_i q
    rw [q] at e
    have a : es.toList.any (·.refKey) = false := by
      rw [List.any_eq_false]
      intro y hy
      obtain ⟨z, t, hkey⟩ := hk y (Array.mem_toList_iff.mp hy)
      simp [DictEntry.refKey, hkey]
    have a' : ¬ es.toList.any (·.refKey) = true := by rw [a]; exact Bool.false_ne_true
    rw [if_neg a']
    exact congrArg some e
theorem ObjM.look {h : Heap} {x dx C : Addr} {mA : Str → Option Value} (I : ObjM h x dx C mA) : ∃ od, PySem.W.InstAt h x (PySem.W.instObj C dx) C (some od) ∧ ∀ name, PySem.W.lookIn name od = some (mA name) :=
  let ⟨od, ho, hl⟩ := lookIn_ns I.ns
  ⟨od, ⟨I.obj, rfl, rfl, ho⟩, hl⟩
section
variable {prog : Program} {w : World} {A : Around} {E : Value → Shared → Prop} {s : Shared} {K : PySem.W.Frag} {x dx C f : Addr} {mA : Str → Option Value} {name : Str} {v : Value}
theorem get_map {expr : Bool} {Q : Value → Shared → Prop} (X : K.In s.heap) (I : ObjM s.heap x dx C mA) (hg : PySem.W.plainGet K C name = true) (hh : PySem.W.hasDictIn K C = true)
    (ha : PySem.W.findIn K (.ref C) name = some none) (hv : mA name = some v) (hv' : PySem.W.handedIn v = true) (h : Q v { s with toks := s.toks + 1 }) :
    wpAny (model prog w) A (getAttr (.ref x) name expr) Q E s := by
  obtain ⟨od, J, hl⟩ := I.look
  exact PySem.W.get_value X J (PySem.W.plainGet_of hg).1 (PySem.W.findObj_own hh ha rfl (by rw [hl, hv])) hv' h
theorem get_meth {pl : Sem Bool} {Q : Value × List Value → Shared → Prop} (X : K.In s.heap) (I : ObjM s.heap x dx C mA) (hg : PySem.W.plainGet K C name = true)
    (hf : PySem.W.findIn K (.ref C) name = some (some (.ref f))) (ht : PySem.W.isFn K (.ref f) = true) (hv : mA name = none) (h : Q (.ref f, [.ref x]) s) :
    wpAny (model prog w) A (getMethod (.ref x) name pl) Q E s := by
  obtain ⟨od, J, hl⟩ := I.look
  exact PySem.W.method_fn X J (PySem.W.plainGet_of hg).1 (PySem.W.plainGet_of hg).2 hf (beq_iff_eq.mp ht) (by show (PySem.W.lookIn name od).map (·.isSome) = some false; rw [hl, hv]; rfl) h
theorem set_map {ns : List Str} {Q : Unit → Shared → Prop} (X : K.In s.heap) (I : ObjM s.heap x dx C mA)
    (hs : PySem.W.findIn K (.ref C) "__setattr__" = some (some (.builtin "object.__setattr__"))) (hp : PySem.W.plainOver K C = true) (ht : PySem.W.takerIn K C name = some none) (hh : PySem.W.hasDictIn K C = true)
    (hw : PySem.Within mA ns) (hsz : ns.length ≤ sizeLine)
    (h : ∀ h', ObjM h' x dx C (fun y => if y = name then some v else mA y) → Heap.SameBut dx s.heap h' → Q () { s with heap := h', toks := s.toks + 2 }) :
    wpAny (model prog w) A (setAttr (.ref x) name v) Q E s := by
  obtain ⟨od, J, hl⟩ := I.look
  refine PySem.W.set_plain X J hs (PySem.W.osa_open (s := { s with toks := s.toks + 1 }) (r := none) X J hp ht fun b => ?_)
  obtain ⟨cd, hc, hd'⟩ := PySem.W.any_some hh
  have hx : s.heap.get? x = some ⟨.ref C, some dx, .plain, #[]⟩ := I.obj
  refine wpAny_bind (wpAny_pure (wpAny_bind (wpAny_bind (wpAny_loadPart hx (wpAny_bind (PySem.W.Looks.here (s := { s with toks := s.toks + 1 }) (PySem.W.looks_clsIn X hc) ?_))))))
  rw [hd']
  refine wpAny_pure (a := some dx) (wpAny_bind (wpAny_pure (wpAny_bind ?_)))
  refine wpAny_nsSet1 (s := { s with toks := s.toks + 1 }) I.ns fun h' hn2 hs2 => ?_
  obtain ⟨oD, esD, epD, hoD, hdD, hcD⟩ := hn2.count (PySem.Within.cons name v hw)
  refine wpAny_bind (wpAny_lookBehind hoD (by rw [hdD]; exact pastItsLine_dict (Nat.le_trans hcD (by rw [List.length_cons]; omega))) ?_)
  exact wpAny_pure (h _ ⟨(hs2.2 _ (Ne.symm I.ne)).trans I.obj, hn2, I.ne⟩ hs2)
/-- C(..): the dict at the heap's end, the instance behind it; then its __init__ -/
theorem make_map {R : Result → Shared → Prop} {vs : List Value} {kw : List (Str × Value)} (X : K.In s.heap) (hm : PySem.W.makesIn K C = true)
    (hi : PySem.W.findIn K (.ref C) "__init__" = some (some (.ref f))) (hf : PySem.W.typeIn K (.ref f) = some (.type "function"))
    (h : codeAny (model prog w) (A.under (.builtin "type.__call__" ⟨.ref C :: vs, kw⟩)) (.call (.ref f) ⟨.ref (s.heap.objs.size + 1) :: vs, kw⟩) (PySem.W.InitBack (s.heap.objs.size + 1) R)
      { s with heap := (s.heap.push PySem.W.emptyDict).push (PySem.W.instObj C s.heap.objs.size) }) :
    codeAny (model prog w) A (.call (.ref C) ⟨vs, kw⟩) R s := by
  obtain ⟨hh, g, d, t, os⟩ := s
  exact PySem.W.make_core (PySem.W.makes_of X hm) (PySem.W.looks_findIn X hi) (fun self => PySem.W.bind_fn X self hf) (.inl rfl) h
end
def putF (f : Str) (v : V) : List (Str × V) → List (Str × V)
  | [] => [(f, v)]
  | (g, x) :: r => if g = f then (g, v) :: r else (g, x) :: putF f v r
theorem lookup_putF (f g : Str) (v : V) : ∀ fs : List (Str × V), (putF f v fs).lookup g = if g = f then some v else fs.lookup g
  | [] => by
    show List.lookup g [(f, v)] = _
    by_cases h : g = f
    · have hb : (g == f) = true := beq_iff_eq.mpr h
      simp only [List.lookup, hb, if_pos h]
    · have hb : (g == f) = false := beq_eq_false_iff_ne.mpr h
      simp only [List.lookup, hb, if_neg h]
  | (k, x) :: r => by
    have ih := lookup_putF f g v r
    rw [show putF f v ((k, x) :: r) = (if k = f then (k, v) :: r else (k, x) :: putF f v r) from rfl]
    by_cases hk : k = f
    · rw [if_pos hk]
      by_cases h : g = k
      · have hb : (g == k) = true := beq_iff_eq.mpr h
        simp only [List.lookup, hb, if_pos (h.trans hk)]
      · have hb : (g == k) = false := beq_eq_false_iff_ne.mpr h
        simp only [List.lookup, hb, if_neg (fun e : g = f => h (e.trans hk.symm))]
    · rw [if_neg hk]
      by_cases h : g = k
      · have hb : (g == k) = true := beq_iff_eq.mpr h
        simp only [List.lookup, hb, if_neg (fun e : g = f => hk (h.symm.trans e))]
      · have hb : (g == k) = false := beq_eq_false_iff_ne.mpr h
        simp only [List.lookup, hb]
        exact ih
theorem keys_putF (f : Str) (v : V) : ∀ fs : List (Str × V), f ∈ (putF f v fs).map (·.1) ∧ ∀ g, g ∈ fs.map (·.1) → g ∈ (putF f v fs).map (·.1)
  | [] => ⟨by simp [putF], fun g h => by simp at h⟩
  | (k, x) :: r => by
    obtain ⟨i1, i2⟩ := keys_putF f v r
    rw [show putF f v ((k, x) :: r) = (if k = f then (k, v) :: r else (k, x) :: putF f v r) from rfl]
    by_cases hk : k = f
    · rw [if_pos hk]
      subst hk
      exact ⟨by simp, fun g h => by simpa using h⟩
    · rw [if_neg hk]
      refine ⟨?_, fun g h => ?_⟩
      · rw [List.map_cons]
        exact List.mem_cons_of_mem _ i1
      · rw [List.map_cons] at h ⊢
        rcases List.mem_cons.mp h with e | e
        · exact List.mem_cons.mpr (.inl e)
        · exact List.mem_cons_of_mem _ (i2 g e)
theorem length_putF (f : Str) (v : V) : ∀ fs : List (Str × V), (putF f v fs).length ≤ fs.length + 1
  | [] => by simp [putF]
  | (k, x) :: r => by
    have ih := length_putF f v r
    rw [show putF f v ((k, x) :: r) = (if k = f then (k, v) :: r else (k, x) :: putF f v r) from rfl]
    by_cases hk : k = f
    · rw [if_pos hk, List.length_cons, List.length_cons]; omega
    · rw [if_neg hk, List.length_cons, List.length_cons]; omega
theorem RelO.some_of {v : V} {o : Option Value} (r : RelO (some v) o) : ∃ u, o = some u ∧ RelV v u := by
  cases o with
  | none => exact (show False from r).elim
  | some u => exact ⟨u, rfl, r⟩
theorem RelO.none_of {o : Option Value} (r : RelO none o) : o = none := by
  cases o with
  | none => rfl
  | some u => exact (show False from r).elim
theorem handed_of {v : V} {u : Value} (r : RelV v u) : PySem.W.handedIn u = true := by
  cases v with
  | non => cases (show u = Value.none from r); rfl
  | bl b => cases (show u = Value.bool b from r); rfl
  | int i => obtain ⟨t, e⟩ := (show ∃ t, u = Value.int i t from r); cases e; rfl
  | str x => obtain ⟨t, e⟩ := (show ∃ t, u = Value.str x t from r); cases e; rfl
  | byt b => obtain ⟨t, e⟩ := (show ∃ t, u = Value.bytes b t from r); cases e; rfl
  | flt b => obtain ⟨t, e⟩ := (show ∃ t, u = Value.float b t from r); cases e; rfl
  | ref a => cases (show u = Value.ref a from r); rfl
  | ty n => cases (show u = Value.type n from r); rfl
section
variable {P : Program} {w : World} {H H' : Hp} {h h' : Heap} {a C dx : Addr} {fs fs' : List (Str × V)}
theorem ins_get (hok : HOk P w H h) (e : H a = some (.ins C dx fs)) : ∃ mA, ObjM h a dx C mA ∧ (∀ f, RelO (fs.lookup f) (mA f)) ∧ PySem.Within mA (fs.map (·.1)) ∧ fs.length ≤ 1000 ∧ H dx = some (.own a) := by
  obtain ⟨d, z, ne, ob, mA, n, r, q⟩ := (show ObjOk P w H h a (.ins C dx fs) from hok a _ e)
  exact ⟨mA, ⟨ob, n, ne⟩, r, q, z, d⟩
end
structure Cls (K : PySem.W.Frag) (C : Addr) : Prop where
  pg : PySem.W.plainGet K C Str.empty = true
  hd : PySem.W.hasDictIn K C = true
  po : PySem.W.plainOver K C = true
  sa : PySem.W.findIn K (.ref C) "__setattr__" = some (some (.builtin "object.__setattr__"))
theorem Cls.get {K : PySem.W.Frag} {C : Addr} (c : Cls K C) (f : Str) : PySem.W.plainGet K C f = true := c.pg
/-- no class of it has the name -/
def NoAttr (K : PySem.W.Frag) (C : Addr) (f : Str) : Prop := PySem.W.findIn K (.ref C) f = some none
theorem NoAttr.taker {K : PySem.W.Frag} {C : Addr} {f : Str} (n : NoAttr K C f) : PySem.W.takerIn K C f = some none := by
  unfold PySem.W.takerIn
  rw [show PySem.W.findIn K (.ref C) f = some none from n]
  rfl
/-- a constant of the class -/
structure Con (K : PySem.W.Frag) (C : Addr) (f : Str) (v : V) (u : Value) : Prop where
  at_ : PySem.W.findIn K (.ref C) f = some (some u)
  rel : RelV v u
  get : PySem.W.specialIn K u "__get__" = some none
  cp : PySem.W.copiedNames.contains f = false
/-- a method: a plain def of the class or of one above it -/
structure Meth (K : PySem.W.Frag) (C : Addr) (m : Str) (f : Addr) : Prop where
  at_ : PySem.W.findIn K (.ref C) m = some (some (.ref f))
  fn : PySem.W.isFn K (.ref f) = true
  kp : PySem.W.keepIn K (.ref f) = true
section
variable {X : Cx} {pins : List (Addr × Obj)} {σ : St} {H : Hp} {s : Shared} {a C dx : Addr} {fs : List (Str × V)} {f : Str} {v : V} {A : Around} {E : Value → Shared → Prop}
theorem getattr_ok {b : Bool} {Q : Value → Shared → Prop} (I : Inv X pins σ H s) (e : H a = some (.ins C dx fs)) (c : Cls X.K C) (n : NoAttr X.K C f) (l : fs.lookup f = some v)
    (h : ∀ u s', Inv X pins σ H s' → RelV v u → Q u s') : wpAny (model X.prog X.w) A (getAttr (.ref a) f b) Q E s := by
  obtain ⟨mA, O, r, _, _, _⟩ := ins_get I.hok e
  obtain ⟨u, hu, ru⟩ := RelO.some_of (v := v) (o := mA f) (by rw [← l]; exact r f)
  exact get_map I.kIn O (c.get f) c.hd n hu (handed_of ru) (h u _ (I.tok _) ru)
theorem getmeth_ok {m : Str} {g : Addr} {pl : Sem Bool} {Q : Value × List Value → Shared → Prop} (I : Inv X pins σ H s) (e : H a = some (.ins C dx fs)) (c : Cls X.K C) (k : Meth X.K C m g) (l : fs.lookup m = none)
    (h : Q (.ref g, [.ref a]) s) : wpAny (model X.prog X.w) A (getMethod (.ref a) m pl) Q E s := by
  obtain ⟨mA, O, r, _, _, _⟩ := ins_get I.hok e
  have hn : mA m = none := RelO.none_of (by rw [← l]; exact r m)
  exact get_meth I.kIn O (c.get m) k.at_ k.fn hn h
theorem setattr_ok {y : V} {u : Value} {Q : Unit → Shared → Prop} (I : Inv X pins σ H s) (e : H a = some (.ins C dx fs)) (c : Cls X.K C) (n : NoAttr X.K C f) (hl : fs.length < 1000) (ry : RelV y u)
    (h : ∀ s', Inv X pins σ (upd H a (.ins C dx (putF f y fs))) s' → Q () s') : wpAny (model X.prog X.w) A (setAttr (.ref a) f u) Q E s := by
  obtain ⟨mA, O, r, wi, _, ho⟩ := ins_get I.hok e
  have hz : (fs.map (·.1)).length ≤ sizeLine := by rw [List.length_map, sizeLine_eq]; omega
  refine set_map I.kIn O c.sa c.po n.taker c.hd wi hz fun h' O' sb => h _ ?_
  have hd : ∃ o, h'.get? dx = some o := let ⟨o, _, _, e', _⟩ := O'.ns; ⟨o, e'⟩
  refine I.write (x := a) (e := dx) (by rw [e]; exact True.intro) (.inr ho) (fun b q hb z => (sb.2 b hb).trans z) hd ?_
  refine ⟨by rw [upd_ne O.ne]; exact ho, ?_, O.ne, O'.obj, _, O'.ns, fun g => ?_, fun g hg => ?_⟩
  · have := length_putF f y fs; omega
  · show RelO ((putF f y fs).lookup g) (if g = f then some u else mA g)
    rw [lookup_putF]
    by_cases q : g = f
    · rw [if_pos q, if_pos q]; exact ry
    · rw [if_neg q, if_neg q]; exact r g
  · by_cases q : g = f
    · rw [q]; exact (keys_putF f y fs).1
    · refine (keys_putF f y fs).2 g (wi g fun z => hg ?_)
      show (if g = f then some u else mA g) = none
      rw [if_neg q]; exact z
/-- a new instance, tracked, without attributes -/
theorem Inv.made (I : Inv X pins σ H s) : Inv X pins σ (upd (upd H s.heap.objs.size (.own (s.heap.objs.size + 1))) (s.heap.objs.size + 1) (.ins C s.heap.objs.size []))
    { s with heap := (s.heap.push PySem.W.emptyDict).push (PySem.W.instObj C s.heap.objs.size) } := by
  have e1 : (s.heap.push PySem.W.emptyDict).get? s.heap.objs.size = some PySem.W.emptyDict := Heap.get?_push_size s.heap rfl
  have e2 : ((s.heap.push PySem.W.emptyDict).push (PySem.W.instObj C s.heap.objs.size)).get? (s.heap.objs.size + 1) = some (PySem.W.instObj C s.heap.objs.size) := by
    have := Heap.get?_push_size (s.heap.push PySem.W.emptyDict) (o := PySem.W.instObj C s.heap.objs.size) rfl
    rwa [Heap.size_push] at this
  have e3 : (s.heap.push PySem.W.emptyDict).Ns s.heap.objs.size (fun _ => none) := ⟨PySem.W.emptyDict, #[], _, e1, rfl, (fun e he => absurd he (by simp)), fun _ => rfl⟩
  have I1 := I.laid (a := s.heap.objs.size) (o := .own (s.heap.objs.size + 1)) (h' := s.heap.push PySem.W.emptyDict) (t' := s.toks) (fun b u q => Heap.get?_push_of_some _ q) (Nat.le_refl _) ⟨_, e1⟩
  refine I1.laid (a := s.heap.objs.size + 1) (o := .ins C s.heap.objs.size []) (t' := s.toks) (fun b u q => Heap.get?_push_of_some _ q) (Nat.le_of_eq (Heap.size_push _ _)) ?_
  have ne : s.heap.objs.size ≠ s.heap.objs.size + 1 := Nat.ne_of_lt (Nat.lt_succ_self _)
  refine ⟨by rw [upd_ne ne, upd_same], Nat.zero_le _, ne, e2, fun _ => none, (Heap.Ns1.of_empty e3).at fun o q => Heap.get?_push_of_some _ q, fun _ => True.intro, fun y hy => absurd rfl hy⟩
/-- e.f where nothing but the object is asked: through attributeBase (super) and the last hold -/
theorem attr_of {prog : Program} {w : World} {env : Env} {e : Expr} {f : Str} {pos : Pos} {s : Shared} {Q : Value → Shared → Prop} (hb : attributeBase e f env (eval e env) = eval e env)
    (h : wpAny (model prog w) A (eval e env) (fun o s₁ => wpAny (model prog w) A (getAttr o f true) Q E s₁) E s) : wpAny (model prog w) A (eval (.Attribute e f pos) env) Q E s :=
  Attribute_any_ h (by rw [arm_eval_Attribute, hb])
end
/-- e.f, an attribute of the instance -/
def tFld (K : PySem.W.Frag) (ta : TE) (f : Str) : TE := fun σ H Q => ta σ H fun x H1 => ∃ a C dx fs v, x = .ref a ∧ H1 a = some (.ins C dx fs) ∧ Cls K C ∧ NoAttr K C f ∧ fs.lookup f = some v ∧ Q v H1
/-- e.f = value -/
def sFld (K : PySem.W.Frag) (ta tv : TE) (f : Str) : TS := fun D σ H => tv σ H fun y H1 => ta σ H1 fun x H2 => ∃ a C dx fs, x = .ref a ∧ H2 a = some (.ins C dx fs) ∧ Cls K C ∧ NoAttr K C f ∧ fs.length < 1000 ∧
  D.nx σ (upd H2 a (.ins C dx (putF f y fs)))
section
variable {X : Cx} {o e value : Expr} {f : Str} {pos pos' tpos : Pos} {ta tv : TE}
theorem pe_fld (he : PE X e ta) (hb : attributeBase e f X.env (eval e X.env) = eval e X.env) : PE X (.Attribute e f pos) (tFld X.K ta f) := by
  intro pins s σ H Q I h
  refine attr_of hb (thn (he pins s σ H _ I h) fun u s1 zr40 => ?_)
  obtain ⟨x, H1, I1, rx, a, C, dx, fs, v, ex, ea, c, n, l, q⟩ := zr40
  subst ex
  obtain rfl : u = Value.ref a := rx
  exact getattr_ok I1 ea c n l fun u' s2 I2 ru => ⟨v, H1, I2, ru, q⟩
theorem ps_fld (ha : PE X o ta) (hv : PE X value tv) (hs : swapsWith value (some (.Attribute o f pos')) pos.line X.env = pure false) : PS X (.Assign [.Attribute o f pos'] value pos) (sFld X.K ta tv f) := by
  intro pins s σ H D I h
  refine plainObj_wpAny_Assign_Attribute (thn (hv pins s σ H _ I h) fun u s1 ⟨y, H1, I1, ry, q⟩ => thn (ha pins s1 σ H1 _ I1 q) fun ov s2 zr42 => ?_) hs
  obtain ⟨x, H2, I2, rx, a, C, dx, fs, ex, ea, c, n, l, q2⟩ := zr42
  subst ex
  obtain rfl : ov = Value.ref a := rx
  exact setattr_ok I2 ea c n l ry fun s3 I3 => ⟨σ, _, I3, q2⟩
end
section
variable {X : Cx} {pins : List (Addr × Obj)} {σ : St} {H : Hp} {s : Shared} {A : Around} {E : Value → Shared → Prop} {Q : Value → Shared → Prop} {c : Value} {b : Bool}
/-- the type of a value, as the fragment's deciders take it; for an instance its class -/
inductive TyOf (K : PySem.W.Frag) (H : Hp) : V → Value → Prop where
  | non : TyOf K H .non (.type "NoneType")
  | bl (x : Bool) : TyOf K H (.bl x) (.type "bool")
  | int (i : Int) : TyOf K H (.int i) (.type "int")
  | str (x : Str) : TyOf K H (.str x) (.type "str")
  | flt (x : UInt64) : TyOf K H (.flt x) (.type "float")
  | lst {a : Addr} {xs : List V} (e : H a = some (.lst xs)) : TyOf K H (.ref a) (.type "list")
  | frz {a : Addr} {o : Obj} {xs : List V} (e : H a = some (.frz o (.lst xs))) : TyOf K H (.ref a) (.type "list")
  | tup {a : Addr} {xs : List V} (e : H a = some (.tup xs)) : TyOf K H (.ref a) (.type "tuple")
  | dK {a : Addr} {kvs : List (Key × V)} (e : H a = some (.dK kvs)) : TyOf K H (.ref a) (.type "dict")
  | dT {a : Addr} {kvs : List (List Key × V)} (e : H a = some (.dT kvs)) : TyOf K H (.ref a) (.type "dict")
  | ins {a C dx : Addr} {fs : List (Str × V)} (e : H a = some (.ins C dx fs)) (cl : Cls K C) (ha : PySem.W.findIn K (.ref C) "__class__" = some (some (.builtin "object.__class__")))
      (hn : PySem.W.specialIn K (.builtin "object.__class__") "__get__" = some (some (.builtin "getset_descriptor.__get__"))) (htk : PySem.W.takesIn K (.builtin "object.__class__") = some true)
      (hm : PySem.W.mroIn K C (.type "object") = some true) : TyOf K H (.ref a) (.ref C)
end
end L2
namespace L2
open PySem PySem.Spec PyProof.Rows
structure Room (k : Nat) (A : Around) : Prop where
  hd : A.handled = none
  dp : A.depth + 3 * k + 5 < recursionLimit
  un : A.units + 16 * k + 200 < cLine
theorem Room.mono {j k : Nat} {A : Around} (r : Room k A) (h : j ≤ k) : Room j A := ⟨r.hd, by have := r.dp; omega, by have := r.un; omega⟩
theorem Room.deeper {k : Nat} {A : Around} (r : Room (k + 1) A) (env : Env) : Room k (A.deeper env) :=
  ⟨r.hd, by have := r.dp; show A.depth + 1 + 3 * k + 5 < _; omega, by have := r.un; show A.units + 3 + 16 * k + 200 < _; omega⟩
theorem make_depth {A : Around} {C : Addr} {us : List Value} {kw : List (Str × Value)} : (A.under (.builtin "type.__call__" ⟨.ref C :: us, kw⟩)).depth = A.depth + 1 := by
  first | rfl | simp [Around.under, Code.weight, Code.isCreation, Code.isGuard, Code.isCaller, Code.frames, Code.isFrame, guardIds]
theorem make_units {A : Around} {C : Addr} {us : List Value} {kw : List (Str × Value)} : (A.under (.builtin "type.__call__" ⟨.ref C :: us, kw⟩)).units = A.units + 1 := by
  first | rfl | simp [Around.under, Code.cUnits, Code.frames, Code.isFrame]
theorem Room.make {k : Nat} {A : Around} (r : Room (k + 1) A) (C : Addr) (us : List Value) (kw : List (Str × Value)) : Room k (A.under (.builtin "type.__call__" ⟨.ref C :: us, kw⟩)) :=
  ⟨r.hd, by have := r.dp; rw [make_depth]; omega, by have := r.un; rw [make_units]; omega⟩
theorem Room.depth {k : Nat} {A : Around} (r : Room k A) : A.depth < recursionLimit := by have := r.dp; omega
theorem Room.units {k : Nat} {A : Around} (r : Room k A) : A.units + 64 < cLine := by have := r.un; omega
def tNil : TA := fun _ H Q => Q [] H
def tCons (ta : TE) (tr : TA) : TA := fun σ H Q => ta σ H fun x H1 => tr σ H1 fun xs H2 => Q (x :: xs) H2
section
variable {X : Cx} {e : Expr} {es : List Expr} {te : TE} {t : TA} {pos : Pos}
theorem pa_nil : PA X [] tNil := fun _ _ _ _ H Q I h => Calls.spliced_nil ⟨[], H, I, .nil, h⟩
theorem pa_cons (ha : PE X e te) (hr : PA X es t) (hs : starEach (e :: es) X.env = (false, eval e X.env) :: starEach es X.env := by rfl) : PA X (e :: es) (tCons te t) := by
  intro pos pins s σ H Q I h
  rw [hs]
  show wpAny _ _ (spliced ((false, eval e X.env) :: backTo pos (starEach es X.env))) _ _ s
  refine Calls.spliced_cons (thn (ha pins s σ H _ I h) fun u s1 zr46 => ?_)
  obtain ⟨x, H1, I1, r1, q1⟩ := zr46
  exact thn (hr pos pins s1 σ H1 _ I1 q1) fun us s2 ⟨xs, H2, I2, r2, q2⟩ => ⟨x :: xs, H2, I2, .cons r1 r2, q2⟩
/-- a tuple, a list of written items -/
def tTup (t : TA) : TE := fun σ H Q => t σ H fun xs H1 => xs.length ≤ sizeLine ∧ ∀ p, H1 p = none → Q (.ref p) (upd H1 p (.tup xs))
def tLst (t : TA) : TE := fun σ H Q => t σ H fun xs H1 => xs.length ≤ sizeLine ∧ ∀ p, H1 p = none → Q (.ref p) (upd H1 p (.lst xs))
theorem pe_tup {x1} (h : PA X es t) : PE X (.Tuple es x1 pos) (tTup t) := by
  intro pins s σ H Q I hq
  refine wpAny_Tuple_spliced (thn (h pos pins s σ H _ I hq) fun us s1 ⟨xs, H1, I1, r, z, q⟩ => ⟨by rw [← r.length]; exact z, ?_⟩)
  have hf : H1 s1.heap.objs.size = none := I1.hok.fresh (Nat.le_refl _)
  refine ⟨.ref s1.heap.objs.size, upd H1 s1.heap.objs.size (.tup xs), I1.laid (t' := s1.toks) (fun b u e => Heap.get?_push_of_some _ e) (Nat.le_refl _) ?_, rfl, q _ hf⟩
  exact ⟨z, us, r, ⟨_, Heap.get?_push_size _ rfl, rfl, _, rfl⟩⟩
theorem pe_lst (h : PA X es t) : PE X (.List es pos) (tLst t) := by
  intro pins s σ H Q I hq
  refine wpAny_List_spliced (thn (h pos pins s σ H _ I hq) fun us s1 ⟨xs, H1, I1, r, z, q⟩ => ⟨by rw [← r.length]; exact z, ?_⟩)
  have hf : H1 s1.heap.objs.size = none := I1.hok.fresh (Nat.le_refl _)
  refine ⟨.ref s1.heap.objs.size, upd H1 s1.heap.objs.size (.lst xs), I1.laid (t' := s1.toks) (fun b u e => Heap.get?_push_of_some _ e) (Nat.le_refl _) ?_, rfl, q _ hf⟩
  exact ⟨z, us, 0, r, Heap.get?_push_size _ rfl⟩
end
/-- a def's promise: the bound arguments in the parameters' order, the heap, the wanted end, the wanted exception -/
abbrev Sp := List V → Hp → VK → XK → Prop
/-- how an exception lies behind a call (file 08 gives it): the callers' frames, abstract heap and state ahead of the call, the wish, the exception, the state -/
abbrev CXT := List Env → Hp → Shared → XK → Value → Shared → Prop
/-- the state at a call -/
structure Env0 (P : Program) (w : World) (K : PySem.W.Frag) (mg : Str → Option Value) (base : Heap) (A : Around) (outer : List Env) (s : Shared) (H : Hp) : Prop where
  frames : A.frames = some outer
  mod : Mod K mg base
  bs : ∀ b o, base.get? b = some o → s.heap.get? b = some o ∧ H b = none
  bsz : base.objs.size ≤ s.heap.objs.size
  funs : s.heap.FunFrames base outer
  frf : ∀ b ∈ frs outer, H b = none
  hok : HOk P w H s.heap
  bare : AllBare s.gens
/-- a call's end -/
def CE (outer : List Env) (P : Program) (w : World) (H : Hp) (s : Shared) (Q : VK) (u : Value) (s' : Shared) : Prop :=
  ∃ v H', s'.os = s.os ∧ AllBare s'.gens ∧ Un (frs outer) [] H H' s.heap s'.heap ∧ HOk P w H' s'.heap ∧ RelV v u ∧ Q v H'
def CR (CX : CXT) (outer : List Env) (P : Program) (w : World) (H : Hp) (s : Shared) (Q : VK) (E : XK) (r : Result) (s' : Shared) : Prop :=
  match r with
  | .ok (.ret u) => CE outer P w H s Q u s'
  | .ok _ => False
  | .error e => CX outer H s E e s'
structure FnOk (P : Program) (w : World) (K : PySem.W.Frag) (mg : Str → Option Value) (base : Heap) (CX : CXT) (k : Nat) (f : Addr) (fd : FuncData) (ps : List Str) (sp : Sp) : Prop where
  len : ∀ vs H Q E, sp vs H Q E → vs.length = ps.length
  run : ∀ (A : Around) (outer : List Env) (s : Shared) (H : Hp) (args : Args) (us : List Value) (vs : List V) (Q : VK) (E : XK), Room k A → Env0 P w K mg base A outer s H → BindsTo s fd args (ps.zip us) → Vals vs us → sp vs H Q E →
    codeAny (model P w) A (.call (.ref f) args) (CR CX outer P w H s Q E) s
/-- a weaker promise -/
theorem FnOk.imp {P : Program} {w : World} {K : PySem.W.Frag} {mg : Str → Option Value} {base : Heap} {CX : CXT} {k : Nat} {f : Addr} {fd : FuncData} {ps : List Str} {sp sp' : Sp} (F : FnOk P w K mg base CX k f fd ps sp)
    (h : ∀ vs H Q E, sp' vs H Q E → sp vs H Q E) : FnOk P w K mg base CX k f fd ps sp' :=
  ⟨fun vs H Q E q => F.len vs H Q E (h _ _ _ _ q), fun A outer s H args us vs Q E hr he hb hv hs => F.run A outer s H args us vs Q E hr he hb hv (h _ _ _ _ hs)⟩
theorem Env0.make {P : Program} {w : World} {K : PySem.W.Frag} {mg : Str → Option Value} {base : Heap} {A : Around} {outer : List Env} {s : Shared} {H : Hp} (e : Env0 P w K mg base A outer s H) (C : Addr) (us : List Value) (kw : List (Str × Value)) :
    Env0 P w K mg base (A.under (.builtin "type.__call__" ⟨.ref C :: us, kw⟩)) outer s H := ⟨by first | exact e.frames | (simpa [Around.under, Code.envs, Code.isFrame, pushEnvs] using e.frames), e.mod, e.bs, e.bsz, e.funs, e.frf, e.hok, e.bare⟩
section
variable {X : Cx} {pins : List (Addr × Obj)} {σ : St} {H : Hp} {s s' : Shared}
/-- from a body: what a callee wants -/
theorem Inv.env0 (I : Inv X pins σ H s) : Env0 X.prog X.w X.K X.mg X.base X.A X.stack s H :=
  ⟨I.ok.frames, I.ok.mod, I.bs, Nat.le_trans I.ok.bsz I.sz, I.stack, I.stkFree, I.hok, I.bare⟩
/-- behind a call -/
theorem Inv.after {Q : VK} {u : Value} (I : Inv X pins σ H s) (h : CE X.stack X.prog X.w H s Q u s') : EP X pins σ Q u s' := by
  obtain ⟨v, H', os, bare, un, hok, r, q⟩ := h
  obtain ⟨hh, g, d, t, os'⟩ := s'
  obtain rfl : os' = s.os := os
  exact ⟨v, H', I.call (h' := hh) (g' := g) (d' := d) (t' := t) (ch := []) un hok bare (fun b z => absurd z (by simp)), r, q⟩
end
/-- f(..): the written arguments, then the defaults dvs; E: what is wanted of an exception -/
def tCall (sp : Sp) (dvs : List V) (E : XK) (t : TA) : TE := fun σ H Q => t σ H fun vs H1 => sp (vs ++ dvs) H1 Q E
/-- o.m(..) of an instance of the class at C -/
def tMeth (C : Addr) (m : Str) (sp : Sp) (dvs : List V) (E : XK) (ta : TE) (t : TA) : TE := fun σ H Q => ta σ H fun x H1 => ∃ a dx fs, x = .ref a ∧ H1 a = some (.ins C dx fs) ∧ fs.lookup m = none ∧
  t σ H1 fun vs H2 => sp (x :: (vs ++ dvs)) H2 Q E
/-- C(..): a new instance and its dict, then __init__ -/
def tMake (C : Addr) (sp : Sp) (dvs : List V) (E : XK) (t : TA) : TE := fun σ H Q => t σ H fun vs H1 => ∀ x dx, H1 x = none → H1 dx = none → dx ≠ x →
  sp (.ref x :: (vs ++ dvs)) (upd (upd H1 dx (.own x)) x (.ins C dx [])) (fun v H2 => v = .non ∧ Q (.ref x) H2) E
/-- how the parameters are bound: us the positional arguments, kw the keywords' values by name, ds the defaults that fill up -/
def Binds (K : PySem.W.Frag) (fd : FuncData) (ps : List Str) (ds : List Value) : Prop :=
  ∀ (s : Shared) (us : List Value), K.In s.heap → (us ++ ds).length = ps.length → BindsTo s fd ⟨us, []⟩ (ps.zip (us ++ ds))
/-- every parameter is given -/
theorem Binds.all {K : PySem.W.Frag} {fd : FuncData} {ps : List Str} (h : ∀ us : List Value, us.length = ps.length → bindArgs fd ⟨us, []⟩ = pure (ps.zip us)) : Binds K fd ps [] := fun s us _ hl => by
  rw [List.append_nil] at hl ⊢
  exact .of_eq (h us hl)
/-- an exception of a callee reaches what this body wants of exceptions -/
def Passes (CX : CXT) (X : Cx) (E : XK) : Prop := ∀ (pins : List (Addr × Obj)) (σ : St) (H : Hp) (s : Shared) (e : Value) (s' : Shared), Inv X pins σ H s → CX X.stack H s E e s' → X.xe e s'
section
variable {X : Cx} {CX : CXT} {k : Nat} {f C : Addr} {fd : FuncData} {ps : List Str} {sp : Sp} {dvs : List V} {ds : List Value} {E : XK} {x m : Str} {p pos apos : Pos} {e o : Expr} {es : List Expr} {ta : TE} {t : TA}
/-- the callee runs -/
theorem run_fn {pins : List (Addr × Obj)} {σ : St} {H : Hp} {s : Shared} {Q : VK} {us : List Value} {vs : List V} (F : FnOk X.prog X.w X.K X.mg X.base CX k f fd ps sp) (hr : Room k X.A) (hb : Binds X.K fd ps ds) (hd : Vals dvs ds) (hx : Passes CX X E)
    (I : Inv X pins σ H s) (r : Vals vs us) (h : sp (vs ++ dvs) H Q E) : wpAny (model X.prog X.w) X.A (call (.ref f) us) (EP X pins σ Q) X.xe s := by
  have r2 : Vals (vs ++ dvs) (us ++ ds) := r.append hd
  have hl : (us ++ ds).length = ps.length := by rw [← r2.length]; exact F.len _ _ _ _ h
  refine wpAny_call (codeAny_mono (F.run X.A X.stack s H ⟨us, []⟩ (us ++ ds) (vs ++ dvs) Q E hr I.env0 (hb s us I.kIn hl) r2 h) fun r s' hq => ?_)
  cases r with
  | error e => exact hx pins σ H s e s' I hq
  | ok fl =>
    cases fl with
    | ret u => exact I.after hq
    | next => exact False.elim hq
    | brk => exact False.elim hq
    | cont => exact False.elim hq
theorem pe_call (F : FnOk X.prog X.w X.K X.mg X.base CX k f fd ps sp) (hr : Room k X.A) (hg : Gl X x) (hm : X.mg x = some (.ref f)) (hk : PySem.W.keepIn X.K (.ref f) = true) (hb : Binds X.K fd ps ds) (hd : Vals dvs ds) (hx : Passes CX X E)
    (ha : PA X (e :: es) t) (hdb : (x == ("__debug__" : Str)) = false := by decide) (he : starEach (e :: es) X.env = (false, eval e X.env) :: starEach es X.env := by rfl) (hpl : (backTo pos (starEach es X.env)).any (·.1) = false := by rfl) :
    PE X (.Call (.Name x p) (e :: es) [] pos) (tCall sp dvs E t) := by
  intro pins s σ H Q I h
  refine wpAny_Call_Name_kw (ld_glob I hg hm ?_ hdb)
  refine PySem.W.callWith_K (h₀ := X.base) I.ok.mod.kin hk (thn (ha pos pins s σ H _ I h) fun us s1 ⟨vs, H1, I1, r, q⟩ => ⟨I1.kIn, ?_⟩) he hpl
  exact run_fn F hr hb hd hx I1 r q
/-- o.m() -/
theorem pe_meth0 {pl : Sem Bool} (he : PE X o ta) (c : Cls X.K C) (hm : Meth X.K C m f) (F : FnOk X.prog X.w X.K X.mg X.base CX k f fd ps sp) (hr : Room k X.A) (hb : Binds X.K fd ps ds) (hd : Vals dvs ds) (hx : Passes CX X E)
    (ht : eval (.Call (.Attribute o m apos) [] [] pos) X.env = (do
      let ov ← eval o X.env
      standAt apos.atName
      let (f, first) ← holding [ov] (getMethod ov m pl)
      callWith pos f first (backTo pos (starEach [] X.env)) (backToKw pos (keywordEach [] X.env))) := by rfl) :
    PE X (.Call (.Attribute o m apos) [] [] pos) (tMeth C m sp dvs E ta tNil) := by
  intro pins s σ H Q I h
  refine PySem.W.methodCall_KW (pl := pl) (thn (he pins s σ H _ I h) fun u s1 zr48 => ?_) ht
  obtain ⟨x, H1, I1, rx, a, dx, fs, ex, ea, l, q⟩ := zr48
  subst ex
  obtain rfl : u = Value.ref a := rx
  refine getmeth_ok I1 ea c hm l ?_
  exact PySem.W.callWith_K0 (first := [.ref a]) I1.kIn hm.kp (run_fn (us := [.ref a]) (vs := [.ref a]) F hr hb hd hx I1 (.cons rfl .nil) q)
/-- what a class must have to be made -/
structure Mk (K : PySem.W.Frag) (C f : Addr) : Prop where
  makes : PySem.W.makesIn K C = true
  init : PySem.W.findIn K (.ref C) "__init__" = some (some (.ref f))
  fn : PySem.W.isFn K (.ref f) = true
  kp : PySem.W.keepIn K (.ref C) = true
theorem run_make {pins : List (Addr × Obj)} {σ : St} {H : Hp} {s : Shared} {Q : VK} {us : List Value} {vs : List V} (M : Mk X.K C f) (F : FnOk X.prog X.w X.K X.mg X.base CX k f fd ps sp) (hr : Room (k + 1) X.A) (hb : Binds X.K fd ps ds) (hd : Vals dvs ds)
    (hx : Passes CX X E) (I : Inv X pins σ H s) (r : Vals vs us)
    (h : ∀ x dx, H x = none → H dx = none → dx ≠ x → sp (.ref x :: (vs ++ dvs)) (upd (upd H dx (.own x)) x (.ins C dx [])) (fun v H2 => v = .non ∧ Q (.ref x) H2) E) :
    wpAny (model X.prog X.w) X.A (call (.ref C) us) (EP X pins σ Q) X.xe s := by
  have hq := h (s.heap.objs.size + 1) s.heap.objs.size (I.hok.fresh (Nat.le_succ _)) (I.hok.fresh (Nat.le_refl _)) (Nat.ne_of_lt (Nat.lt_succ_self _))
  have I2 := Inv.made (C := C) I
  have r2 : Vals (V.ref (s.heap.objs.size + 1) :: (vs ++ dvs)) (Value.ref (s.heap.objs.size + 1) :: (us ++ ds)) := .cons rfl (r.append hd)
  have hl : (Value.ref (s.heap.objs.size + 1) :: us ++ ds).length = ps.length := by
    have e := r2.length
    rw [F.len _ _ _ _ hq] at e
    exact e.symm
  refine wpAny_call (make_map (f := f) I.kIn M.makes M.init (beq_iff_eq.mp M.fn) (codeAny_mono (F.run _ X.stack _ _ ⟨Value.ref (s.heap.objs.size + 1) :: us, []⟩ (Value.ref (s.heap.objs.size + 1) :: (us ++ ds)) _ _ E (hr.make C us [])
    (I2.env0.make C us []) (hb _ (Value.ref (s.heap.objs.size + 1) :: us) I2.kIn hl) r2 hq) fun r s' hq' => ?_))
  cases r with
  | error e => exact hx pins σ _ _ e s' I2 hq'
  | ok fl =>
    cases fl with
    | ret u =>
      obtain ⟨v, H', I3, rv, ev, q3⟩ := I2.after hq'
      subst ev
      exact ⟨rv, ⟨V.ref (s.heap.objs.size + 1), H', I3, rfl, q3⟩⟩
    | next => exact False.elim hq'
    | brk => exact False.elim hq'
    | cont => exact False.elim hq'
theorem pe_make (M : Mk X.K C f) (F : FnOk X.prog X.w X.K X.mg X.base CX k f fd ps sp) (hr : Room (k + 1) X.A) (hg : Gl X x) (hm : X.mg x = some (.ref C)) (hb : Binds X.K fd ps ds) (hd : Vals dvs ds) (hx : Passes CX X E)
    (ha : PA X (e :: es) t) (hdb : (x == ("__debug__" : Str)) = false := by decide) (he : starEach (e :: es) X.env = (false, eval e X.env) :: starEach es X.env := by rfl) (hpl : (backTo pos (starEach es X.env)).any (·.1) = false := by rfl) :
    PE X (.Call (.Name x p) (e :: es) [] pos) (tMake C sp dvs E t) := by
  intro pins s σ H Q I h
  refine wpAny_Call_Name_kw (ld_glob I hg hm ?_ hdb)
  refine PySem.W.callWith_K (h₀ := X.base) I.ok.mod.kin M.kp (thn (ha pos pins s σ H _ I h) fun us s1 ⟨vs, H1, I1, r, q⟩ => ⟨I1.kIn, ?_⟩) he hpl
  exact run_make M F hr hb hd hx I1 r q
end
section
variable {X : Cx} {CX : CXT} {k : Nat} {f C : Addr} {fd : FuncData} {ps ks : List Str} {sp : Sp} {E : XK} {x m : Str} {p pos apos kpos : Pos} {e o : Expr} {es : List Expr} {kws : List Keyword} {te ta : TE} {t tk : TA} {nm : Option Str}
/-- how a call with keywords binds: g puts the positional values us and the keywords' values ws (names ks) in the parameters' order, defaults among them -/
structure KBinds (K : PySem.W.Frag) (fd : FuncData) (ps ks : List Str) (g : List Value → List Value → List Value) (gV : List V → List V → List V) : Prop where
  to : ∀ (s : Shared) (us ws : List Value), K.In s.heap → (g us ws).length = ps.length → BindsTo s fd ⟨us, ks.zip ws⟩ (ps.zip (g us ws))
  rel : ∀ {vs : List V} {us : List Value} {zs : List V} {ws : List Value}, Vals vs us → Vals zs ws → Vals (gV vs zs) (g us ws)
variable {g : List Value → List Value → List Value} {gV : List V → List V → List V}
end
/-- names: the parameters first -/
structure FnScope (N P : List Str) (sc : Scope) : Prop where
  kind : sc.kind = .function
  co : sc.isCoroutine = false
  gen : sc.isGenerator = false
  nd : N.Nodup
  pre : N.take P.length = P
  par : ∀ x ∈ P, sc.names.lookup x = some .local ∨ sc.names.lookup x = some .cell
  nofree : ∀ y ∈ sc.names, y.2 ≠ .free
theorem bindL_out {kindOf : Str → Option NameKind} {x : Str} : ∀ {binds : List (Str × Value)} {m : Str → Option Value}, (∀ v, (x, v) ∉ binds) → bindL kindOf binds m x = m x
  | [], _, _ => rfl
  | (n, v) :: r, m, h => by
    unfold bindL
    rw [bindL_out fun w hw => h w (List.mem_cons_of_mem _ hw)]
    split
    · have : x ≠ n := by rintro rfl; exact h v List.mem_cons_self
      simp [this]
    · rfl
theorem bindC_out {kindOf : Str → Option NameKind} {x : Str} : ∀ {binds : List (Str × Value)} {m : Str → Option Value}, (∀ v, (x, v) ∉ binds) → bindC kindOf binds m x = m x
  | [], _, _ => rfl
  | (n, v) :: r, m, h => by
    unfold bindC
    rw [bindC_out fun w hw => h w (List.mem_cons_of_mem _ hw)]
    split
    · rfl
    · have : x ≠ n := by rintro rfl; exact h v List.mem_cons_self
      simp [this]
theorem bindL_get {kindOf : Str → Option NameKind} {x : Str} {v : Value} : ∀ {P : List Str} {vs : List Value} {i : Nat} {m : Str → Option Value}, P.Nodup → P[i]? = some x → vs[i]? = some v → kindOf x = some .local →
    bindL kindOf (P.zip vs) m x = some v
  | [], _, _, _, _, h, _, _ => by simp at h
  | _ :: _, [], _, _, _, _, h, _ => by simp at h
  | p :: P, w :: vs, 0, m, nd, h1, h2, hk => by
    simp at h1 h2; subst h1; subst h2
    show bindL kindOf ((p, w) :: P.zip vs) m p = _
    unfold bindL
    rw [bindL_out fun v hv => (List.nodup_cons.mp nd).1 (List.of_mem_zip hv).1, if_pos hk]
    simp
  | p :: P, w :: vs, i + 1, m, nd, h1, h2, hk => by
    show bindL kindOf ((p, w) :: P.zip vs) m x = _
    unfold bindL
    exact bindL_get (i := i) (List.nodup_cons.mp nd).2 (by simpa using h1) (by simpa using h2) hk
theorem bindC_get {kindOf : Str → Option NameKind} {x : Str} {v : Value} : ∀ {P : List Str} {vs : List Value} {i : Nat} {m : Str → Option Value}, P.Nodup → P[i]? = some x → vs[i]? = some v → kindOf x ≠ some .local →
    bindC kindOf (P.zip vs) m x = some v
  | [], _, _, _, _, h, _, _ => by simp at h
  | _ :: _, [], _, _, _, _, h, _ => by simp at h
  | p :: P, w :: vs, 0, m, nd, h1, h2, hk => by
    simp at h1 h2; subst h1; subst h2
    show bindC kindOf ((p, w) :: P.zip vs) m p = _
    unfold bindC
    rw [bindC_out fun v hv => (List.nodup_cons.mp nd).1 (List.of_mem_zip hv).1, if_neg hk]
    simp
  | p :: P, w :: vs, i + 1, m, nd, h1, h2, hk => by
    show bindC kindOf ((p, w) :: P.zip vs) m x = _
    unfold bindC
    exact bindC_get (i := i) (List.nodup_cons.mp nd).2 (by simpa using h1) (by simpa using h2) hk
/-- the names' values at the entry -/
def start (N : List Str) (vs : List V) : St := vs.map some ++ List.replicate (N.length - vs.length) none
/-- the context of a def's body, at its entry; an exception leaves the frame, then lies as CX says -/
def cxOf (CX : CXT) (P : Program) (w : World) (K : PySem.W.Frag) (mg : Str → Option Value) (base : Heap) (N : List Str) (qual : Str) (scope : Scope) (f : Addr) (cd : Value) (A : Around) (outer : List Env) (s : Shared) (H : Hp) (E : XK) : Cx where
  prog := P
  w := w
  K := K
  mg := mg
  base := base
  A := A.deeper (envOfC qual scope s.heap.objs.size f cd)
  N := N
  s₀ := s
  H₀ := H
  env := envOfC qual scope s.heap.objs.size f cd
  outer := outer
  stack := envOfC qual scope s.heap.objs.size f cd :: outer
  ex := []
  calm := true
  fn := fun _ => true
  pn := []
  xe := fun e s' => wpAny (model P w) (A.deeper (envOfC qual scope s.heap.objs.size f cd)) (leaving (envOfC qual scope s.heap.objs.size f cd) e) (fun _ s'' => CX outer H s E e s'') (fun e' s'' => CX outer H s E e' s'') s'
theorem cell_has {sc : Scope} {n : Nat} {x : Str} (h : sc.names.lookup x = some .cell) : ∃ c, (cellsFrom n sc.names []).lookup x = some c := by
  have q := PySem.W.cellsFrom_some sc.names n [] (.inl h)
  exact Option.isSome_iff_exists.mp q
theorem inv_start {CX : CXT} {P : Program} {w : World} {K : PySem.W.Frag} {mg : Str → Option Value} {base : Heap} {N ps : List Str} {qual : Str} {scope : Scope} {f : Addr} {cd : Value} {A : Around} {outer : List Env} {s s1 : Shared} {H : Hp} {E : XK} {us : List Value} {vs : List V}
    (S : FnScope N ps scope) (hd : A.handled = none) (e0 : Env0 P w K mg base A outer s H) (hl : vs.length = ps.length) (r : Vals vs us)
    (x : InCallC s s.heap.objs.size (bindL (envOfC qual scope s.heap.objs.size f cd).kindOf (ps.zip us) fun _ => none) (cellsFrom (s.heap.objs.size + 1) scope.names []) (bindC (envOfC qual scope s.heap.objs.size f cd).kindOf (ps.zip us) fun _ => none) s1) :
    Inv (cxOf CX P w K mg base N qual scope f cd A outer s H E) [] (start N vs) H s1 := by
  have hpl : ps.length ≤ N.length := by have := congrArg List.length S.pre; rw [List.length_take] at this; omega
  obtain ⟨h1, tk, rfl, hk⟩ := x.done
  have noA : ∀ b : Addr, b ∉ (cxOf CX P w K mg base N qual scope f cd A outer s H E).ex := fun b z => absurd (show b ∈ ([] : List Addr) from z) (by simp)
  refine ⟨⟨e0.mod, S.kind, rfl, rfl, Nat.le_refl _, fun y z c h1 h2 => ?_, fun y hy => ?_, fun y c _ h => ?_, fun _ => hd, Around.frames_deeper e0.frames, .inr ⟨rfl, rfl⟩, fun b z => absurd z (noA b), e0.bs, e0.bsz, fun b _ _ => noA b, fun b z => absurd z (noA b), e0.funs, e0.frf⟩,
    rfl, e0.bare, Un.kept hk, ⟨_, x.toInCall.ns, fun i y v h1 h2 h3 => ?_⟩, fun y c h => ⟨_, x.cell y c h⟩, e0.hok.fresh (Nat.le_refl _), fun y c h => ?_, fun p hp => absurd (show p ∈ ([] : List (Addr × Obj)) from hp) (by simp), e0.hok.kept hk, ?_⟩
  · exact name_of_addr x.apart (PySem.mem_of_lookup h1) (PySem.mem_of_lookup h2)
  · have hy : scope.names.lookup y = some .cell ∨ scope.names.lookup y = some .free := hy
    rcases hy with hy | hy
    · exact cell_has hy
    · exact absurd rfl (S.nofree _ (PySem.mem_of_lookup hy))
  · exact Nat.le_of_lt (x.above y c (PySem.mem_of_lookup h))
  · have hi : i < vs.length := by
      unfold start at h2
      by_cases hi : i < vs.length
      · exact hi
      · rw [List.getElem?_append_right (by simpa using hi)] at h2
        rw [List.getElem?_replicate] at h2
        split at h2 <;> cases h2
    have ha : vs[i]? = some v := by
      unfold start at h2
      rw [List.getElem?_append_left (by simpa using hi), List.getElem?_map] at h2
      cases e : vs[i]? with
      | none => rw [e] at h2; cases h2
      | some a => rw [e] at h2; cases h2; rfl
    obtain ⟨u, hu, rv⟩ := r.get ha
    have hp : ps[i]? = some y := by
      rw [← S.pre, List.getElem?_take_of_lt (by omega)]; exact h1
    have ndP : ps.Nodup := by rw [← S.pre]; exact S.nd.sublist (List.take_sublist _ _)
    refine ⟨u, rv, ?_⟩
    rcases S.par y (List.mem_of_getElem? hp) with k | k
    · exact .inl ⟨k, bindL_get ndP hp hu k⟩
    · obtain ⟨c, e⟩ := cell_has (n := s.heap.objs.size + 1) k
      refine .inr ⟨.inl k, c, e, ?_⟩
      have q := x.cell y c e
      rw [bindC_get ndP hp hu (by show scope.names.lookup y ≠ _; rw [k]; decide)] at q
      exact q
  · exact e0.hok.fresh (Nat.le_of_lt (x.above y c (PySem.mem_of_lookup h)))
  · unfold start
    show _ = N.length
    rw [List.length_append, List.length_map, List.length_replicate]
    omega
/-- THE RULE: a def (or a method) of the text, by its body. The body's reading t is chosen for each entry; it is run at the parameters' values -/
theorem fn_of {CX : CXT} {P : Program} {w : World} {K : PySem.W.Frag} {mg : Str → Option Value} {base : Heap} {k : Nat} {f : Addr} {name qual : Str} {params : Arguments} {body : List Stmt} {scope : Scope} {dV kV doc pm cdv ct oc : Value} {an od : Option Addr}
    {osl : Array (Option Value)} {N ps : List Str} {sp : Sp} (lk : K.lookup f = some ⟨oc, od, .func (PySem.W.fnOf name qual params body scope dV kV doc pm an cdv ct), osl⟩) (hcd : PySem.W.codeIn K cdv qual = true) (S : FnScope N ps scope)
    (len : ∀ vs H Q E, sp vs H Q E → vs.length = ps.length)
    (hbody : ∀ (A : Around) (outer : List Env) (s : Shared) (H : Hp) (vs : List V) (Q : VK) (E : XK), Room k (A.deeper (envOfC qual scope s.heap.objs.size f cdv)) → sp vs H Q E →
      ∃ t, PSs (cxOf CX P w K mg base N qual scope f cdv A outer s H E) body t ∧ t { nx := fun _ H' => Q .non H', rt := Q } (start N vs) H) :
    FnOk P w K mg base CX (k + 1) f (PySem.W.fnOf name qual params body scope dV kV doc pm an cdv ct) ps sp := by
  refine ⟨len, fun A outer s H args us vs Q E hr e0 hb r hsp => ?_⟩
  have hl := len _ _ _ _ hsp
  have KX : K.In s.heap := e0.mod.kin.keeps fun b o e => (e0.bs b o e).1
  have lim : s.heap.NoLimit := e0.mod.nolimit.keeps fun b o e => (e0.bs b o e).1
  have hkind : ∀ y ∈ ps.zip us, scope.names.lookup y.1 = some .local ∨ (scope.names.lookup y.1 = some .cell ∧ ((cellsFrom (s.heap.objs.size + 1) scope.names []).lookup y.1).isSome = true) := fun ⟨n, v⟩ hy => by
    rcases S.par n (List.of_mem_zip hy).1 with q | q
    · exact .inl q
    · exact .inr ⟨q, PySem.W.cellsFrom_some _ _ _ (.inl q)⟩
  refine codeAny_call_function hr.depth (KX _ _ lk) rfl S.co S.gen rfl (PySem.W.codeRec_of KX hcd) (hb _ _ _ _ ?_)
  refine wpAny_newFunctionEnv_cells S.kind hkind fun env he s1 x => ?_
  subst he
  refine ⟨lim.keeps x.toInCall.keep, codeAny_func ?_⟩
  obtain ⟨t, ht, hq⟩ := hbody A outer s H vs Q E (hr.deeper _) hsp
  have I : Inv (cxOf CX P w K mg base N qual scope f cdv A outer s H E) [] (start N vs) H s1 := inv_start S hr.hd e0 hl r x
  refine wpAny_mono (ht [] s1 (start N vs) H _ I hq) (fun fl s' hs => ?_) fun e s' hs => hs
  have fin : ∀ {σ' : St} {H' : Hp} {v : V} {u : Value}, Inv (cxOf CX P w K mg base N qual scope f cdv A outer s H E) [] σ' H' s' → RelV v u → Q v H' → CE outer P w H s Q u s' :=
    fun {σ' H' v u} J rv q => ⟨v, H', J.os, J.bare, J.base, J.hok, rv, q⟩
  cases fl with
  | ret u =>
    obtain ⟨v, σ', H', J, rv, q⟩ := hs
    exact fin J rv q
  | next =>
    obtain ⟨σ', H', J, q⟩ := hs
    exact fin (v := V.non) (u := Value.none) J rfl q
  | brk =>
    obtain ⟨_, _, _, q⟩ := hs
    exact False.elim q
  | cont =>
    obtain ⟨_, _, _, q⟩ := hs
    exact False.elim q
end L2
namespace L2
open PySem PySem.Spec PyProof.Rows
section
variable {X : Cx} {x : Str} {p pos : Pos} {e : Expr} {es : List Expr} {t : TA} {id T : String} {r : List V → Hp → VK → Prop}
def tCB (r : List V → Hp → VK → Prop) (t : TA) : TE := fun σ H Q => t σ H fun vs H1 => r vs H1 Q
/-- f(e, ..), f a built-in function -/
theorem pe_callB (hc : CallR X (.builtin id) r) (hg : Gl X x) (hm : X.mg x = none) (hv : bootBuiltins x = some (.builtin id)) (ha : PA X (e :: es) t) (hn : x ≠ "__name__" := by decide) (hdb : (x == ("__debug__" : Str)) = false := by decide)
    (he : starEach (e :: es) X.env = (false, eval e X.env) :: starEach es X.env := by rfl) (hpl : (backTo pos (starEach es X.env)).any (·.1) = false := by rfl) : PE X (.Call (.Name x p) (e :: es) [] pos) (tCB r t) := by
  intro pins s σ H Q I h
  refine wpAny_Call_Name_kw (ld_blt I hg hm hv ?_ hn hdb)
  exact PyProof.Rows.callWith_builtin1 (thn (ha pos pins s σ H _ I h) fun us s1 ⟨vs, H1, I1, r1, q1⟩ => hc pins s1 σ H1 vs us Q I1 r1 q1) he hpl
/-- T(e, ..), T a built-in type -/
theorem pe_callTy (hc : CallR X (.type T) r) (hg : Gl X x) (hm : X.mg x = none) (hv : bootBuiltins x = some (.type T)) (ha : PA X (e :: es) t) (hn : x ≠ "__name__" := by decide) (hdb : (x == ("__debug__" : Str)) = false := by decide)
    (he : starEach (e :: es) X.env = (false, eval e X.env) :: starEach es X.env := by rfl) (hpl : (backTo pos (starEach es X.env)).any (·.1) = false := by rfl) : PE X (.Call (.Name x p) (e :: es) [] pos) (tCB r t) := by
  intro pins s σ H Q I h
  refine wpAny_Call_Name_kw (ld_blt I hg hm hv ?_ hn hdb)
  exact PyProof.Rows.callWith_type1 (thn (ha pos pins s σ H _ I h) fun us s1 ⟨vs, H1, I1, r1, q1⟩ => hc pins s1 σ H1 vs us Q I1 r1 q1) he hpl
end
end L2
namespace HT
open PySem PyProof.Rows
section
open PySem.SeqAt
open PySem.AutoSeq1 (wpAny_loadPart')
open PySem.MeetsSeq PySem.MeetsSeq2 PySem.MeetsSeq3
end
section
variable {prog : Program} {w : World} {A : Around} {E : Value → Shared → Prop} {s : Shared}
/-- a slice's bound as a place among n (d where it is left out) -/
def sIx (n d : Nat) : Option Int → Nat
  | none => d
  | some v => if v < 0 then (v + (n : Int)).toNat else min v.toNat n
theorem sIx_nat (n d k : Nat) : sIx n d (some (k : Int)) = min k n := by
  show (if (k : Int) < 0 then ((k : Int) + (n : Int)).toNat else min (k : Int).toNat n) = min k n
  rw [if_neg (by omega), Int.toNat_natCast]
end
end HT
namespace L2
open PySem PySem.Spec PyProof.Rows
abbrev TO := St → Hp → (Option Int → Hp → Prop) → Prop
/-- a slice's part (left out, or an int) -/
def PO (X : Cx) (e : Option Expr) (t : TO) : Prop :=
  ∀ (pins : List (Addr × Obj)) (s : Shared) (σ : St) (H : Hp) (Q : Option Int → Hp → Prop), Inv X pins σ H s → t σ H Q →
    wpAny (model X.prog X.w) X.A (evalPart e X.env) (fun u s' => ∃ o H', Inv X pins σ H' s' ∧ IsPart u o ∧ Q o H') X.xe s
def tNoPart : TO := fun _ H Q => Q none H
def tPart (t : TE) : TO := fun σ H Q => t σ H fun x H1 => ∃ i, x = .int i ∧ Q (some i) H1
section
variable {X : Cx} {e : Expr} {te : TE} {lo hi : Option Expr} {tl th : TO} {pos p2 : Pos}
theorem po_none : PO X none tNoPart := by
  intro pins s σ H Q I h
  rw [evalPart_none]
  exact wpAny_pure ⟨none, H, I, .none, h⟩
theorem po_some (h : PE X e te) : PO X (some e) (tPart te) := by
  intro pins s σ H Q I hw
  rw [evalPart_some]
  refine thn (h pins s σ H _ I hw) fun u s1 zr50 => ?_
  obtain ⟨x, H1, I1, r1, q1⟩ := zr50
  obtain ⟨i, rfl, q⟩ := q1
  obtain ⟨t, rfl⟩ := r1
  exact ⟨some i, H1, I1, .int i t, q⟩
/-- what a slice of a value is, by values: the slice object stands at sl -/
def SlR (X : Cx) (r : V → Option Int → Option Int → Hp → VK → Prop) : Prop :=
  ∀ (pins : List (Addr × Obj)) (s : Shared) (σ : St) (H : Hp) (x : V) (v vl vu : Value) (lo hi : Option Int) (sl : Addr) (Q : VK), Inv X pins σ H s → RelV x v → s.heap.IsSliceOf sl vl vu .none → IsPart vl lo → IsPart vu hi → r x lo hi H Q →
    ∃ T id, typeLookup (.type T) "__getitem__" = pure (some (.builtin id)) ∧ s.TypeIs v T ∧ wpAny (model X.prog X.w) X.A (getItem v (.ref sl)) (EP X pins σ Q) X.xe s
def tSl (r : V → Option Int → Option Int → Hp → VK → Prop) (te : TE) (tl th : TO) : TE := fun σ H Q => te σ H fun x H1 => tl σ H1 fun l H2 => th σ H2 fun u H3 => r x l u H3 Q
/-- a[lo:hi], any a -/
theorem pe_slice {r : V → Option Int → Option Int → Hp → VK → Prop} (hr : SlR X r) (he : PE X e te) (hl : PO X lo tl) (hu : PO X hi th) : PE X (.Subscript e (.Slice lo hi none p2) pos) (tSl r te tl th) := by
  intro pins s σ H Q I h
  refine Subscript_ (thn (he pins s σ H _ I h) fun v s1 zr51 => ?_)
  obtain ⟨x, H1, I1, r1, q1⟩ := zr51
  refine wpAny_Slice (thn (hl pins s1 σ H1 _ I1 q1) fun vl s2 ⟨l, H2, I2, pl, q2⟩ => thn (hu pins s2 σ H2 _ I2 q2) fun vu s3 zr52 => ?_)
  obtain ⟨u, H3, I3, pu, q3⟩ := zr52
  rw [evalPart_none]
  refine wpAny_pure ?_
  have I4 : Inv X pins σ H3 { s3 with heap := s3.heap.push { cls := .type "slice", data := .fields #[vl, vu, .none] } } := I3.kept (t' := s3.toks) fun b ob q => Heap.get?_push_of_some _ q
  obtain ⟨T, id, hT, ht, hg⟩ := hr pins { s3 with heap := s3.heap.push { cls := .type "slice", data := .fields #[vl, vu, .none] } } σ H3 x v vl vu l u s3.heap.objs.size Q I4 r1 (Heap.IsSliceOf.new ..) pl pu q3
  show wpAny (model X.prog X.w) X.A (subscriptTail e (.Slice lo hi none p2) v (.ref s3.heap.objs.size)) (EP X pins σ Q) X.xe { s3 with heap := s3.heap.push { cls := .type "slice", data := .fields #[vl, vu, .none] } }
  exact tail_any (ops := [.ref s3.heap.objs.size, v]) ht hT hg (by with_unfolding_all rfl)
/-- the items of xs[lo:hi] -/
def cutV (xs : List V) (lo hi : Option Int) : List V := (xs.drop (HT.sIx xs.length 0 lo)).take (HT.sIx xs.length xs.length hi - HT.sIx xs.length 0 lo)
theorem cutV_length (xs : List V) (lo hi : Option Int) : (cutV xs lo hi).length ≤ xs.length := by
  unfold cutV
  rw [List.length_take, List.length_drop]
  omega
end
end L2
namespace L2
open PySem PySem.Spec PyProof.Rows
/-- the place that an index of any sign means -/
def ixN (n : Nat) (i : Int) : Option Nat := if 0 ≤ i then (if i < n then some i.toNat else none) else if -(n : Int) ≤ i then some (i + n).toNat else none
def atI {α : Type} (xs : List α) (i : Int) : Option α := (ixN xs.length i).bind fun j => xs[j]?
theorem ixN_seq {n : Nat} {i : Int} {j : Nat} (h : ixN n i = some j) : seqIndex? i n = some j ∧ j < n ∧ -(n : Int) ≤ i ∧ i < n := by
  unfold ixN at h
  by_cases h0 : 0 ≤ i
  · rw [if_pos h0] at h
    by_cases h1 : i < n
    · rw [if_pos h1] at h
      have e : i.toNat = j := Option.some.inj h
      exact ⟨by rw [seqIndex_of h0 h1, e], by omega, by omega, h1⟩
    · rw [if_neg h1] at h; cases h
  · rw [if_neg h0] at h
    by_cases h1 : -(n : Int) ≤ i
    · rw [if_pos h1] at h
      have e : (i + n).toNat = j := Option.some.inj h
      exact ⟨by rw [seqIndex_neg (by omega) h1, e], by omega, h1, by omega⟩
    · rw [if_neg h1] at h; cases h
theorem atI_get {α : Type} {xs : List α} {i : Int} {v : α} (h : atI xs i = some v) : ∃ j, seqIndex? i xs.length = some j ∧ xs[j]? = some v ∧ j < xs.length ∧ -(xs.length : Int) ≤ i ∧ i < xs.length := by
  unfold atI at h
  cases e : ixN xs.length i with
  | none => rw [e] at h; cases h
  | some j =>
    rw [e] at h
    obtain ⟨h1, h2, h3, h4⟩ := ixN_seq e
    exact ⟨j, h1, h, h2, h3, h4⟩
theorem atI_nat {α : Type} {xs : List α} {j : Nat} {v : α} (h : xs[j]? = some v) : atI xs (j : Int) = some v := by
  have hj : j < xs.length := (List.getElem?_eq_some_iff.mp h).1
  have e : ixN xs.length (j : Int) = some j := by
    unfold ixN
    rw [if_pos (by omega), if_pos (by omega)]; simp
  unfold atI; rw [e]; exact h
theorem atI_last {α : Type} (xs : List α) (v : α) : atI (xs ++ [v]) (-1) = some v := by
  have hl : (xs ++ [v]).length = xs.length + 1 := by simp
  have e : ixN (xs ++ [v]).length (-1) = some xs.length := by
    unfold ixN
    rw [hl, if_neg (by decide), if_pos (by omega)]
    congr 1
    omega
  unfold atI
  rw [e]
  show (xs ++ [v])[xs.length]? = some v
  simp
/-- what stands as an index of a plain subscript -/
def PlainIx (b : Expr) : Prop := ∀ o i, subscripted b false o i = operate [o, i] (getItem o i)
/-- a subscript by values -/
def IxR (X : Cx) (r : R2) : Prop :=
  ∀ (value slice : Expr) (pins : List (Addr × Obj)) (s : Shared) (σ : St) (H : Hp) (x y : V) (v u : Value) (Q : VK), Inv X pins σ H s → RelV x v → RelV y u → r x y H Q →
    subscripted slice false v u = operate [v, u] (getItem v u) → wpAny (model X.prog X.w) X.A (subscriptTail value slice v u) (EP X pins σ Q) X.xe s
/-- a call of a builtin's method by values: the receiver, the arguments -/
def MtR (X : Cx) (id : String) (r : V → List V → Hp → VK → Prop) : Prop :=
  ∀ (pins : List (Addr × Obj)) (s : Shared) (σ : St) (H : Hp) (x : V) (xs : List V) (v : Value) (us : List Value) (Q : VK), Inv X pins σ H s → RelV x v → Vals xs us → r x xs H Q →
    wpAny (model X.prog X.w) X.A (call (.builtin id) (v :: us)) (EP X pins σ Q) X.xe s
section
variable {X : Cx} {a b : Expr} {ta tb : TE} {pos : Pos}
theorem IxR.or {r r' : R2} (h : IxR X r) (h' : IxR X r') : IxR X (fun x y H Q => r x y H Q ∨ r' x y H Q) := by
  intro value slice pins s σ H x y v u Q I rx ry q hs
  rcases q with q | q
  · exact h value slice pins s σ H x y v u Q I rx ry q hs
  · exact h' value slice pins s σ H x y v u Q I rx ry q hs
/-- a[b] -/
theorem pe_ix {r : R2} (hr : IxR X r) (ha : PE X a ta) (hb : PE X b tb) (hs : PlainIx b) : PE X (.Subscript a b pos) (tOp r ta tb) := by
  intro pins s σ H Q I h
  exact Subscript_ (binT ha hb I h fun v u s2 x y H2 I2 rx ry q => hr a b pins s2 σ H2 x y v u Q I2 rx ry q (hs _ _))
def rIxL (K : PySem.W.Frag) : R2 := fun x y H Q => ∃ p xs i v, x = .ref p ∧ y = .int i ∧ SqL K H p xs ∧ atI xs i = some v ∧ Q v H
def rIxT (K : PySem.W.Frag) : R2 := fun x y H Q => ∃ p xs i v, x = .ref p ∧ y = .int i ∧ SqT K H p xs ∧ atI xs i = some v ∧ Q v H
theorem ix_list : IxR X (rIxL X.K) := by
  intro value slice pins s σ H x y v u Q I rx ry h hs
  obtain ⟨p, xs, i, z, rfl, rfl, hq, he, q⟩ := h
  cases rx
  obtain ⟨t, rfl⟩ := ry
  obtain ⟨its, r, pl, hz⟩ := I.list hq
  obtain ⟨j, h1, h2, h3, h4, h5⟩ := atI_get he
  obtain ⟨w, ew, rw'⟩ := r.get h2
  have hl := r.length
  have hn := line63
  have fin : EP X pins σ Q w s := ⟨z, H, I, rw', q⟩
  by_cases h0 : 0 ≤ i
  · have hj : i.toNat = j := by
      rw [seqIndex_of h0 h5] at h1
      exact Option.some.inj h1
    exact item_listR pl.isList h0 (by omega) (by rw [hj]; simpa using ew) fin hs
  · have hj : (i + (its.toArray.size : Int)).toNat = j := by
      rw [seqIndex_neg (by omega) h4] at h1
      rw [List.size_toArray, ← hl]
      exact Option.some.inj h1
    exact subscriptTail_builtinR (x := w) pl.isList.typeIs slot_list_getitem.lookup
      (wpAny_getItem_list_neg (Q := fun r s' => r = w ∧ EP X pins σ Q r s') pl.isList (by omega) (by rw [List.size_toArray] <;> omega) (by omega) (by rw [hj]; simpa using ew) ⟨rfl, fin⟩) hs
theorem ix_tup : IxR X (rIxT X.K) := by
  intro value slice pins s σ H x y v u Q I rx ry h hs
  obtain ⟨p, xs, i, z, rfl, rfl, hq, he, q⟩ := h
  cases rx
  obtain ⟨t, rfl⟩ := ry
  obtain ⟨its, r, pl, hz⟩ := I.tuple hq
  obtain ⟨j, h1, h2, h3, h4, h5⟩ := atI_get he
  obtain ⟨w, ew, rw'⟩ := r.get h2
  have hl := r.length
  have hn := line63
  have fin : EP X pins σ Q w s := ⟨z, H, I, rw', q⟩
  exact subscriptTail_builtinR (x := w) pl.typeIs slot_tuple_getitem.lookup
    (getItem_tuple (j := j) (Q := fun r s' => r = w ∧ EP X pins σ Q r s') pl (by omega) (by omega) (by rw [List.size_toArray, ← hl]; exact h1) (by simpa using ew) ⟨rfl, fin⟩) hs
theorem Inv.lst {pins : List (Addr × Obj)} {σ : St} {H : Hp} {s : Shared} {p : Addr} {xs : List V} (I : Inv X pins σ H s) (h : H p = some (.lst xs)) :
    ∃ (its : List Value) (n : Nat), Vals xs its ∧ s.heap.get? p = some { cls := .type "list", data := .seq its.toArray n } ∧ xs.length ≤ sizeLine := by
  obtain ⟨z, its, n, r, e⟩ := I.hok p _ h
  exact ⟨its, n, r, e, z⟩
theorem slice_bounds (lo hi : Option Int) (n : Nat) : (sliceBounds lo hi none n).1 = ((HT.sIx n 0 lo : Nat) : Int) ∧ (sliceBounds lo hi none n).2.1 = ((HT.sIx n n hi : Nat) : Int) ∧ (sliceBounds lo hi none n).2.2 = 1 := by
  refine ⟨?_, ?_, rfl⟩
  · cases lo with
    | none => simp [sliceBounds, HT.sIx]
    | some i =>
      simp only [sliceBounds, HT.sIx, Option.getD_none, show (1 : Int) > 0 by decide, if_true]
      by_cases h : i < 0
      · simp only [h, if_true] <;> omega
      · simp only [h, if_false] <;> omega
  · cases hi with
    | none => simp [sliceBounds, HT.sIx]
    | some i =>
      simp only [sliceBounds, HT.sIx, Option.getD_none, show (1 : Int) > 0 by decide, if_true]
      by_cases h : i < 0
      · simp only [h, if_true] <;> omega
      · simp only [h, if_false] <;> omega
theorem slicePick_cut (its : List Value) (lo hi : Option Int) : slicePick its.toArray lo hi none = ((its.drop (HT.sIx its.length 0 lo)).take (HT.sIx its.length its.length hi - HT.sIx its.length 0 lo)).toArray := by
  obtain ⟨h1, h2, h3⟩ := slice_bounds lo hi its.toArray.size
  unfold slicePick
  rw [h1, h2, h3]
  simp only [sliceRange_one, pick_run, List.size_toArray] <;> rfl
/-- xs[lo:hi] of a list: a new list -/
def rSlL (K : PySem.W.Frag) : V → Option Int → Option Int → Hp → VK → Prop := fun x lo hi H Q => ∃ a xs, x = .ref a ∧ SqL K H a xs ∧ ∀ p, H p = none → Q (.ref p) (upd H p (.lst (cutV xs lo hi)))
theorem sl_list : SlR X (rSlL X.K) := by
  intro pins s σ H x v vl vu lo hi sl Q I rx hs pl pu h
  obtain ⟨a, xs, rfl, hx, q⟩ := h
  cases rx
  obtain ⟨its, r, ht, hz⟩ := I.list hx
  have hlen := r.length
  refine ⟨"list", _, slot_list_getitem.lookup, ht.isList.typeIs, ?_⟩
  refine wpAny_getItem_list_slice ht.isList hs pl pu .none (by simp) ?_ (by rw [List.size_toArray] <;> omega)
  rw [slicePick_cut, ← hlen]
  refine ⟨.ref s.heap.objs.size, _, I.laid (t' := s.toks) (o := .lst (cutV xs lo hi)) (fun b ob q => Heap.get?_push_of_some _ q) (Nat.le_refl _) ?_, rfl, q _ (I.hok.fresh (Nat.le_refl _))⟩
  exact ⟨Nat.le_trans (cutV_length xs lo hi) hz, _, 0, (r.drop (HT.sIx xs.length 0 lo)).take (HT.sIx xs.length xs.length hi - HT.sIx xs.length 0 lo), Heap.get?_push_size _ rfl⟩
theorem call_len_seq : CallR X (.builtin "len") (fun xs H Q => ∃ p ys, xs = [.ref p] ∧ (SqL X.K H p ys ∨ SqT X.K H p ys) ∧ Q (.int ys.length) H) := by
  intro pins s σ H xs us Q I r h
  obtain ⟨p, ys, rfl, hq, q⟩ := h
  obtain ⟨u, rfl, rx⟩ := vals1 r
  cases rx
  have hn := line63
  rcases hq with hq | hq
  · obtain ⟨its, r', pl, hz⟩ := I.list hq
    have hlen := r'.length
    exact Calls.call_len_list pl.isList (by simp only [List.size_toArray] <;> omega) ⟨.int ys.length, H, I.tok _, ⟨s.toks + 1, by rw [List.size_toArray, hlen]⟩, q⟩
  · obtain ⟨its, r', pl, hz⟩ := I.tuple hq
    have hlen := r'.length
    exact len_tuple pl (by simp only [List.size_toArray] <;> omega) ⟨.int ys.length, H, I.tok _, ⟨s.toks + 1, by rw [List.size_toArray, hlen]⟩, q⟩
theorem call_list_of : CallR X (.type "list") (fun xs H Q => ∃ p ys, xs = [.ref p] ∧ (SqL X.K H p ys ∨ SqT X.K H p ys) ∧ ∀ l, H l = none → Q (.ref l) (upd H l (.lst ys))) := by
  intro pins s σ H xs us Q I r h
  obtain ⟨p, ys, rfl, hq, q⟩ := h
  obtain ⟨u, rfl, rx⟩ := vals1 r
  cases rx
  have fin : ∀ (its : List Value), Vals ys its → ys.length ≤ sizeLine → ∀ (h' : Heap) (c' : Nat), (∀ b o', s.heap.get? b = some o' → h'.get? b = some o') →
      h'.get? s.heap.objs.size = some { cls := .type "list", dict := none, data := .seq its.toArray c', slots := #[] } → EP X pins σ Q (.ref s.heap.objs.size) { s with heap := h' } := fun its r' hz h' c' kp e =>
    ⟨.ref s.heap.objs.size, _, I.laid (t' := s.toks) kp (Nat.le_refl _) (show ObjOk X.prog X.w _ h' _ (.lst ys) from ⟨hz, its, c', r', e⟩), rfl, q _ (I.hok.fresh (Nat.le_refl _))⟩
  rcases hq with hq | hq
  · obtain ⟨its, r', pl, hz⟩ := I.list hq
    have hlen := r'.length
    obtain ⟨o, ho, hc, n, hd⟩ := pl.isList
    exact call_list_seq p (.inl rfl) ho hc hd (fun h' c' kp e => fin its r' hz h' c' kp e) (by simp only [List.size_toArray] <;> omega)
  · obtain ⟨its, r', pl, hz⟩ := I.tuple hq
    have hlen := r'.length
    obtain ⟨o, ho, hc, n, hd⟩ := pl
    exact call_list_seq p (.inr rfl) ho hc hd (fun h' c' kp e => fin its r' hz h' c' kp e) (by simp only [List.size_toArray] <;> omega)
/-- the value is of that builtin type -/
def tyV (K : PySem.W.Frag) (T : String) (x : V) (H : Hp) : Prop := match x with
  | .str _ => T = "str"
  | .int _ => T = "int"
  | .ref p => (T = "list" ∧ ∃ xs, SqL K H p xs) ∨ (T = "tuple" ∧ ∃ o, K.lookup p = some o ∧ o.cls = .type "tuple" ∧ o.dict = none) ∨
      (T = "dict" ∧ ((∃ kvs, H p = some (.dK kvs)) ∨ ∃ kvs, H p = some (.dT kvs))) ∨ (T = "set" ∧ ∃ S n, H p = some (.set S n))
  | _ => False
theorem tyV_is {pins : List (Addr × Obj)} {σ : St} {H : Hp} {s : Shared} {T : String} {x : V} {v : Value} (I : Inv X pins σ H s) (r : RelV x v) (ty : tyV X.K T x H) :
    s.TypeIs v T ∧ ∀ a, v = .ref a → ∃ ob, s.heap.get? a = some ob ∧ ob.dict = none := by
  cases x with
  | str z =>
    obtain ⟨t, rfl⟩ := r
    cases (show T = "str" from ty)
    exact ⟨typeIs_str s z t, fun _ e => nomatch e⟩
  | int i =>
    obtain ⟨t, rfl⟩ := r
    cases (show T = "int" from ty)
    exact ⟨typeIs_int s i t, fun _ e => nomatch e⟩
  | ref p =>
    cases r
    rcases ty with ⟨rfl, xs, hq⟩ | ⟨rfl, o, hk, hc, hd⟩ | ⟨rfl, hk⟩ | ⟨rfl, S, n, hk⟩
    · obtain ⟨its, _, pl, _⟩ := I.list hq
      refine ⟨pl.isList.typeIs, fun a e => ?_⟩
      cases e
      obtain ⟨o, n, e, c, hd, _⟩ := pl
      exact ⟨o, e, hd⟩
    · refine ⟨⟨o, I.kIn p o hk, hc⟩, fun a e => ?_⟩
      cases e
      exact ⟨o, I.kIn _ o hk, hd⟩
    · have z : ∃ o, s.heap.get? p = some o ∧ o.ExactDict := by
        rcases hk with ⟨kvs, hk⟩ | ⟨kvs, hk⟩
        · obtain ⟨_, _, _, _, o, _, _, e, ex, _⟩ := I.hok p _ hk
          exact ⟨o, e, ex⟩
        · obtain ⟨_, _, _, _, o, _, _, e, ex, _⟩ := I.hok p _ hk
          exact ⟨o, e, ex⟩
      obtain ⟨o, e, ex⟩ := z
      refine ⟨⟨o, e, ex.1⟩, fun a e2 => ?_⟩
      cases e2
      exact ⟨o, e, ex.2.1⟩
    · obtain ⟨o, _, _, _, e, ex, _⟩ := I.hok p _ hk
      refine ⟨⟨o, e, ex.1⟩, fun a e2 => ?_⟩
      cases e2
      exact ⟨o, e, ex.2.1⟩
  | _ => exact False.elim ty
def tBM (K : PySem.W.Frag) (T : String) (r : V → List V → Hp → VK → Prop) (to : TE) (t : TA) : TE := fun σ H Q => to σ H fun x H1 => tyV K T x H1 ∧ t σ H1 fun xs H2 => r x xs H2 Q
variable {o e : Expr} {es : List Expr} {to : TE} {t : TA} {name : Str} {apos cpos : Pos} {T id : String} {r : V → List V → Hp → VK → Prop}
theorem pe_bm (pa : PlainAttrs T) (slot : Slot T name id) (hty : typeOf (.builtin id) = pure (.type "method_descriptor")) (hm : MtR X id r) (ho : PE X o to) (ha : PA X (e :: es) t)
    (hbase : attributeBase o name X.env (eval o X.env) = eval o X.env := by rfl)
    (hfew : ((backTo cpos (starEach (e :: es) X.env)).all (fun x => !x.1) && (backToKw cpos (keywordEach [] X.env)).all (fun x => x.1.isSome)
      && decide ((e :: es).length + ([] : List Keyword).length + (if ([] : List Keyword).isEmpty then 0 else 1) < 30)) = true := by rfl)
    (hline : (apos.endLine == cpos.line) = true := by rfl) (hs : starEach (e :: es) X.env = (false, eval e X.env) :: starEach es X.env := by rfl) (hplain : (backTo cpos (starEach es X.env)).any (·.1) = false := by rfl) :
    PE X (.Call (.Attribute o name apos) (e :: es) [] cpos) (tBM X.K T r to t) := by
  intro pins s σ H Q I h
  refine wpAny_Call_method_late hbase hfew hline rfl (thn (ho pins s σ H _ I h) fun v s1 zr54 => ?_)
  obtain ⟨x, H1, I1, r1, ty, q1⟩ := zr54
  obtain ⟨h1, h2⟩ := tyV_is I1 r1 ty
  refine ⟨T, id, pa, slot, hty, h1, h2, ?_⟩
  have hA := ha cpos pins s1 σ H1 _ I1 q1
  rw [hs] at hA ⊢
  refine Calls.callWith_builtin (by show (false || (backTo cpos (starEach es X.env)).any (·.1)) = false; rw [hplain] <;> rfl) (Calls.evalArgs_plain ?_)
  exact thn hA fun us s2 ⟨vs, H2, I2, r2, q2⟩ => hm pins s2 σ H2 x vs v us Q I2 r1 r2 q2
/- xs.append(e), list.index on a module's tuple .. are MtR facts of 06m -/
end
end L2
namespace L2
open PySem PySem.Spec PyProof.Rows
def MtM (X : Cx) (id : String) (r : V → List V → Hp → VK → Prop) : Prop :=
  ∀ (pins : List (Addr × Obj)) (s : Shared) (σ : St) (H : Hp) (x : V) (xs : List V) (v : Value) (us : List Value) (Q : VK), Inv X pins σ H s → RelV x v → Vals xs us → r x xs H Q →
    wpAny (model X.prog X.w) X.A (call (.builtin id) (v :: us)) (EP X pins σ Q) X.xe s
theorem Vals.one : ∀ {x : V} {us : List Value}, Vals [x] us → ∃ u, us = [u] ∧ RelV x u
  | _, _, .cons r .nil => ⟨_, rfl, r⟩
theorem Vals.two : ∀ {x y : V} {us : List Value}, Vals [x, y] us → ∃ u v, us = [u, v] ∧ RelV x u ∧ RelV y v
  | _, _, _, .cons r (.cons q .nil) => ⟨_, _, rfl, r, q⟩
theorem Vals.zero : ∀ {us : List Value}, Vals [] us → us = []
  | _, .nil => rfl
theorem Vals.rep {xs : List V} {us : List Value} (h : Vals xs us) : ∀ k : Nat, Vals (List.replicate k xs).flatten (List.replicate k us).flatten
  | 0 => .nil
  | k + 1 => by
    rw [List.replicate_succ, List.replicate_succ, List.flatten_cons, List.flatten_cons]
    exact Vals.append h (Vals.rep h k)
section
variable {X : Cx} {pins : List (Addr × Obj)} {σ : St} {H : Hp} {s : Shared} {l b : Addr} {xs ys zs : List V}
theorem Inv.lset {its its' : List Value} {n : Nat} {f : Array Value → Array Value} {t' : Nat} (I : Inv X pins σ H s) (hH : H l = some (.lst xs))
    (e : s.heap.get? l = some { cls := .type "list", data := .seq its.toArray n }) (hf : f its.toArray = its'.toArray) (hv : Vals ys its') (hz : ys.length ≤ sizeLine) :
    Inv X pins σ (upd H l (.lst ys)) { s with heap := s.heap.update l (Obj.mapSeq f), toks := t' } := by
  have q := PySem.IsL.update e f
  rw [hf] at q
  refine I.write (x := l) (e := l) (by rw [hH]; exact trivial) (.inl rfl) (fun b' u hb hu => (Heap.get?_update_other s.heap (Obj.mapSeq f) (Ne.symm hb)).trans hu) ⟨_, q⟩ ?_
  exact ⟨hz, its', _, hv, q⟩
theorem Inv.lnew {its : List Value} {t' : Nat} (I : Inv X pins σ H s) (hv : Vals ys its) (hz : ys.length ≤ sizeLine) :
    Inv X pins σ (upd H s.heap.objs.size (.lst ys)) { s with heap := s.heap.push { cls := .type "list", data := .seq its.toArray }, toks := t' } :=
  I.laid (fun _ _ q => Heap.get?_push_of_some _ q) (Nat.le_refl _) ⟨hz, its, 0, hv, Heap.get?_push_size _ rfl⟩
theorem Inv.fresh (I : Inv X pins σ H s) : H s.heap.objs.size = none := I.hok.fresh (Nat.le_refl _)
theorem Inv.lstM (I : Inv X pins σ H s) (hH : H l = some (.lst xs)) : xs.length ≤ sizeLine ∧ ∃ (its : List Value) (n : Nat), Vals xs its ∧ xs.length = its.length ∧ s.heap.get? l = some { cls := .type "list", data := .seq its.toArray n } := by
  obtain ⟨z, its, n, r, e⟩ := I.hok l _ hH
  exact ⟨z, its, n, r, r.length, e⟩
end
section
variable {X : Cx}
def rAppend : V → List V → Hp → VK → Prop := fun x vs H Q => ∃ l xs y, x = .ref l ∧ vs = [y] ∧ H l = some (.lst xs) ∧ xs.length < sizeLine ∧ Q .non (upd H l (.lst (xs ++ [y])))
theorem mt_append : MtM X "list.append" rAppend := by
  intro pins s σ H x vs v us Q I rx rv h
  obtain ⟨l, xs, y, rfl, rfl, hH, hz, q⟩ := h
  cases rx
  obtain ⟨u, rfl, ru⟩ := rv.one
  obtain ⟨z, its, n, r, hl, e⟩ := I.lstM hH
  refine call_meets F.slot_list_append ⟨_, e, rfl⟩ F.entry_list_append (F.args_list_append_2 _ _) (PySem.list_append l its.toArray n u (by rw [List.size_toArray]; omega)) ⟨e, ?_⟩
  refine ⟨.non, _, I.lset (its' := its ++ [u]) hH e (by simp) (r.append (.cons ru .nil)) ?_, rfl, q⟩
  rw [List.length_append, List.length_singleton]
  omega
def rCat : R2 := fun x y H Q => ∃ l b xs zs, x = .ref l ∧ y = .ref b ∧ H l = some (.lst xs) ∧ H b = some (.lst zs) ∧ xs.length + zs.length ≤ sizeLine ∧ ∀ p, H p = none → Q (.ref p) (upd H p (.lst (xs ++ zs)))
theorem op_cat : OpR X (binaryOp .Add) rCat := by
  intro pins s σ H x y v u Q I rx ry h
  obtain ⟨l, b, xs, zs, rfl, rfl, hH, hB, hz, q⟩ := h
  cases rx
  cases ry
  obtain ⟨z, its, n, r, hl, e⟩ := I.lstM hH
  obtain ⟨z2, its2, n2, r2, hl2, e2⟩ := I.lstM hB
  refine PySem.P.add_list e e2 ?_ (by rw [List.size_toArray, List.size_toArray]; omega)
  have ea : its.toArray ++ its2.toArray = (its ++ its2).toArray := by simp
  rw [ea]
  exact ⟨.ref _, _, I.lnew (t' := s.toks) (r.append r2) (by rw [List.length_append]; omega), rfl, q _ I.fresh⟩
end
section
variable {prog : Program} {w : World} {A : Around} {E : Value → Shared → Prop} {s : Shared}
end
section
variable {X : Cx}
end
end L2
namespace Att
open PySem PySem.W PySem.Calls PyProof.Rows
theorem ints_of_wellAll {P : Params} {h : Heap} : ∀ (ns : List Int) (vs : List Value), WellAll P h vs (ns.map WData.int) → IntsAre vs ns := by
  intro ns
  induction ns with
  | nil =>
    intro vs w
    rw [List.map_nil] at w
    cases w
    exact .nil
  | cons n ns ih =>
    intro vs w
    rw [List.map_cons] at w
    cases w with
    | cons a b =>
      cases a
      exact .cons _ _ (ih _ b)
theorem script_of {l : OpenLaw} {n : Nat} (hn : l.most = some n) {P : Params} {h : Heap} {args : List WData} {vals : List Value}
    (hpre : l.row.toRowW.claim.pre args = true) (hwl : WellAll P h vals args) :
    ∃ a vs ns, vals = [Value.ref a] ∧ args = [WData.list (ns.map WData.int)] ∧ h.get? a = some { cls := .type "list", data := .seq vs.toArray } ∧ IntsAre vs ns ∧ ns.length ≤ n := by
  have hsh : WShape.hasAll [] args [.list .int] = true := (pre_splitW hpre).1
  have hc : l.pre.holds [] { args := args } = true := (pre_splitW hpre).2
  obtain ⟨d, r, rfl, h1, h2⟩ := hasAllW_cons hsh
  obtain rfl := hasAllW_nil h2
  obtain ⟨xs, rfl, h3⟩ := hasW_list h1
  obtain ⟨ns, rfl⟩ := items_int h3
  have hlen : ns.length ≤ n := by
    unfold OpenLaw.pre at hc
    have h4 : (WTm.not (.lt (.lit (.int (n : Int))) (.len (.arg 0)))).holds [] { args := [.list (ns.map .int)] } = true := by
      have h4 := (holds_andW hc).1
      rw [hn] at h4
      exact h4
    have h5 := condW_of h4 (w_not (w_lt w_lit (w_len_list (w_arg rfl))))
    rw [List.length_map] at h5
    refine Nat.le_of_not_lt fun q => ?_
    have q' : (n : Int) < ((ns.length : Nat) : Int) := by omega
    first
      | (rw [decide_eq_true q'] at h5; exact absurd h5 (by decide))
      | (simp at h5; omega)
  cases hwl with
  | cons w1 w2 =>
    cases w2
    cases w1 with
    | list ho hall => exact ⟨_, _, ns, rfl, rfl, ho, ints_of_wellAll ns _ hall, hlen⟩
theorem post_true (l : OpenLaw) (args : List WData) : l.row.toRowW.claim.post args (.bool true) args = true :=
  postW_of (r := l.row.toRowW) (X := (true == true))
    (show WShape.has [] (.bool true) .bool = true by first | rfl | decide | simp [WShape.has, WShape.arms, WShape.armsAll])
    (show (WTm.eq .res (.lit (.bool true))).value [] { args := args, res := some (.bool true), after := args } = some (.bool (true == true)) from w_eq_bool (w_res rfl) w_lit) rfl
/-- the same from a codeAny of the CALL (for a layer whose function contracts speak of calls) -/
theorem attach_call {l : OpenLaw} {n : Nat} {q : Program} {loose : List Str} {XP : (Str → Option Value) → Heap → Prop} {YP : World → Heap → Prop} {d : DefRec}
    (hn : l.most = some n) (hdf : d.params.defaults = [])
    (call : ∀ (w : World) (s₀ s₁ : Shared) (mg mb : Str → Option Value) (fa : Addr) (o : Obj) (pm cd doc : Value) (a : Addr) (vs : List Value) (ns : List Int),
      Ground q loose [] XP w s₀ mg mb s₁.heap → YP w s₁.heap →
      s₁.heap.get? fa = some o → o.data = .func (docDef d.name d.params d.body d.scope pm cd doc) → s₁.heap.CodeRec cd d.name → mg d.name = some (.ref fa) →
      s₁.heap.get? a = some { cls := .type "list", data := .seq vs.toArray } → IntsAre vs ns → ns.length ≤ n → s₁.gens = #[] →
      codeAny (model l.prog w) callerA (.call (.ref fa) ⟨[.ref a], []⟩) (fun r s' => r = .ok (.ret (.bool true)) ∧ OldK s₁.heap s'.heap ∧ s'.os = s₁.os ∧ AllBare s'.gens) s₁) :
    WalkO q loose XP YP l.row.toRowW d [] (fun f vs => PySem.call f vs) := by
  intro w s₀ s₁ mg mb G Y fa o pm cd doc dV kV ho hd hcd hD hmg hg args vals as hpre hlay hrd hwl hlo
  obtain rfl : dV = .none := Dflts.none hD hdf
  obtain rfl : kV = .none := Dflts.noKw hD
  obtain ⟨a, vs, ns, rfl, rfl, hobj, hints, hlen⟩ := script_of hn hpre hwl
  refine enter_call (codeAny_mono (call w s₀ s₁ mg mb fa o pm cd doc a vs ns G Y ho (fd_plain hd) hcd hmg hobj hints hlen hg) fun r s' hq => ?_)
  obtain ⟨rfl, h2, h3, h4⟩ := hq
  exact ⟨.inl ⟨.bool true, .bool true, [], rfl, fun _ => rfl, .bool true, post_true l _, fun _ => ⟨List.Pairwise.nil, fun _ hm => (nomatch hm)⟩⟩, h2, h3, h4⟩
section
variable {prog : Program} {w : World} {A : Around} {E : Value → Shared → Prop} {s : Shared} {K : Frag}
end
end Att
namespace L2
open PySem PySem.Spec PyProof.Rows
theorem vals_ints : ∀ {vs : List Value} {ns : List Int}, IntsAre vs ns → Vals (ns.map V.int) vs
  | _, _, .nil => .nil
  | _, _, .cons n t h => .cons ⟨t, rfl⟩ (vals_ints h)
/-- nothing is tracked but the script, known to the object (or it is an object of the module) -/
def Only (H : Hp) : Prop := ∀ b, H b = none ∨ ∃ o xs, H b = some (.frz o (.lst xs))
/-- THE HEAD: the law's promise, at the heap behind the top. F, the promise of the law's def, may use that base is part of the heap (so K.In base, base.Ns mainGlobals mg stand in Mod) -/
theorem law_call {P : Program} {w : World} {K : PySem.W.Frag} {mg mb : Str → Option Value} {CX : CXT} {k : Nat} {fa a : Addr} {fd : FuncData} {x : Str} {sp : Sp} {s₁ : Shared} {vs : List Value} {ns : List Int}
    (KX : K.In s₁.heap) (hns : s₁.heap.Ns mainGlobals mg) (hb : s₁.heap.Ns builtinsNs mb) (hbb : ∀ x : Str, x ≠ "__name__" → mb x = bootBuiltins x) (hlim : s₁.heap.NoLimit) (hg : s₁.gens = #[])
    (ha : s₁.heap.get? a = some { cls := .type "list", data := .seq vs.toArray }) (hi : IntsAre vs ns) (hl : ns.length ≤ sizeLine) (hr : Room k callerA)
    (F : ∀ base : Heap, K.In base → base.Ns mainGlobals mg → FnOk P w K mg base CX k fa fd [x] sp) (hbind : ∀ (s : Shared) (u : Value), BindsTo s fd ⟨[u], []⟩ [(x, u)])
    (hsp : ∀ H : Hp, Only H → SqL K H a (ns.map V.int) → sp [.ref a] H (fun v _ => v = .bl true) fun _ _ _ => False)
    (hCX : ∀ H e s', CX [] H s₁ (fun _ _ _ => False) e s' → False) :
    codeAny (model P w) callerA (.call (.ref fa) ⟨[.ref a], []⟩) (fun r s' => r = .ok (.ret (.bool true)) ∧ OldK s₁.heap s'.heap ∧ s'.os = s₁.os ∧ AllBare s'.gens) s₁ := by
  have rv := vals_ints hi
  have lenV := hi.length
  -- from an abstract heap in which nothing but the script may be tracked
  have core : ∀ H : Hp, Only H → SqL K H a (ns.map V.int) → HOk P w H s₁.heap → (∀ b, H b ≠ none → b = a) → (H a ≠ none → K.lookup a = none) →
      codeAny (model P w) callerA (.call (.ref fa) ⟨[.ref a], []⟩) (fun r s' => r = .ok (.ret (.bool true)) ∧ OldK s₁.heap s'.heap ∧ s'.os = s₁.os ∧ AllBare s'.gens) s₁ := by
    intro H hO hS hok hA hK
    have base_of : ∀ {b : Addr} {o : Obj}, s₁.heap.get? b = some o → H b = none → (hidT s₁.heap H).get? b = some o := fun e n => hidT_get e n
    have noA : ∀ {b : Addr} {o : Obj} {es : Array DictEntry} {ep : Nat}, s₁.heap.get? b = some o → o.data = .dict es ep → H b = none := fun {b o es ep} e d => by
      cases q : H b with
      | none => rfl
      | some u =>
        have e' : b = a := hA b (by rw [q]; simp)
        subst e'
        rw [ha] at e; cases e
        have d' : Data.seq vs.toArray _ = Data.dict es ep := d
        cases d'
    have nsK : ∀ {b : Addr} {m : Str → Option Value}, s₁.heap.Ns b m → (hidT s₁.heap H).Ns b m := fun {b m} ⟨o, es, ep, e, d, r⟩ => ⟨o, es, ep, base_of e (noA e d), d, r⟩
    have hKb : K.In (hidT s₁.heap H) := fun b o e => base_of (KX b o e) (by
      cases q : H b with
      | none => rfl
      | some u =>
        have e' : b = a := hA b (by rw [q]; simp)
        subst e'
        rw [hK (by rw [q]; simp)] at e; cases e)
    have hM : Mod K mg (hidT s₁.heap H) := ⟨hKb, nsK hns, ⟨mb, nsK hb, hbb⟩, let ⟨mc, h1, h2⟩ := hlim; ⟨mc, nsK h1, h2⟩⟩
    have e0 : Env0 P w K mg (hidT s₁.heap H) callerA [] s₁ H := ⟨rfl, hM, fun b o e => of_hidT e, Nat.le_of_eq (hidT_size _ _), trivial, fun b hb => absurd (show b ∈ ([] : List Addr) from hb) (by simp), hok, .of_eq hg⟩
    refine codeAny_mono ((F _ hKb (nsK hns)).run callerA [] s₁ H ⟨[.ref a], []⟩ [.ref a] [.ref a] _ _ hr e0 (hbind s₁ (.ref a)) (.cons rfl .nil) (hsp H hO hS)) fun r s' h => ?_
    cases r with
    | error e => exact (hCX H e s' h).elim
    | ok fl =>
      cases fl with
      | next => exact False.elim h
      | brk => exact False.elim h
      | cont => exact False.elim h
      | ret u =>
        obtain ⟨v, H', os, bare, un, hok', r', q⟩ := h
        have q' : v = .bl true := q
        subst q'
        obtain rfl : u = Value.bool true := r'
        refine ⟨rfl, OldK.of_keep fun b o e => ?_, os, bare⟩
        cases q : H b with
        | none => exact un.keep b o e q (by intro z; exact absurd (show b ∈ ([] : List Addr) from z) (by simp)) (by simp)
        | some u =>
          rcases hO b with z | ⟨ob, xs, z⟩
          · rw [q] at z; cases z
          · have z2 := un.frzs b ob _ z
            obtain ⟨e1, _⟩ := hok b _ z
            obtain ⟨e2, _⟩ := hok' b _ z2
            rw [e] at e1; cases e1
            exact e2
  cases hk : K.lookup a with
  | some o =>
    -- the script is one of the module's own objects
    have e := KX a o hk
    rw [ha] at e
    cases e
    refine core (fun _ => none) (fun _ => .inl rfl) (.inr ⟨_, vs.toArray, _, hk, rfl, rfl, rfl, by rw [List.size_toArray, lenV]; exact hl, by simpa using rv⟩) (fun b u z => by have z' : (none : Option HO) = some u := z; cases z') (fun b z => absurd rfl z) fun z => absurd rfl z
  | none =>
    refine core (fun b => if b = a then some (.frz { cls := .type "list", data := .seq vs.toArray } (.lst (ns.map V.int))) else none) (fun b => ?_) (.inl (.inr ⟨{ cls := .type "list", data := .seq vs.toArray }, if_pos rfl⟩)) (fun b u z => ?_) (fun b z => ?_) fun _ => hk
    · by_cases hb : b = a
      · exact .inr ⟨_, _, if_pos hb⟩
      · exact .inl (if_neg hb)
    · by_cases hb : b = a
      · have z' := (if_pos hb).symm.trans z
        cases z'
        subst hb
        exact ⟨ha, by rw [List.length_map]; exact hl, vs, _, rv, ha⟩
      · have z' := (if_neg hb).symm.trans z
        cases z'
    · by_cases hb : b = a
      · exact hb
      · exact absurd (if_neg hb) z
end L2
namespace L2
open PySem PySem.Spec PyProof.Rows
/-- the goal that k_head leaves (case hc), from the law's promise. F gives the function object fd (K's own) once, then the promise over every base -/
theorem walk_of {l : PySem.W.OpenLaw} {n k : Nat} {q : Program} {loose : List Str} {XP : (Str → Option Value) → Heap → Prop} {YP : World → Heap → Prop} {d : DefRec} {K : Params → PySem.W.Frag} {CX : World → CXT} {sp : World → Sp} {x : Str}
    (hn : l.most = some n) (hn2 : n ≤ sizeLine) (hdf : d.params.defaults = []) (hr : Room k callerA)
    (hY : ∀ (w : World) (h : Heap), YP w h → (K w.params).In h)
    (F : ∀ (w : World) (mg : Str → Option Value) (fa : Addr) (h : Heap), (K w.params).In h → h.Ns mainGlobals mg → mg d.name = some (.ref fa) →
      ∃ fd : FuncData, (∀ (s : Shared) (u : Value), BindsTo s fd ⟨[u], []⟩ [(x, u)]) ∧
        ∀ base : Heap, (K w.params).In base → base.Ns mainGlobals mg → FnOk l.prog w (K w.params) mg base (CX w) k fa fd [x] (sp w))
    (hsp : ∀ (w : World) (H : Hp) (a : Addr) (ns : List Int), ns.length ≤ n → Only H → SqL (K w.params) H a (ns.map V.int) → sp w [.ref a] H (fun v _ => v = .bl true) fun _ _ _ => False)
    (hCX : ∀ (w : World) (H : Hp) (s : Shared) (e : Value) (s' : Shared), CX w [] H s (fun _ _ _ => False) e s' → False) :
    PySem.W.WalkO q loose XP YP l.row.toRowW d [] (fun f vs => PySem.call f vs) := by
  refine Att.attach_call hn hdf fun w s₀ s₁ mg mb fa o pm cd doc a vs ns G Y ho hd hcd hmg hobj hints hlen hg => ?_
  have KX := hY w _ Y
  obtain ⟨fd, hb, hF⟩ := F w mg fa _ KX G.T.g hmg
  exact law_call KX G.T.g G.T.b G.T.builtins G.T.nolimit hg hobj hints (Nat.le_trans hlen hn2) hr hF hb (fun H hO hS => hsp w H a ns hlen hO hS) fun H e s' => hCX w H s₁ e s'
end L2
namespace L2
open PySem PySem.Spec PyProof.Rows
/-- the j-th statement of a class's body -/
def inClass (s : Stmt) (j : Nat) : Stmt := match s with
  | .ClassDef _ _ _ body _ _ _ _ _ _ _ => body.getD j (.Pass ⟨0, 0, 0, 0⟩)
  | _ => .Pass ⟨0, 0, 0, 0⟩
def defArgs (s : Stmt) : Arguments := match s with
  | .FunctionDef _ a _ _ _ _ _ _ _ _ => a
  | _ => { posonlyargs := [], args := [], vararg := none, kwonlyargs := [], kw_defaults := [], kwarg := none, defaults := [] }
def defBody (s : Stmt) : List Stmt := match s with
  | .FunctionDef _ _ b _ _ _ _ _ _ _ => b
  | _ => []
def defScope (s : Stmt) : Scope := match s with
  | .FunctionDef _ _ _ _ _ _ sc _ _ _ => sc
  | _ => { kind := .function, names := [], isGenerator := false, isCoroutine := false }
abbrev CX0 : CXT := fun _ _ _ _ _ _ => False
abbrev E0 : XK := fun _ _ _ => False
theorem pass0 {X : Cx} : Passes CX0 X E0 := fun _ _ _ _ _ _ _ h => h.elim
structure Fun (K : PySem.W.Frag) (x qual : Str) (st : Stmt) (f : Addr) (fd : FuncData) : Prop where
  ex : ∃ (oc : Value) (od : Option Addr) (kV doc pm : Value) (an : Option Addr) (cdv ct : Value) (osl : Array (Option Value)),
    fd = PySem.W.fnOf x qual (defArgs st) (defBody st) (defScope st) .none kV doc pm an cdv ct ∧ K.lookup f = some ⟨oc, od, .func fd, osl⟩ ∧ PySem.W.codeIn K cdv qual = true
  kp : PySem.W.keepIn K (.ref f) = true
section
variable {P : Program} {w : World} {K : PySem.W.Frag} {mg : Str → Option Value} {base : Heap}
/-- THE RULE for a def: its body as a term of rules, and the reading of that term -/
theorem Fun.ok {x qual : Str} {st : Stmt} {f : Addr} {fd : FuncData} {N ps : List Str} {k : Nat} {sp : Sp} (F : Fun K x qual st f fd) (S : FnScope N ps (defScope st)) (len : ∀ vs H Q E, sp vs H Q E → vs.length = ps.length)
    (hbody : ∀ (cdv : Value) (A : Around) (outer : List Env) (s : Shared) (H : Hp) (vs : List V) (Q : VK) (E : XK), Room k (A.deeper (envOfC qual (defScope st) s.heap.objs.size f cdv)) → sp vs H Q E →
      ∃ t, PSs (cxOf CX0 P w K mg base N qual (defScope st) f cdv A outer s H E).nox (defBody st) t ∧ t { nx := fun _ H' => Q .non H', rt := Q } (start N vs) H) : FnOk P w K mg base CX0 (k + 1) f fd ps sp := by
  obtain ⟨oc, od, kV, doc, pm, an, cdv, ct, osl, rfl, lk, hcd⟩ := F.ex
  refine fn_of lk hcd S len fun A outer s H vs Q E hr hsp => ?_
  obtain ⟨t, h, q⟩ := hbody cdv A outer s H vs Q E hr hsp
  exact ⟨t, h.nox, q⟩
/-- how its arguments bind (no defaults): h is «fun _ _ _ _ _ _ us hl => match us, hl with | [_, _], _ => rfl», one _ a parameter -/
theorem Fun.binds {x qual : Str} {st : Stmt} {f : Addr} {fd : FuncData} {ps : List Str} (F : Fun K x qual st f fd)
    (h : ∀ (kV doc pm : Value) (an : Option Addr) (cdv ct : Value) (us : List Value), us.length = ps.length → bindArgs (PySem.W.fnOf x qual (defArgs st) (defBody st) (defScope st) .none kV doc pm an cdv ct) ⟨us, []⟩ = pure (ps.zip us)) : Binds K fd ps [] := by
  obtain ⟨oc, od, kV, doc, pm, an, cdv, ct, osl, rfl, lk, hcd⟩ := F.ex
  exact .all (h kV doc pm an cdv ct)
theorem fun_mk {x qual : Str} {st : Stmt} {f : Addr} {oc : Value} {od an : Option Addr} {osl : Array (Option Value)} {kV doc pm cdv ct : Value} (l : K.lookup f = some ⟨oc, od, .func (PySem.W.fnOf x qual (defArgs st) (defBody st) (defScope st) .none kV doc pm an cdv ct), osl⟩)
    (c : PySem.W.codeIn K cdv qual = true) (k : PySem.W.keepIn K (.ref f) = true) : Fun K x qual st f (PySem.W.fnOf x qual (defArgs st) (defBody st) (defScope st) .none kV doc pm an cdv ct) := ⟨⟨oc, od, kV, doc, pm, an, cdv, ct, osl, rfl, l, c⟩, k⟩
end
theorem small1000 {n : Nat} (h : n ≤ 1000) : n < sizeLine := Nat.lt_of_le_of_lt h (by decide)
section
variable {X : Cx}
theorem pv (i : Nat) {x : Str} {pos : Pos} (hN : X.N[i]? = some x := by rfl) (hv : Vis X.env.scope x := by first | exact Or.inl rfl | exact Or.inr (Or.inl rfl) | exact Or.inr (Or.inr rfl)) (hd : (x == ("__debug__" : Str)) = false := by decide)
    (hcd : (x == ("__classdict__" : Str)) = false := by decide) : PE X (.Name x pos) (tVar i) := pe_var hN hv hd hcd
end
theorem iteF {A B : Prop} (h : B) : if false = true then A else B := by
  rw [if_neg Bool.false_ne_true]
  exact h
theorem iteT {A B : Prop} (h : A) : if true = true then A else B := by
  rw [if_pos rfl]
  exact h
/-- all that was tracked is as it was -/
def Same (H H' : Hp) : Prop := ∀ b o, H b = some o → H' b = some o
theorem Same.refl (H : Hp) : Same H H := fun _ _ h => h
theorem Same.trans {H H1 H2 : Hp} (a : Same H H1) (b : Same H1 H2) : Same H H2 := fun c o h => b c o (a c o h)
theorem Same.free {H H' : Hp} (e : Same H H') {l : Addr} (h : H' l = Option.none) : H l = Option.none := by
  cases q : H l with
  | none => rfl
  | some o =>
    rw [e l o q] at h
    cases h
theorem Same.seq {K : PySem.W.Frag} {H H' : Hp} {a : Addr} {xs : List V} (e : Same H H') (h : SqL K H a xs) : SqL K H' a xs := by
  rcases h with (h | ⟨o, h⟩) | h
  · exact .inl (.inl (e _ _ h))
  · exact .inl (.inr ⟨o, e _ _ h⟩)
  · exact .inr h
end L2
set_option linter.all false
namespace Mth
/-- a number of fewer than n binary figures -/
def lb (n : Nat) (i : Int) : Prop := i.natAbs < 2 ^ n
theorem lb_mono {a b : Nat} {i : Int} (h : lb a i) (k : a ≤ b) : lb b i := Nat.lt_of_lt_of_le h (Nat.pow_le_pow_right (by decide) k)
theorem lb_mul {a b : Nat} {i j : Int} (h : lb a i) (k : lb b j) : lb (a + b) (i * j) := by
  unfold lb at *
  rw [Int.natAbs_mul, Nat.pow_add]
  exact Nat.mul_lt_mul'' h k
theorem lb_add {a : Nat} {i j : Int} (h : lb a i) (k : lb a j) : lb (a + 1) (i + j) := by
  unfold lb at *
  have := Int.natAbs_add_le i j
  rw [Nat.pow_succ]
  omega
theorem lb_neg {a : Nat} {i : Int} (h : lb a i) : lb a (-i) := by unfold lb at *; rw [Int.natAbs_neg]; exact h
theorem lb_sub {a : Nat} {i j : Int} (h : lb a i) (k : lb a j) : lb (a + 1) (i - j) := by rw [Int.sub_eq_add_neg]; exact lb_add h (lb_neg k)
theorem lb_le {a : Nat} {i j : Int} (h : lb a i) (k : j.natAbs ≤ i.natAbs) : lb a j := Nat.lt_of_le_of_lt k h
theorem lb_log {a b : Nat} {i : Int} (h : lb a i) (k : a ≤ b) (z : 0 < b) : i.natAbs.log2 < b := by
  unfold lb at h
  by_cases h0 : i.natAbs = 0
  · rw [h0]; exact z
  · exact Nat.lt_of_lt_of_le ((Nat.log2_lt h0).mpr h) k
theorem lb_zero {a : Nat} : lb a 0 := by unfold lb; exact Nat.two_pow_pos a
theorem lb_one {a : Nat} (h : 0 < a) : lb a 1 := by
  unfold lb
  exact Nat.one_lt_two_pow (by omega)
theorem gcd_pos {t u : Int} (hu : u ≠ 0) : 0 < Int.gcd t u := Int.gcd_pos_of_ne_zero_right t hu
/-- what part(top, under) reckons -/
theorem part_pos {t u : Int} (hu : 0 < u) : t.fdiv (Int.gcd t u : Int) = (Rat.divInt t u).num ∧ u.fdiv (Int.gcd t u : Int) = ((Rat.divInt t u).den : Int) := by
  have hg : 0 < Int.gcd t u := gcd_pos (by omega)
  have hg' : (0 : Int) ≤ (Int.gcd t u : Int) := by omega
  rw [Int.fdiv_eq_ediv_of_nonneg _ hg', Int.fdiv_eq_ediv_of_nonneg _ hg', Rat.num_divInt, Rat.den_divInt, if_neg (by omega), Int.sign_eq_one_of_pos hu, Int.one_mul, Int.gcd_comm u t]
  refine ⟨rfl, ?_⟩
  rw [Int.natCast_ediv]
  congr 1
  omega
theorem part_neg {t u : Int} (hu : u < 0) : t.fdiv (-(Int.gcd t u : Int)) = (Rat.divInt t u).num ∧ u.fdiv (-(Int.gcd t u : Int)) = ((Rat.divInt t u).den : Int) := by
  have h := part_pos (t := -t) (u := -u) (by omega)
  rw [Int.neg_gcd, Int.gcd_neg, Rat.neg_divInt_neg] at h
  have e : ∀ a b : Int, a.fdiv (-b) = (-a).fdiv b := fun a b => by rw [← Int.neg_fdiv_neg]; simp
  rw [e, e]
  exact h
theorem num_le {t u : Int} (hu : u ≠ 0) : (Rat.divInt t u).num.natAbs ≤ t.natAbs := by
  rw [Rat.num_divInt, Int.natAbs_ediv_of_dvd]
  · rw [Int.natAbs_mul, Int.natAbs_sign_of_ne_zero hu, Nat.one_mul]
    exact Nat.div_le_self _ _
  · exact Int.dvd_trans (Int.gcd_dvd_right ..) (Int.dvd_mul_left ..)
theorem den_le {t u : Int} (hu : u ≠ 0) : (Rat.divInt t u).den ≤ u.natAbs := by
  rw [Rat.den_divInt, if_neg hu]
  exact Nat.div_le_self _ _
/-- a part of fewer than n figures -/
def Bd (n : Nat) (q : Rat) : Prop := lb n q.num ∧ lb n (q.den : Int)
theorem Bd.mono {a b : Nat} {q : Rat} (h : Bd a q) (k : a ≤ b) : Bd b q := ⟨lb_mono h.1 k, lb_mono h.2 k⟩
theorem Bd.div {n : Nat} {t u : Int} (hu : u ≠ 0) (h1 : lb n t) (h2 : lb n u) : Bd n (Rat.divInt t u) := ⟨lb_le h1 (num_le hu), lb_le h2 (by simpa using den_le hu)⟩
theorem den_ne (q : Rat) : (q.den : Int) ≠ 0 := by have := q.den_nz; omega
theorem den_pos (q : Rat) : (0 : Int) < (q.den : Int) := by have := q.den_pos; omega
theorem self_div (q : Rat) : Rat.divInt q.num q.den = q := Rat.num_divInt_den q
theorem add_div (p q : Rat) : Rat.divInt (p.num * q.den + q.num * p.den) (p.den * q.den) = p + q := by
  rw [← Rat.divInt_add_divInt _ _ (den_ne p) (den_ne q), self_div, self_div]
theorem sub_div (p q : Rat) : Rat.divInt (p.num * q.den - q.num * p.den) (p.den * q.den) = p - q := by
  rw [← Rat.divInt_sub_divInt _ _ (den_ne p) (den_ne q), self_div, self_div]
theorem mul_div (p q : Rat) : Rat.divInt (p.num * q.num) (p.den * q.den) = p * q := by
  rw [← Rat.divInt_mul_divInt, self_div, self_div]
theorem over_div (p q : Rat) : Rat.divInt (p.num * q.den) (p.den * q.num) = p / q := by
  rw [← Rat.divInt_mul_divInt, self_div, Rat.div_def, Rat.inv_def]
theorem Bd.sub {a b : Nat} {p q : Rat} (h : Bd a p) (k : Bd b q) : Bd (a + b + 1) (p - q) := by
  rw [← sub_div]
  refine Bd.div (Int.mul_ne_zero (den_ne p) (den_ne q)) ?_ (lb_mono (lb_mul h.2 k.2) (by omega))
  refine lb_sub (lb_mul h.1 k.2) ?_
  have := lb_mul k.1 h.2
  rw [Nat.add_comm b a] at this
  exact this
theorem Bd.mul {a b : Nat} {p q : Rat} (h : Bd a p) (k : Bd b q) : Bd (a + b) (p * q) := by
  rw [← mul_div]
  exact Bd.div (Int.mul_ne_zero (den_ne p) (den_ne q)) (lb_mul h.1 k.1) (lb_mul h.2 k.2)
theorem num_ne {q : Rat} (h : q ≠ 0) : q.num ≠ 0 := fun e => h (Rat.num_eq_zero.mp e)
theorem Bd.over {a b : Nat} {p q : Rat} (h : Bd a p) (k : Bd b q) (hq : q ≠ 0) : Bd (a + b) (p / q) := by
  rw [← over_div]
  exact Bd.div (Int.mul_ne_zero (den_ne p) (num_ne hq)) (lb_mul h.1 k.2) (lb_mul h.2 k.1)
theorem Bd.neg {a : Nat} {p : Rat} (h : Bd a p) : Bd a (-p) := ⟨by rw [Rat.neg_num]; exact lb_neg h.1, by rw [Rat.neg_den]; exact h.2⟩
theorem Bd.zero {n : Nat} (h : 0 < n) : Bd n 0 := ⟨lb_zero, lb_one h⟩
theorem Bd.one {n : Nat} (h : 0 < n) : Bd n 1 := ⟨lb_one h, lb_one h⟩
end Mth
set_option Elab.async false
set_option linter.all false
set_option maxRecDepth 100000
namespace XL
open PySem PySem.Spec PyProof.Rows L2
/-- an exception of the class at C flies over the frames of outer: s, H the state ahead, s', H' behind -/
structure Fly (P : Program) (w : World) (outer : List PySem.Env) (H : Hp) (s : Shared) (H' : Hp) (ea C : Addr) (s' : Shared) : Prop where
  os : s'.os = s.os
  bare : AllBare s'.gens
  un : Un (frs outer) [] H H' s.heap s'.heap
  ex : ∃ B a0, (∀ b o, s.heap.get? b = some o → H b = none → b ∉ frs outer → B.get? b = some o) ∧ (∀ b o, s.heap.get? b = some o → b ∉ frs outer → ∃ o', B.get? b = some o') ∧ HOk P w H' B ∧ Heap.FlyingW B outer ea (.ref C) a0 s'.heap
def CX1 (P : Program) (w : World) : CXT := fun outer H s E e s' => ∃ ea C H', e = .ref ea ∧ Fly P w outer H s H' ea C s' ∧ E (.ref C) none H'
theorem un_move {outer : List PySem.Env} {H H' : Hp} {h h1 h2 B : Heap} (u : Un (frs outer) [] H H' h h1) (kb : ∀ b o, h.get? b = some o → H b = none → b ∉ frs outer → B.get? b = some o) (th : ∀ b o, h.get? b = some o → b ∉ frs outer → ∃ o', B.get? b = some o')
    (st : B.StaysIn h2) (ff : h1.FunFrames B outer) (up : h1.UpToSlots h2) : Un (frs outer) [] H H' h h2 where
  keep := fun b o q n hb _ => st _ _ (kb b o q n hb)
  slot := fun b o q n hb hx => by
    obtain ⟨sl, e1⟩ := u.slot b o q n hb hx
    obtain ⟨_, o2, e2, nf⟩ := ff.mem hb
    rw [e1] at e2
    cases e2
    obtain ⟨sl2, e3⟩ := up b _ e1 nf
    exact ⟨sl2, e3⟩
  free := u.free
  there := fun b o q _ => by
    by_cases hb : b ∈ frs outer
    · obtain ⟨_, o2, e2, nf⟩ := ff.mem hb
      obtain ⟨sl, e3⟩ := up b _ e2 nf
      exact ⟨_, e3⟩
    · obtain ⟨o1, e1⟩ := th b o q hb
      exact ⟨_, st _ _ e1⟩
  tups := u.tups
  frzs := u.frzs
  tbls := u.tbls
/-- two reaches, the first over fewer frames: the others are younger -/
theorem un_comp {fs fs2 : List Addr} {H H1 H2 : Hp} {h h1 h2 : Heap} (a : Un fs [] H H1 h h1) (b : Un fs2 [] H1 H2 h1 h2) (yg : ∀ c ∈ fs2, c ∉ fs → h.objs.size ≤ c) : Un fs [] H H2 h h2 where
  keep := fun c ob q n hc hx => b.keep c ob (a.keep c ob q n hc hx) (a.free c ob q n hx) (fun z => absurd (Heap.lt_size q) (Nat.not_lt.mpr (yg c z hc))) hx
  slot := fun c ob q n hc hx => by
    obtain ⟨sl, e1⟩ := a.slot c ob q n hc hx
    obtain ⟨sl2, e2⟩ := b.any e1 (a.free c ob q n hx) hx
    exact ⟨sl2, e2⟩
  free := fun c ob q n hx => by
    obtain ⟨o1, e1⟩ := a.there c ob q hx
    exact b.free c o1 e1 (a.free c ob q n hx) hx
  there := fun c ob q hx => by
    obtain ⟨o1, e1⟩ := a.there c ob q hx
    exact b.there c o1 e1 hx
  tups := fun c xs q => b.tups c xs (a.tups c xs q)
  frzs := fun c ob xs q => b.frzs c ob xs (a.frzs c ob xs q)
  tbls := fun c ps q => by
    obtain ⟨m1, e1⟩ := a.tbls c ps q
    obtain ⟨m2, e2⟩ := b.tbls c _ e1
    exact ⟨m1 ++ m2, by rw [e2, Array.append_assoc]⟩
section
variable {X : Cx} {pins : List (Addr × Obj)} {σ : L2.St} {H H0 : Hp} {s s1 : Shared} {h : Heap} {ea C : Addr} {vs : List Value} {E : Value → Shared → Prop} {Q : Unit → Shared → Prop}
theorem frs_cons (hs : X.stack = X.env :: X.outer) (hf : X.env.frame = some X.env.locals) : frs X.stack = X.env.locals :: frs X.outer := by
  rw [hs]; unfold frs; rw [List.filterMap_cons, hf]
theorem young_frame (hs : X.stack = X.env :: X.outer) (hf : X.env.frame = some X.env.locals) (I : Inv X pins σ H s) : ∀ c ∈ frs X.stack, c ∉ frs X.outer → X.s₀.heap.objs.size ≤ c := fun c hc hn => by
  rw [frs_cons hs hf] at hc
  rcases List.mem_cons.mp hc with rfl | hc
  · exact I.ok.above
  · exact absurd hc hn
/-- what is tracked is no frame: it stands in the heap without the frames -/
theorem hok_hide (I : Inv X pins σ H s) : HOk X.prog X.w H (PySem.W.hideAll s.heap (frs X.stack)) := fun a o e =>
  (I.hok a o e).stay (fun b u hb q => PySem.W.hideAll_get _ q fun hm => by
    have n := I.stkFree b hm
    rcases hb with rfl | hb
    · rw [e] at n; cases n
    · rw [hb] at n; cases n) (fun _ q => q) fun _ _ q => q
theorem ff_hide (I : Inv X pins σ H s) : s.heap.FunFrames (PySem.W.hideAll s.heap (frs X.stack)) X.stack :=
  PySem.W.funFrames_hide I.stack fun env he a ha => List.mem_filterMap.mpr ⟨env, he, ha⟩
/-- a new exception leaves the frame in which it was made -/
theorem made_leaves (hs : X.stack = X.env :: X.outer) (hf : X.env.frame = some X.env.locals) (hx : X.ex = []) (I : Inv X pins σ H s) (m : Heap.MadeExcOf s.heap h ea (.ref C) vs)
    (q : ∀ s', Fly X.prog X.w X.outer X.H₀ X.s₀ H ea C s' → Q () s') : wpAny (model X.prog X.w) X.A (leaving X.env (.ref ea)) Q E { s with heap := h } := by
  have ff := ff_hide I
  have fr := I.ok.frames
  have yg := young_frame hs hf I
  have ho := hok_hide I
  have b0 : Un (frs X.outer) [] X.H₀ H X.s₀.heap s.heap := hx ▸ I.base
  have b1 : Un (frs X.outer) [] X.H₀ H X.s₀.heap h := b0.trans (Un.kept m.keeps)
  generalize hB : PySem.W.hideAll s.heap (frs X.stack) = B at ff ho
  have gb : ∀ b o, s.heap.get? b = some o → b ∉ frs X.stack → B.get? b = some o := fun b o e n => hB ▸ PySem.W.hideAll_get _ e n
  rw [hs] at ff fr
  refine wpAny_leaves_madeW (base := B) fr hf (fun b o e => PySem.W.of_hideAll (frs X.stack) (hB ▸ e)) ff m fun h' t fl tu nt up => q _ ?_
  have kb : ∀ b o, X.s₀.heap.get? b = some o → X.H₀ b = none → b ∉ frs X.outer → B.get? b = some o := fun b o e n hb =>
    gb b o (b0.keep b o e n hb (by simp)) fun z => absurd (Heap.lt_size e) (Nat.not_lt.mpr (yg b z hb))
  have th : ∀ b o, X.s₀.heap.get? b = some o → b ∉ frs X.outer → ∃ o', B.get? b = some o' := fun b o e hb => by
    obtain ⟨o1, e1⟩ := b0.there b o e (by simp)
    exact ⟨o1, gb b o1 e1 fun z => absurd (Heap.lt_size e) (Nat.not_lt.mpr (yg b z hb))⟩
  have ffo : h.FunFrames B X.outer := (ff.of_keeps fun b o e _ => ⟨o, m.keeps _ _ e, rfl⟩).2.2
  exact ⟨I.os, I.bare, un_move b1 kb th fl.1 ffo up, B, _, kb, th, ho, fl⟩
/-- a callee's exception leaves this frame too -/
theorem on_leaves (hs : X.stack = X.env :: X.outer) (hf : X.env.frame = some X.env.locals) (hx : X.ex = []) (I : Inv X pins σ H0 s) (F : Fly X.prog X.w X.stack H0 s H ea C s1)
    (q : ∀ s', Fly X.prog X.w X.outer X.H₀ X.s₀ H ea C s' → Q () s') : wpAny (model X.prog X.w) X.A (leaving X.env (.ref ea)) Q E s1 := by
  obtain ⟨os, bare, un, B, a0, kb, th, hb, fl⟩ := F
  have fr := I.ok.frames
  have yg := young_frame hs hf I
  have b0 : Un (frs X.outer) [] X.H₀ H0 X.s₀.heap s.heap := hx ▸ I.base
  have b1 := un_comp b0 un yg
  rw [hs] at fr fl
  refine wpAny_leaves_onW fr hf fl fun h' fl' up => q _ ?_
  have kb' : ∀ b o, X.s₀.heap.get? b = some o → X.H₀ b = none → b ∉ frs X.outer → B.get? b = some o := fun b o e n hn =>
    kb b o (b0.keep b o e n hn (by simp)) (b0.free b o e n (by simp)) fun z => absurd (Heap.lt_size e) (Nat.not_lt.mpr (yg b z hn))
  have th' : ∀ b o, X.s₀.heap.get? b = some o → b ∉ frs X.outer → ∃ o', B.get? b = some o' := fun b o e hn => by
    obtain ⟨o1, e1⟩ := b0.there b o e (by simp)
    exact th b o1 e1 fun z => absurd (Heap.lt_size e) (Nat.not_lt.mpr (yg b z hn))
  exact ⟨os.trans I.os, bare, un_move b1 kb' th' fl'.1 fl.2.2.1.2.2 up, B, a0, kb', th', hb, fl'⟩
end
end XL
set_option Elab.async false
set_option linter.all false
set_option maxRecDepth 100000
namespace XL
open PySem PySem.Spec PyProof.Rows L2
section
variable {X : Cx} {pins : List (Addr × Obj)} {σ : L2.St} {H H0 : Hp} {s s1 : Shared} {h : Heap} {ea C : Addr} {vs : List Value} {E : Value → Shared → Prop} {Q : Unit → Shared → Prop}
theorem Fly.ff {P : Program} {w : World} {outer : List PySem.Env} {s' : Shared} (F : Fly P w outer H0 s H ea C s') : ∃ B, s'.heap.FunFrames B outer := let ⟨B, _, _, _, _, fl⟩ := F.ex; ⟨B, fl.2.2.1⟩
/-- the handlers look at it: a callee's -/
theorem on_looks (hs : X.stack = X.env :: X.outer) (hf : X.env.frame = some X.env.locals) (I : Inv X pins σ H0 s) (F : Fly X.prog X.w X.stack H0 s H ea C s1)
    (q : ∀ s', Fly X.prog X.w X.stack H0 s H ea C s' → Q () s') : wpAny (model X.prog X.w) X.A (noteFrame (.ref ea) X.env) (fun _ s2 => wpAny (model X.prog X.w) X.A (setFlight (.ref ea) none) Q E s2) E s1 := by
  obtain ⟨os, bare, un, B, a0, kb, th, hb, fl⟩ := F
  have fr := I.ok.frames
  have fl0 := fl
  rw [hs] at fr fl
  refine wpAny_looks_onW fr hf fl fun h1 fl1 up1 => wpAny_landsW fl1 fun h2 fl2 up2 => q _ ?_
  rw [← hs] at fl2
  exact ⟨os, bare, un_move un kb th fl2.1 fl0.2.2.1 (up1.trans up2), B, a0, kb, th, hb, fl2⟩
/-- one that was made here -/
theorem made_looks (hs : X.stack = X.env :: X.outer) (hf : X.env.frame = some X.env.locals) (I : Inv X pins σ H s) (m : Heap.MadeExcOf s.heap h ea (.ref C) vs)
    (q : ∀ s', Fly X.prog X.w X.stack H s H ea C s' → Q () s') : wpAny (model X.prog X.w) X.A (noteFrame (.ref ea) X.env) (fun _ s2 => wpAny (model X.prog X.w) X.A (setFlight (.ref ea) none) Q E s2) E { s with heap := h } := by
  have ff := ff_hide I
  have fr := I.ok.frames
  have ho := hok_hide I
  obtain ⟨t, he, ht, hd⟩ := m.there
  generalize hB : PySem.W.hideAll s.heap (frs X.stack) = B at ff ho
  have gb : ∀ b o, s.heap.get? b = some o → b ∉ frs X.stack → B.get? b = some o := fun b o e n => hB ▸ PySem.W.hideAll_get _ e n
  have bs : ∀ b o, B.get? b = some o → s.heap.get? b = some o := fun b o e => PySem.W.of_hideAll (frs X.stack) (hB ▸ e)
  have en : B.get? ea = none := by
    cases z : B.get? ea with
    | none => rfl
    | some o => have := bs _ _ z; rw [m.new] at this; cases this
  have ff1 : h.FunFrames B X.stack := ff.of_keeps fun b o e _ => ⟨o, m.keeps _ _ e, rfl⟩
  have ff2 := ff1
  rw [hs] at fr ff2
  unfold noteFrame
  simp only [hf]
  refine wpAny_bind (wpAny_field he rfl rfl ?_)
  rw [if_neg (fun z => by cases z)]
  refine wpAny_entryW (a0 := .ref t) fr ff2 hf he (fun b o e => m.keeps _ _ (bs b o e)) en rfl (by show (1 : Nat) < 6; decide) rfl fun h1 N => ?_
  obtain ⟨n1, n2, n3, n4⟩ := N
  refine wpAny_landsW (base := B) (l := X.env :: X.outer) (L := X.env.locals) (cls := .ref C) (a0 := .ref t) ⟨n1, en, n2, n3⟩ fun h2 fl2 up2 => q _ ?_
  rw [← hs] at fl2
  refine ⟨rfl, I.bare, un_move (Un.kept m.keeps) (fun b o e _ hn => gb b o e hn) (fun b o e hn => ⟨o, gb b o e hn⟩) fl2.1 ff1 ?_, B, _, fun b o e _ hn => gb b o e hn, fun b o e hn => ⟨o, gb b o e hn⟩, ho, fl2⟩
  exact Heap.UpToSlots.trans n4 up2
theorem fly_again {P : Program} {w : World} {M : Model} {A : Around} {outer : List PySem.Env} (F : Fly P w outer H0 s H ea C s1) (q : ∀ s', Fly P w outer H0 s H ea C s' → Q () s') : wpAny M A (setFlight (.ref ea) none) Q E s1 := by
  obtain ⟨os, bare, un, B, a0, kb, th, hb, fl⟩ := F
  exact lands_againW fl fun h2 fl2 up2 => q _ ⟨os, bare, un_move un kb th fl2.1 fl.2.2.1 up2, B, a0, kb, th, hb, fl2⟩
/-- the state behind it, in the frame that holds it -/
theorem Fly.inv (F : Fly X.prog X.w X.stack H0 s H ea C s1) (I : Inv X pins σ H0 s) : Inv X pins σ H s1 := by
  obtain ⟨B, a0, kb, th, hb, fl⟩ := F.ex
  exact I.call' F.os F.un (hb.kept fl.1) F.bare fun b z => absurd z (by simp)
/-- an exception's object -/
def excO (a C : Addr) : HO := .ext fun h => ∃ o, h.get? a = some o ∧ o.cls = .ref C
theorem obj_there {P : Program} {w : World} {h : Heap} {a : Addr} : ∀ {o : HO}, ObjOk P w H h a o → ∃ u, h.get? a = some u
  | .lst _, ⟨_, _, _, _, e⟩ => ⟨_, e⟩
  | .tup _, ⟨_, _, _, _, e, _⟩ => ⟨_, e⟩
  | .dK _, ⟨_, _, _, _, _, _, _, e, _⟩ => ⟨_, e⟩
  | .dT _, ⟨_, _, _, _, _, _, _, e, _⟩ => ⟨_, e⟩
  | .set _ _, ⟨_, _, _, _, e, _⟩ => ⟨_, e⟩
  | .ins _ _ _, ⟨_, _, _, e, _⟩ => ⟨_, e⟩
  | .own _, ⟨_, e⟩ => ⟨_, e⟩
  | .xd _, ⟨_, ⟨_, _, _, e, _⟩, _⟩ => ⟨_, e⟩
  | .rng _ _, ⟨_, _, _, e⟩ => ⟨_, e⟩
  | .frz _ _, ⟨e, _⟩ => ⟨_, e⟩
  | .tbl _, e => ⟨_, e⟩
  | .met _ _, e => ⟨_, e⟩
  | .ext _, ⟨_, ⟨_, e⟩, _⟩ => ⟨_, e⟩
/-- it is tracked from now on -/
theorem Fly.track (F : Fly X.prog X.w X.stack H0 s H ea C s1) (I : Inv X pins σ H0 s) : H ea = none ∧ Inv X pins σ (upd H ea (excO ea C)) s1 := by
  obtain ⟨B, a0, kb, th, hb, fl⟩ := F.ex
  obtain ⟨oe, vs, he, hc, hd, _⟩ := fl.first
  have hn : H ea = none := by
    cases z : H ea with
    | none => rfl
    | some o =>
      obtain ⟨u, e⟩ := obj_there (hb ea o z)
      rw [fl.2.1] at e
      cases e
  have ne : ∀ b u, H b = some u → b ≠ ea := fun b u z q => by rw [q, hn] at z; cases z
  have hh := hb.kept fl.1
  have un := F.un
  refine ⟨hn, I.call' F.os ⟨un.keep, un.slot, fun b o q n hx => ?_, un.there, fun b xs q => ?_, fun b o u q => ?_, fun b ps q => ?_⟩ (fun a o e => ?_) F.bare fun b z => absurd z (by simp)⟩
  · have hbe : b ≠ ea := fun z => by
      subst z
      by_cases hm : b ∈ frs X.stack
      · obtain ⟨_, o2, e2, nf⟩ := fl.2.2.1.mem hm
        rw [he] at e2
        cases e2
        exact nf _ hd
      · have := kb b o q n hm
        rw [fl.2.1] at this
        cases this
    rw [upd_ne hbe]
    exact un.free b o q n hx
  · have z := un.tups b xs q
    rw [upd_ne (ne _ _ z)]; exact z
  · have z := un.frzs b o u q
    rw [upd_ne (ne _ _ z)]; exact z
  · obtain ⟨more, z⟩ := un.tbls b ps q
    exact ⟨more, by rw [upd_ne (ne _ _ z)]; exact z⟩
  · by_cases hae : a = ea
    · subst hae
      rw [upd_same] at e
      cases e
      exact ⟨⟨oe, he, hc⟩, ⟨oe, he⟩, fun h1 h2 ⟨o, e1, e2⟩ k => ⟨o, k _ e1, e2⟩⟩
    · rw [upd_ne hae] at e
      exact (hh a o e).stay (fun b u _ q => q) (fun b q => by rw [upd_ne (ne _ _ q)]; exact q) fun b xs q => by rw [upd_ne (ne _ _ q)]; exact q
/-- an exception of the class at C flies in this frame: made here, or a callee's -/
def FliesIn (X : Cx) (σ : L2.St) (H : Hp) (ea C : Addr) (s' : Shared) : Prop :=
  (∃ pins s h vs, Inv X pins σ H s ∧ Heap.MadeExcOf s.heap h ea (.ref C) vs ∧ s' = { s with heap := h }) ∨ ∃ pins s H0, Inv X pins σ H0 s ∧ Fly X.prog X.w X.stack H0 s H ea C s'
/-- it is what the context wants -/
def XW (X : Cx) (C : Addr) (σ : L2.St) (H : Hp) : Prop := ∀ ea s', FliesIn X σ H ea C s' → X.xe (.ref ea) s'
end
end XL
set_option Elab.async false
set_option linter.all false
set_option maxRecDepth 100000
namespace DL
open PySem PySem.Spec PyProof.Rows L2
abbrev St := L2.St
inductive D where
  | non | bl (b : Bool) | int (i : Int) | str (x : Str) | tup (ds : List D) | lst (ds : List D)
  /-- a list that its slot alone knows: it may be changed -/
  | own (ds : List D)
  /-- the script -/
  | scr (ns : List Int)
  | obj (C : Addr) (fs : List Str) (ds : List D)
  /-- an exception of the class at C -/
  | exc (C : Addr)
mutual
def Rep (K : PySem.W.Frag) (H : Hp) : D → V → Prop
  | .non, v => v = .non
  | .bl b, v => v = .bl b
  | .int i, v => v = .int i
  | .str x, v => v = .str x
  | .tup ds, v => ∃ a xs, v = .ref a ∧ SqT K H a xs ∧ RepL K H ds xs
  | .lst ds, v => ∃ a xs, v = .ref a ∧ H a = some (.lst xs) ∧ RepL K H ds xs
  | .own _, _ => False
  | .scr ns, v => ∃ a, v = .ref a ∧ SqL K H a (ns.map V.int)
  | .obj C fs ds, v => ∃ a dx xs, v = .ref a ∧ H a = some (.ins C dx (fs.zip xs)) ∧ fs.length = xs.length ∧ RepL K H ds xs
  | .exc C, v => ∃ a, v = .ref a ∧ H a = some (XL.excO a C)
def RepL (K : PySem.W.Frag) (H : Hp) : List D → List V → Prop
  | [], vs => vs = []
  | d :: ds, vs => ∃ v r, vs = v :: r ∧ Rep K H d v ∧ RepL K H ds r
end
theorem sqt_mono {K : PySem.W.Frag} {H H' : Hp} {a : Addr} {xs : List V} (e : Same H H') (h : SqT K H a xs) : SqT K H' a xs := by
  rcases h with (h | ⟨o, h⟩) | h
  · exact .inl (.inl (e _ _ h))
  · exact .inl (.inr ⟨o, e _ _ h⟩)
  · exact .inr h
mutual
theorem Rep.mono {K : PySem.W.Frag} {H H' : Hp} (e : Same H H') : ∀ (d : D) (v : V), Rep K H d v → Rep K H' d v
  | .non, _, h => h
  | .bl _, _, h => h
  | .int _, _, h => h
  | .str _, _, h => h
  | .tup ds, _, ⟨a, xs, e1, e2, r⟩ => ⟨a, xs, e1, sqt_mono e e2, RepL.mono e ds xs r⟩
  | .lst ds, _, ⟨a, xs, e1, e2, r⟩ => ⟨a, xs, e1, e _ _ e2, RepL.mono e ds xs r⟩
  | .own _, _, h => h
  | .scr _, _, ⟨a, e1, e2⟩ => ⟨a, e1, e.seq e2⟩
  | .obj _ _ ds, _, ⟨a, dx, xs, e1, e2, l, r⟩ => ⟨a, dx, xs, e1, e _ _ e2, l, RepL.mono e ds xs r⟩
  | .exc _, _, ⟨a, e1, e2⟩ => ⟨a, e1, e _ _ e2⟩
theorem RepL.mono {K : PySem.W.Frag} {H H' : Hp} (e : Same H H') : ∀ (ds : List D) (vs : List V), RepL K H ds vs → RepL K H' ds vs
  | [], _, h => h
  | d :: ds, _, ⟨v, r, e1, h, t⟩ => ⟨v, r, e1, Rep.mono e d v h, RepL.mono e ds r t⟩
end
theorem RepL.length {K : PySem.W.Frag} {H : Hp} : ∀ {ds : List D} {vs : List V}, RepL K H ds vs → ds.length = vs.length
  | [], _, h => by subst h; rfl
  | d :: ds, _, ⟨v, r, e1, h, t⟩ => by subst e1; simp [RepL.length t]
theorem RepL.get {K : PySem.W.Frag} {H : Hp} : ∀ {ds : List D} {vs : List V} {i : Nat} {d : D}, RepL K H ds vs → ds[i]? = some d → ∃ v, vs[i]? = some v ∧ Rep K H d v
  | [], _, i, d, h, e => by simp at e
  | d' :: ds, _, 0, d, ⟨v, r, e1, h, t⟩, e => by subst e1; simp at e; subst e; exact ⟨v, by simp, h⟩
  | d' :: ds, _, i + 1, d, ⟨v, r, e1, h, t⟩, e => by
    subst e1
    obtain ⟨w, ew, rw'⟩ := RepL.get (i := i) t (by simpa using e)
    exact ⟨w, by simpa using ew, rw'⟩
theorem RepL.append {K : PySem.W.Frag} {H : Hp} : ∀ {ds es : List D} {vs us : List V}, RepL K H ds vs → RepL K H es us → RepL K H (ds ++ es) (vs ++ us)
  | [], _, _, _, h, g => by subst h; exact g
  | d :: ds, es, _, us, ⟨v, r, e1, h, t⟩, g => by subst e1; exact ⟨v, r ++ us, rfl, h, RepL.append t g⟩
theorem RepL.take {K : PySem.W.Frag} {H : Hp} : ∀ (n : Nat) {ds : List D} {vs : List V}, RepL K H ds vs → RepL K H (ds.take n) (vs.take n)
  | 0, _, _, _ => by simp [RepL]
  | n + 1, [], _, h => by subst h; simp [RepL]
  | n + 1, d :: ds, _, ⟨v, r, e1, h, t⟩ => by subst e1; exact ⟨v, r.take n, rfl, h, RepL.take n t⟩
theorem RepL.drop {K : PySem.W.Frag} {H : Hp} : ∀ (n : Nat) {ds : List D} {vs : List V}, RepL K H ds vs → RepL K H (ds.drop n) (vs.drop n)
  | 0, _, _, h => h
  | n + 1, [], _, h => by subst h; simp [RepL]
  | n + 1, d :: ds, _, ⟨v, r, e1, h, t⟩ => by subst e1; exact RepL.drop n t
/-- G, and what came between H and H' -/
def ext (G H H' : Hp) : Hp := fun b => match H b with | none => H' b | some _ => G b
section
variable {G G' H H1 H2 H' : Hp}
theorem ext_none {b : Addr} (h : H b = none) : ext G H H' b = H' b := by unfold ext; rw [h]
theorem ext_some {b : Addr} {o : HO} (h : H b = some o) : ext G H H' b = G b := by unfold ext; rw [h]
theorem ext_same (g : Same G H) : Same G (ext G H H') := fun b o e => by rw [ext_some (g b o e)]; exact e
theorem ext_sub (g : Same G H) (h : Same H H') : Same (ext G H H') H' := fun b o e => by
  cases q : H b with
  | none => rw [ext_none q] at e; exact e
  | some u => rw [ext_some q] at e; exact h _ _ (g _ _ e)
theorem ext_ext (h1 : Same H H1) (h2 : Same H1 H2) : ext (ext G H H1) H1 H2 = ext G H H2 := by
  funext b
  cases q : H b with
  | none =>
    rw [ext_none q]
    cases q1 : H1 b with
    | none => rw [ext_none q1]
    | some u => rw [ext_some q1, ext_none q, q1, h2 _ _ q1]
  | some u => rw [ext_some q, ext_some (h1 _ _ q), ext_some q]
theorem ext_refl (g : Same G H) : ext G H H = G := by
  funext b
  cases q : H b with
  | none =>
    rw [ext_none q, q]
    cases q1 : G b with
    | none => rfl
    | some u => rw [g _ _ q1] at q; cases q
  | some u => rw [ext_some q]
theorem ext_mono (g : Same G G') : Same (ext G H H') (ext G' H H') := fun b o e => by
  cases q : H b with
  | none => rw [ext_none q] at e ⊢; exact e
  | some u => rw [ext_some q] at e ⊢; exact g _ _ e
end
abbrev Env := List (Option D)
def getE (ρ : Env) (i : Nat) : Option D := match ρ[i]? with
  | some (some (.own _)) => none
  | some o => o
  | none => none
def RepSt (K : PySem.W.Frag) (G : Hp) (σ : St) (ρ : Env) : Prop := ∀ i d, getE ρ i = some d → ∃ v, σ[i]? = some (some v) ∧ Rep K G d v
theorem RepSt.mono {K : PySem.W.Frag} {G G' : Hp} {σ : St} {ρ : Env} (e : Same G G') (h : RepSt K G σ ρ) : RepSt K G' σ ρ := fun i d q => by
  obtain ⟨v, e1, r⟩ := h i d q
  exact ⟨v, e1, Rep.mono e _ _ r⟩
def tD (K : PySem.W.Frag) (f : Env → Option D) : TE := fun σ H Q => ∃ G ρ d, Same G H ∧ RepSt K G σ ρ ∧ f ρ = some d ∧ ∀ v H', Same H H' → Rep K (ext G H H') d v → Q v H'
def PEd (X : Cx) (e : Expr) (f : Env → Option D) : Prop := PE X e (tD X.K f)
def tDT (K : PySem.W.Frag) (f : Env → Option Bool) : TT := fun σ H Q => ∃ G ρ b, Same G H ∧ RepSt K G σ ρ ∧ f ρ = some b ∧ ∀ H', Same H H' → Q b H'
def PTd (X : Cx) (e : Expr) (f : Env → Option Bool) : Prop := PT X e (tDT X.K f)
def PWd (X : Cx) (e : Expr) (f : Env → Option Bool) : Prop := PW X e (tDT X.K f)
def tDA (K : PySem.W.Frag) (f : Env → Option (List D)) : TA := fun σ H Q => ∃ G ρ ds, Same G H ∧ RepSt K G σ ρ ∧ f ρ = some ds ∧ ∀ vs H', Same H H' → RepL K (ext G H H') ds vs → Q vs H'
def PAd (X : Cx) (es : List Expr) (f : Env → Option (List D)) : Prop := PA X es (tDA X.K f)
theorem peI {X : Cx} {e : Expr} {t t' : TE} (h : PE X e t) (i : ∀ σ H Q, t' σ H Q → t σ H Q) : PE X e t' := fun pins s σ H Q I w => h pins s σ H Q I (i σ H Q w)
theorem ptI {X : Cx} {e : Expr} {t t' : TT} (h : PT X e t) (i : ∀ σ H Q, t' σ H Q → t σ H Q) : PT X e t' := fun pins s σ H Q I w => h pins s σ H Q I (i σ H Q w)
theorem pwI {X : Cx} {e : Expr} {t t' : TT} (h : PW X e t) (i : ∀ σ H Q, t' σ H Q → t σ H Q) : PW X e t' := fun wh pins s σ H Q I w => h wh pins s σ H Q I (i σ H Q w)
theorem paI {X : Cx} {e : List Expr} {t t' : TA} (h : PA X e t) (i : ∀ σ H Q, t' σ H Q → t σ H Q) : PA X e t' := fun pos pins s σ H Q I w => h pos pins s σ H Q I (i σ H Q w)
section
variable {K : PySem.W.Frag} {σ : St} {ρ : Env} {G H H1 H2 : Hp}
/-- the end of an expression that lays nothing -/
theorem fin0 {d : D} {v : V} {Q : VK} (g : Same G H) (q : ∀ v H', Same H H' → Rep K (ext G H H') d v → Q v H') (r : Rep K G d v) : Q v H := q v H (Same.refl H) (by rw [ext_refl g]; exact r)
/-- the wish behind a first part -/
theorem wish1 {d : D} {Q : VK} (h : Same H H1) (q : ∀ v H', Same H H' → Rep K (ext G H H') d v → Q v H') : ∀ v H', Same H1 H' → Rep K (ext (ext G H H1) H1 H') d v → Q v H' :=
  fun v H' s r => q v H' (h.trans s) (by rw [ext_ext h s] at r; exact r)
/-- one part, then the rest over it -/
theorem one_part {f : Env → Option D} {d : D} (g : Same G H) (R : RepSt K G σ ρ) (e : f ρ = some d) {Q : VK}
    (q : ∀ v H1, Same H H1 → Same (ext G H H1) H1 → RepSt K (ext G H H1) σ ρ → Rep K (ext G H H1) d v → Q v H1) : tD K f σ H Q :=
  ⟨G, ρ, d, g, R, e, fun v H1 s r => q v H1 s (ext_sub g s) (R.mono (ext_same g)) r⟩
end
theorem bind_some {α β : Type} {x : Option α} {f : α → Option β} {b : β} (h : x.bind f = some b) : ∃ a, x = some a ∧ f a = some b := Option.bind_eq_some_iff.mp h
section
variable {X : Cx} {a b c : Expr} {fa fb fc : Env → Option D} {pos : Pos}
theorem pd_var (i : Nat) {x : Str} (hN : X.N[i]? = some x := by rfl) (hv : Vis X.env.scope x := by first | exact Or.inl rfl | exact Or.inr (Or.inl rfl) | exact Or.inr (Or.inr rfl)) (hd : (x == ("__debug__" : Str)) = false := by decide)
    (hcd : (x == ("__classdict__" : Str)) = false := by decide) : PEd X (.Name x pos) (fun ρ => getE ρ i) :=
  peI (pe_var hN hv hd hcd) fun σ H Q zz1 => by
    obtain ⟨G, ρ, d, g, R, e, q⟩ := zz1
    obtain ⟨v, ev, r⟩ := R i d e
    exact ⟨v, ev, fin0 g q r⟩
theorem pd_int {i j} : PEd X (.Constant (.int i) j pos) (fun _ => some (.int i)) := peI pe_int fun σ H Q zz2 => by obtain ⟨G, ρ, d, g, R, e, q⟩ := zz2; cases e; exact fin0 g q rfl
theorem pd_bl {i j} : PEd X (.Constant (.bool i) j pos) (fun _ => some (.bl i)) := peI pe_bl fun σ H Q zz3 => by obtain ⟨G, ρ, d, g, R, e, q⟩ := zz3; cases e; exact fin0 g q rfl
theorem pd_non {j} : PEd X (.Constant .none j pos) (fun _ => some .non) := peI pe_non fun σ H Q zz4 => by obtain ⟨G, ρ, d, g, R, e, q⟩ := zz4; cases e; exact fin0 g q rfl
theorem pd_str {x j} : PEd X (.Constant (.str x) j pos) (fun _ => some (.str x)) := peI pe_str fun σ H Q zz5 => by obtain ⟨G, ρ, d, g, R, e, q⟩ := zz5; cases e; exact fin0 g q rfl
/-- a global value of the module -/
theorem pd_glob {x : Str} {d : D} {v : V} {u : Value} (hm : X.mg x = some u) (r : RelV v u) (hr : ∀ G, Rep X.K G d v) (hg : Gl X x := by rfl) (hd : (x == ("__debug__" : Str)) = false := by decide) : PEd X (.Name x pos) (fun _ => some d) :=
  peI (pe_glob hg hm r hd) fun σ H Q zz6 => by obtain ⟨G, ρ, d', g, R, e, q⟩ := zz6; cases e; exact fin0 g q (hr G)
/-- two parts and an operation -/
theorem pd2 {K : PySem.W.Frag} {r : R2} {op2 : D → D → Option D}
    (hop : ∀ (G H : Hp) (x y d : D) (vx vy : V) (Q : VK), Same G H → Rep K G x vx → Rep K G y vy → op2 x y = some d → (∀ v H', Same H H' → Rep K (ext G H H') d v → Q v H') → r vx vy H Q) :
    ∀ σ H Q, tD K (fun ρ => (fa ρ).bind fun x => (fb ρ).bind fun y => op2 x y) σ H Q → tOp r (tD K fa) (tD K fb) σ H Q := fun σ H Q zz7 => by
  obtain ⟨G, ρ, d, g, R, e, q⟩ := zz7
  obtain ⟨x, ex, e⟩ := bind_some e
  obtain ⟨y, ey, e⟩ := bind_some e
  refine one_part g R ex fun vx H1 s1 g1 R1 r1 => one_part g1 R1 ey fun vy H2 s2 g2 R2 r2 => ?_
  rw [ext_ext s1 s2] at g2 R2 r2
  have r1' : Rep K (ext G H H2) x vx := by rw [← ext_ext s1 s2]; exact Rep.mono (ext_same g1) _ _ r1
  exact hop _ _ x y d vx vy Q g2 r1' r2 e (wish1 (s1.trans s2) q)
theorem pd1 {K : PySem.W.Frag} {r : V → Hp → VK → Prop} {op1 : D → Option D}
    (hop : ∀ (G H : Hp) (x d : D) (vx : V) (Q : VK), Same G H → Rep K G x vx → op1 x = some d → (∀ v H', Same H H' → Rep K (ext G H H') d v → Q v H') → r vx H Q) :
    ∀ σ H Q, tD K (fun ρ => (fa ρ).bind op1) σ H Q → tUn r (tD K fa) σ H Q := fun σ H Q zz8 => by
  obtain ⟨G, ρ, d, g, R, e, q⟩ := zz8
  obtain ⟨x, ex, e⟩ := bind_some e
  exact one_part g R ex fun vx H1 s1 g1 R1 r1 => hop _ _ x d vx Q g1 r1 e (wish1 s1 q)
def addD : D → D → Option D
  | .int i, .int j => some (.int (i + j))
  | .lst xs, .lst ys => if xs.length + ys.length ≤ 1000 then some (.lst (xs ++ ys)) else none
  | _, _ => none
def subD : D → D → Option D | .int i, .int j => some (.int (i - j)) | _, _ => none
instance (i j : Int) : Decidable (IntMulOk i j) := inferInstanceAs (Decidable (¬ _))
def mulD : D → D → Option D | .int i, .int j => if IntMulOk i j then some (.int (i * j)) else none | _, _ => none
def fdivD : D → D → Option D | .int i, .int j => if j ≠ 0 ∧ j.natAbs.log2 < 9000 then some (.int (i.fdiv j)) else none | _, _ => none
def modD : D → D → Option D | .int i, .int j => if j ≠ 0 then some (.int (i.fmod j)) else none | _, _ => none
def powD : D → D → Option D | .int i, .int j => if 0 ≤ j ∧ j ≤ 1000000 ∧ i.natAbs < 2 ^ 64 then some (.int (i ^ j.toNat)) else none | _, _ => none
def negD : D → Option D | .int i => some (.int (-i)) | _ => none
theorem op_mulW : OpR X (binaryOp .Mult) (rI (fun i j => IntMulOk i j) fun i j => .int (i * j)) := opI fun _ _ _ _ _ _ _ hc q => mul_int q hc
theorem op_fdivW : OpR X (binaryOp .FloorDiv) (rI (fun _ j => j ≠ 0 ∧ j.natAbs.log2 < 9000) fun i j => .int (i.fdiv j)) := opI fun _ _ _ _ _ _ _ hc q => floordiv_int hc.1 q (.inl (PyProof.noPylong_of_log2 hc.2))
theorem pd_sub (ha : PEd X a fa) (hb : PEd X b fb) : PEd X (.BinOp a .Sub b pos) (fun ρ => (fa ρ).bind fun x => (fb ρ).bind fun y => subD x y) :=
  peI (pe_op op_sub ha hb) (pd2 fun G H x y d vx vy Q g rx ry e q => by
    unfold subD at e; split at e
    · cases e; cases rx; cases ry; exact ⟨_, _, rfl, rfl, fin0 g q rfl⟩
    · cases e)
theorem pd_mul (ha : PEd X a fa) (hb : PEd X b fb) : PEd X (.BinOp a .Mult b pos) (fun ρ => (fa ρ).bind fun x => (fb ρ).bind fun y => mulD x y) :=
  peI (pe_op op_mulW ha hb) (pd2 fun G H x y d vx vy Q g rx ry e q => by
    unfold mulD at e; split at e
    · split at e
      · rename_i h; cases e; cases rx; cases ry; exact ⟨_, _, rfl, rfl, h, fin0 g q rfl⟩
      · cases e
    · cases e)
theorem pd_fdiv (ha : PEd X a fa) (hb : PEd X b fb) : PEd X (.BinOp a .FloorDiv b pos) (fun ρ => (fa ρ).bind fun x => (fb ρ).bind fun y => fdivD x y) :=
  peI (pe_op op_fdivW ha hb) (pd2 fun G H x y d vx vy Q g rx ry e q => by
    unfold fdivD at e; split at e
    · split at e
      · rename_i h; cases e; cases rx; cases ry; exact ⟨_, _, rfl, rfl, h, fin0 g q rfl⟩
      · cases e
    · cases e)
theorem pd_mod (ha : PEd X a fa) (hb : PEd X b fb) : PEd X (.BinOp a .Mod b pos) (fun ρ => (fa ρ).bind fun x => (fb ρ).bind fun y => modD x y) :=
  peI (pe_op op_modN ha hb) (pd2 fun G H x y d vx vy Q g rx ry e q => by
    unfold modD at e; split at e
    · split at e
      · rename_i h; cases e; cases rx; cases ry; exact ⟨_, _, rfl, rfl, h, fin0 g q rfl⟩
      · cases e
    · cases e)
theorem pd_pow (ha : PEd X a fa) (hb : PEd X b fb) : PEd X (.BinOp a .Pow b pos) (fun ρ => (fa ρ).bind fun x => (fb ρ).bind fun y => powD x y) :=
  peI (pe_op op_pow ha hb) (pd2 fun G H x y d vx vy Q g rx ry e q => by
    unfold powD at e; split at e
    · split at e
      · rename_i h; cases e; cases rx; cases ry; exact ⟨_, _, rfl, rfl, h, fin0 g q rfl⟩
      · cases e
    · cases e)
theorem pd_neg (ha : PEd X a fa) : PEd X (.UnaryOp .USub a pos) (fun ρ => (fa ρ).bind negD) :=
  peI (pe_un un_neg ha) (pd1 fun G H x d vx Q g rx e q => by
    unfold negD at e; split at e
    · cases e; cases rx; exact ⟨_, rfl, fin0 g q rfl⟩
    · cases e)
def ixD : D → D → Option D
  | .tup ds, .int i => atI ds i
  | .lst ds, .int i => atI ds i
  | .scr ns, .int i => (atI ns i).map .int
  | _, _ => none
theorem atI_rep {K : PySem.W.Frag} {G : Hp} {ds : List D} {xs : List V} {i : Int} {d : D} (r : RepL K G ds xs) (e : atI ds i = some d) : ∃ v, atI xs i = some v ∧ Rep K G d v := by
  unfold atI at *
  obtain ⟨j, ej, e⟩ := bind_some e
  rw [r.length] at ej
  obtain ⟨v, ev, rv⟩ := r.get e
  exact ⟨v, by rw [ej]; exact ev, rv⟩
theorem atI_map {α β : Type} (f : α → β) (xs : List α) (i : Int) : atI (xs.map f) i = (atI xs i).map f := by
  unfold atI
  rw [List.length_map]
  cases ixN xs.length i with
  | none => rfl
  | some j => simp
theorem pd_ix (ha : PEd X a fa) (hb : PEd X b fb) (hs : PlainIx b := by exact fun _ _ => rfl) : PEd X (.Subscript a b pos) (fun ρ => (fa ρ).bind fun x => (fb ρ).bind fun y => ixD x y) :=
  peI (pe_ix (ix_list.or ix_tup) ha hb hs) (pd2 fun G H x y d vx vy Q g rx ry e q => by
    unfold ixD at e; split at e
    · rename_i ds i
      obtain ⟨a, xs, rfl, h, r⟩ := rx
      cases ry
      obtain ⟨v, ev, rv⟩ := atI_rep r e
      exact .inr ⟨a, xs, i, v, rfl, rfl, sqt_mono g h, ev, fin0 g q rv⟩
    · rename_i ds i
      obtain ⟨a, xs, rfl, h, r⟩ := rx
      cases ry
      obtain ⟨v, ev, rv⟩ := atI_rep r e
      exact .inl ⟨a, xs, i, v, rfl, rfl, SqL.of (g _ _ h), ev, fin0 g q rv⟩
    · rename_i ns i
      obtain ⟨a, rfl, h⟩ := rx
      cases ry
      cases q1 : atI ns i with
      | none => rw [q1] at e; cases e
      | some n =>
        rw [q1] at e
        cases e
        exact .inl ⟨a, _, i, .int n, rfl, rfl, g.seq h, by rw [atI_map, q1]; rfl, fin0 g q rfl⟩
    · cases e)
def ltD : D → D → Option D | .int i, .int j => some (.bl (decide (i < j))) | _, _ => none
def leD : D → D → Option D | .int i, .int j => some (.bl (decide (i ≤ j))) | _, _ => none
def gtD : D → D → Option D | .int i, .int j => some (.bl (decide (j < i))) | _, _ => none
def geD : D → D → Option D | .int i, .int j => some (.bl (decide (j ≤ i))) | _, _ => none
/-- a comparison by its function -/
structure CmpR (X : Cx) (op : CmpOp) (op2 : D → D → Option D) where
  r : R2
  ok : OpR X (compareOp op) r
  rep : ∀ (G H : Hp) (x y d : D) (vx vy : V) (Q : VK), Same G H → Rep X.K G x vx → Rep X.K G y vy → op2 x y = some d → (∀ v H', Same H H' → Rep X.K (ext G H H') d v → Q v H') → r vx vy H Q
def c_lt : CmpR X .Lt ltD := ⟨_, op_lt, fun G H x y d vx vy Q g rx ry e q => by
    unfold ltD at e; split at e
    · cases e; cases rx; cases ry; exact ⟨_, _, rfl, rfl, fin0 g q rfl⟩
    · cases e⟩
def c_le : CmpR X .LtE leD := ⟨_, op_le, fun G H x y d vx vy Q g rx ry e q => by
    unfold leD at e; split at e
    · cases e; cases rx; cases ry; exact ⟨_, _, rfl, rfl, fin0 g q rfl⟩
    · cases e⟩
def c_gt : CmpR X .Gt gtD := ⟨_, op_gt, fun G H x y d vx vy Q g rx ry e q => by
    unfold gtD at e; split at e
    · cases e; cases rx; cases ry; exact ⟨_, _, rfl, rfl, fin0 g q rfl⟩
    · cases e⟩
def c_ge : CmpR X .GtE geD := ⟨_, op_ge, fun G H x y d vx vy Q g rx ry e q => by
    unfold geD at e; split at e
    · cases e; cases rx; cases ry; exact ⟨_, _, rfl, rfl, fin0 g q rfl⟩
    · cases e⟩
mutual
def D.py : D → PyData
  | .non => .none
  | .bl b => .bool b
  | .int i => .int i
  | .str x => .str x
  | .tup ds => .tuple (D.pys ds)
  | .lst ds => .list (D.pys ds)
  | .own _ => .none
  | .scr ns => .list (ns.map PyData.int)
  | .obj _ _ _ => .none
  | .exc _ => .none
def D.pys : List D → List PyData
  | [] => []
  | d :: ds => D.py d :: D.pys ds
end
mutual
/-- ints, tuples, lists -/
def D.pl : D → Bool
  | .int _ => true
  | .tup ds => D.pls ds
  | .lst ds => D.pls ds
  | _ => false
def D.pls : List D → Bool
  | [] => true
  | d :: ds => D.pl d && D.pls ds
end
mutual
theorem rep_reads {P : Program} {w : World} {K : PySem.W.Frag} {H : Hp} {h : Heap} (X : K.In h) (ok : HOk P w H h) : ∀ (d : D) (v : V) (u : Value), d.pl = true → Rep K H d v → RelV v u → ∃ as, Reads h u d.py as
  | .int i, _, u, _, e, r => by cases e; obtain ⟨t, rfl⟩ := r; exact ⟨_, .int i t⟩
  | .tup ds, _, u, p, ⟨a, xs, e, h1, r1⟩, r => by
    subst e
    cases r
    rcases h1 with h1 | ⟨o, its, n, hk, hc, hs, hz, rv⟩
    · obtain ⟨z, its, rv, ob, ho, hc, n, hd⟩ := h1.ok ok
      obtain ⟨as, q⟩ := repl_reads X ok ds xs its (by simpa [D.pl] using p) r1 rv
      exact ⟨as, .tuple ho hc hd (by simpa using q)⟩
    · obtain ⟨as, q⟩ := repl_reads X ok ds xs its.toList (by simpa [D.pl] using p) r1 rv
      exact ⟨as, .tuple (X a o hk) hc hs q⟩
  | .lst ds, _, u, p, ⟨a, xs, e, h1, r1⟩, r => by
    subst e
    cases r
    obtain ⟨z, its, n, rv, ho⟩ := ok a _ h1
    obtain ⟨as, q⟩ := repl_reads X ok ds xs its (by simpa [D.pl] using p) r1 rv
    exact ⟨_, .list ho rfl rfl (by simpa using q)⟩
  | .non, _, _, p, _, _ => by cases p
  | .bl _, _, _, p, _, _ => by cases p
  | .str _, _, _, p, _, _ => by cases p
  | .own _, _, _, p, _, _ => by cases p
  | .scr _, _, _, p, _, _ => by cases p
  | .obj _ _ _, _, _, p, _, _ => by cases p
theorem repl_reads {P : Program} {w : World} {K : PySem.W.Frag} {H : Hp} {h : Heap} (X : K.In h) (ok : HOk P w H h) : ∀ (ds : List D) (vs : List V) (us : List Value), D.pls ds = true → RepL K H ds vs → Vals vs us → ∃ as, ReadsAll h us (D.pys ds) as
  | [], _, us, _, e, r => by cases e; cases r; exact ⟨_, .nil⟩
  | d :: ds, _, us, p, ⟨v, vr, e, h1, r1⟩, r => by
    subst e
    cases r with
    | cons q t =>
      have p' : D.pl d = true ∧ D.pls ds = true := by simpa [D.pls] using p
      obtain ⟨as, z⟩ := rep_reads X ok d v _ p'.1 h1 q
      obtain ⟨bs, z'⟩ := repl_reads X ok ds vr _ p'.2 r1 t
      exact ⟨_, .cons z z'⟩
end
def shp (d : D) : Bool := d.pl && SeqAt.shaped d.py
def eqP : D → D → Option D
  | .int i, .int j => some (.bl (decide (i = j)))
  | x, y => if shp x = true ∧ shp y = true then some (.bl (PyData.eqv x.py y.py)) else none
def neP : D → D → Option D
  | .int i, .int j => some (.bl (!decide (i = j)))
  | x, y => if shp x = true ∧ shp y = true then some (.bl (!PyData.eqv x.py y.py)) else none
def rEqP (K : PySem.W.Frag) (neg : Bool) : R2 := fun x y H Q => ∃ d e, Rep K H d x ∧ Rep K H e y ∧ shp d = true ∧ shp e = true ∧ Q (.bl (if neg then !PyData.eqv d.py e.py else PyData.eqv d.py e.py)) H
theorem op_eqP (hu : X.A.units + 64 < cLine) : OpR X (compareOp .Eq) (rEqP X.K false) := by
  intro pins s σ H x y v u Q I rx ry h
  obtain ⟨d, e, r1, r2, p1, p2, q⟩ := h
  unfold shp at p1 p2
  rw [Bool.and_eq_true] at p1 p2
  obtain ⟨as, z1⟩ := rep_reads I.kIn I.hok d x v p1.1 r1 rx
  obtain ⟨bs, z2⟩ := rep_reads I.kIn I.hok e y u p2.1 r2 ry
  exact eq_dataH z1 z2 p1.2 p2.2 hu ⟨.bl _, H, I, rfl, q⟩
theorem op_neP (hu : X.A.units + 64 < cLine) : OpR X (compareOp .NotEq) (rEqP X.K true) := by
  intro pins s σ H x y v u Q I rx ry h
  obtain ⟨d, e, r1, r2, p1, p2, q⟩ := h
  unfold shp at p1 p2
  rw [Bool.and_eq_true] at p1 p2
  obtain ⟨as, z1⟩ := rep_reads I.kIn I.hok d x v p1.1 r1 rx
  obtain ⟨bs, z2⟩ := rep_reads I.kIn I.hok e y u p2.1 r2 ry
  exact ne_dataH z1 z2 p1.2 p2.2 hu ⟨.bl _, H, I, rfl, q⟩
theorem shp_int (i : Int) : shp (.int i) = true := by simp [shp, D.pl, D.py, SeqAt.shaped, PyData.canLay0, PyData.depth]
def c_eq (hu : X.A.units + 64 < cLine) : CmpR X .Eq eqP := ⟨_, op_eqP hu, fun G H x y d vx vy Q g rx ry e q => by
    unfold eqP at e; split at e
    · rename_i i j; cases e
      refine ⟨_, _, Rep.mono g _ _ rx, Rep.mono g _ _ ry, shp_int _, shp_int _, ?_⟩
      have z : PyData.eqv (D.py (.int i)) (D.py (.int j)) = decide (i = j) := by simp [D.py, PyData.eqv, Bool.beq_eq_decide_eq]
      rw [if_neg Bool.false_ne_true, z]
      exact fin0 g q rfl
    · split at e
      · rename_i h; cases e
        refine ⟨_, _, Rep.mono g _ _ rx, Rep.mono g _ _ ry, h.1, h.2, ?_⟩
        rw [if_neg Bool.false_ne_true]
        exact fin0 g q rfl
      · cases e⟩
def c_ne (hu : X.A.units + 64 < cLine) : CmpR X .NotEq neP := ⟨_, op_neP hu, fun G H x y d vx vy Q g rx ry e q => by
    unfold neP at e; split at e
    · rename_i i j; cases e
      refine ⟨_, _, Rep.mono g _ _ rx, Rep.mono g _ _ ry, shp_int _, shp_int _, ?_⟩
      have z : PyData.eqv (D.py (.int i)) (D.py (.int j)) = decide (i = j) := by simp [D.py, PyData.eqv, Bool.beq_eq_decide_eq]
      rw [if_pos rfl, z]
      exact fin0 g q rfl
    · split at e
      · rename_i h; cases e
        refine ⟨_, _, Rep.mono g _ _ rx, Rep.mono g _ _ ry, h.1, h.2, ?_⟩
        rw [if_pos rfl]
        exact fin0 g q rfl
      · cases e⟩
def toB : D → Option Bool | .bl b => some b | _ => none
theorem pd_cmp {op : CmpOp} {op2 : D → D → Option D} (c : CmpR X op op2) (ha : PEd X a fa) (hb : PEd X b fb) (hm : behindInMarks op b = false := by exact nomark _) :
    PEd X (.Compare a [op] [b] pos) (fun ρ => (fa ρ).bind fun x => (fb ρ).bind fun y => op2 x y) :=
  peI (pe_cmpR c.ok ha hb hm) (pd2 c.rep)
theorem toB_rep {K : PySem.W.Frag} {G : Hp} {d : D} {b : Bool} {v : V} (e : toB d = some b) (r : Rep K G d v) : v = .bl b := by
  unfold toB at e; split at e
  · cases e; exact r
  · cases e
theorem pt_d_cmp {op : CmpOp} {op2 : D → D → Option D} (c : CmpR X op op2) (ha : PEd X a fa) (hb : PEd X b fb) (hm : behindInMarks op b = false := by exact nomark _) :
    PTd X (.Compare a [op] [b] pos) (fun ρ => ((fa ρ).bind fun x => (fb ρ).bind fun y => op2 x y).bind toB) :=
  ptI (pt_cmpR c.ok ha hb hm) fun σ H Q zz9 => by
    obtain ⟨G, ρ, bo, g, R, e, q⟩ := zz9
    obtain ⟨d, e1, e2⟩ := bind_some e
    exact pd2 c.rep σ H _ ⟨G, ρ, d, g, R, e1, fun v H' s r => ⟨bo, toB_rep e2 r, q H' s⟩⟩
/-- a value as a test -/
theorem pt_d_val (h : PEd X a fa) (he : ∀ whole, isTrue a X.env whole = (do let v ← whole; standAt a.pos; holding [v] (truthy v)) := by intro _; rfl) : PTd X a (fun ρ => (fa ρ).bind toB) :=
  ptI (pt_val h he) fun σ H Q zz10 => by
    obtain ⟨G, ρ, bo, g, R, e, q⟩ := zz10
    obtain ⟨d, e1, e2⟩ := bind_some e
    exact ⟨G, ρ, d, g, R, e1, fun v H' s r => ⟨bo, toB_rep e2 r, q H' s⟩⟩
theorem pt_d_chain {op op' : CmpOp} {o2 o2' : D → D → Option D} (k : CmpR X op o2) (k' : CmpR X op' o2') (ha : PEd X a fa) (hb : PEd X b fb) (hc : PEd X c fc) (hm : lastMarks [op, op'] [b, c] = false := by with_unfolding_all rfl) :
    PTd X (.Compare a [op, op'] [b, c] pos) (fun ρ => (fa ρ).bind fun x => (fb ρ).bind fun y => ((o2 x y).bind toB).bind fun t => if t = true then ((fc ρ).bind fun z => o2' y z).bind toB else some false) :=
  ptI (pt_chain k.ok k'.ok ha hb hc hm) fun σ H Q zz11 => by
    obtain ⟨G, ρ, bo, g, R, e, q⟩ := zz11
    obtain ⟨x, ex, e⟩ := bind_some e
    obtain ⟨y, ey, e⟩ := bind_some e
    obtain ⟨t, et, e⟩ := bind_some e
    obtain ⟨d, ed, et⟩ := bind_some et
    refine one_part g R ex fun vx H1 s1 g1 R1 r1 => one_part g1 R1 ey fun vy H2 s2 g2 R2 r2 => ?_
    have r1' := Rep.mono (ext_same g1) _ _ r1 (H' := ext (ext G H H1) H1 H2)
    refine k.rep _ _ x y d vx vy _ g2 r1' r2 ed fun v H3 s3 r3 => ⟨t, toB_rep et r3, ?_⟩
    cases t with
    | true =>
      rw [if_pos rfl] at e ⊢
      obtain ⟨d', e', eb⟩ := bind_some e
      obtain ⟨z, ez, e'⟩ := bind_some e'
      have g3 : Same (ext (ext (ext G H H1) H1 H2) H2 H3) H3 := ext_sub g2 s3
      have m3 := ext_same (H' := H3) g2
      refine one_part g3 (R2.mono m3) ez fun vz H4 s4 g4 R4 r4 => ?_
      refine k'.rep _ _ y z d' vy vz _ g4 (Rep.mono (ext_same g3) _ _ (Rep.mono m3 _ _ r2)) r4 e' fun v H5 s5 r5 => ⟨bo, toB_rep eb r5, q H5 ((((s1.trans s2).trans s3).trans s4).trans s5)⟩
    | false =>
      rw [if_neg Bool.false_ne_true] at e ⊢
      cases e
      exact ⟨false, rfl, q H3 ((s1.trans s2).trans s3)⟩
variable {ta tb : Env → Option Bool} {rest : List Expr}
theorem pw_d_and1 (ha : PTd X a ta) : PWd X (.BoolOp .And [a] pos) ta := pw_and1 ha
theorem pw_d_or1 (ha : PTd X a ta) : PWd X (.BoolOp .Or [a] pos) ta := pw_or1 ha
theorem pw_d_and (ha : PTd X a ta) (hb : PWd X (.BoolOp .And (b :: rest) pos) tb) : PWd X (.BoolOp .And (a :: b :: rest) pos) (fun ρ => (ta ρ).bind fun t => if t = true then tb ρ else some false) :=
  pwI (pw_and ha hb) fun σ H Q zz12 => by
    obtain ⟨G, ρ, bo, g, R, e, q⟩ := zz12
    obtain ⟨t, et, e⟩ := bind_some e
    refine ⟨G, ρ, t, g, R, et, fun H1 s1 => ?_⟩
    cases t with
    | true => rw [if_pos rfl] at e ⊢; exact ⟨ext G H H1, ρ, bo, ext_sub g s1, R.mono (ext_same g), e, fun H' s => q H' (s1.trans s)⟩
    | false => rw [if_neg Bool.false_ne_true] at e ⊢; cases e; exact q H1 s1
theorem pw_d_or (ha : PTd X a ta) (hb : PWd X (.BoolOp .Or (b :: rest) pos) tb) : PWd X (.BoolOp .Or (a :: b :: rest) pos) (fun ρ => (ta ρ).bind fun t => if t = true then some true else tb ρ) :=
  pwI (pw_or ha hb) fun σ H Q zz13 => by
    obtain ⟨G, ρ, bo, g, R, e, q⟩ := zz13
    obtain ⟨t, et, e⟩ := bind_some e
    refine ⟨G, ρ, t, g, R, et, fun H1 s1 => ?_⟩
    cases t with
    | true => rw [if_pos rfl] at e ⊢; cases e; exact q H1 s1
    | false => rw [if_neg Bool.false_ne_true] at e ⊢; exact ⟨ext G H H1, ρ, bo, ext_sub g s1, R.mono (ext_same g), e, fun H' s => q H' (s1.trans s)⟩
theorem pt_d_w {e : Expr} {f : Env → Option Bool} (h : PWd X e f) : PTd X e f := PW.pt h
theorem pt_d_not (ha : PTd X a ta) : PTd X (.UnaryOp .Not a pos) (fun ρ => (ta ρ).map (!·)) :=
  ptI (pt_not ha) fun σ H Q zz14 => by
    obtain ⟨G, ρ, bo, g, R, e, q⟩ := zz14
    dsimp only at e
    cases et : ta ρ with
    | none => rw [et] at e; cases e
    | some t =>
      rw [et] at e
      cases e
      exact ⟨G, ρ, t, g, R, et, fun H1 s1 => q H1 s1⟩
variable {es : List Expr} {fs : Env → Option (List D)}
theorem pad_nil : PAd X [] (fun _ => some []) := paI pa_nil fun σ H Q zz19 => by obtain ⟨G, ρ, ds, g, R, e, q⟩ := zz19; cases e; exact q [] H (Same.refl H) rfl
theorem pad_cons {e : Expr} (ha : PEd X e fa) (hr : PAd X es fs) (hs : starEach (e :: es) X.env = (false, eval e X.env) :: starEach es X.env := by rfl) : PAd X (e :: es) (fun ρ => (fa ρ).bind fun x => (fs ρ).bind fun r => some (x :: r)) :=
  paI (pa_cons ha hr hs) fun σ H Q zz20 => by
    obtain ⟨G, ρ, ds, g, R, e, q⟩ := zz20
    obtain ⟨x, ex, e⟩ := bind_some e
    obtain ⟨r, er, e⟩ := bind_some e
    cases e
    refine one_part g R ex fun vx H1 s1 g1 R1 r1 => ⟨_, ρ, r, g1, R1, er, fun vs H2 s2 r2 => ?_⟩
    refine q _ _ (s1.trans s2) ⟨vx, vs, rfl, ?_, ?_⟩
    · rw [← ext_ext s1 s2]; exact Rep.mono (ext_same g1) _ _ r1
    · rw [← ext_ext s1 s2]; exact r2
theorem upd_same' {H : Hp} {p : Addr} {o : HO} (h : H p = none) : Same H (upd H p o) := fun b u e => by
  have hb : b ≠ p := fun z => by rw [z, h] at e; cases e
  rw [upd_ne hb]; exact e
/-- a new object over a view -/
theorem ext_new {G H H1 : Hp} {p : Addr} {o : HO} (g : Same G H) (s : Same H H1) (h : H1 p = none) : Same (ext G H H1) (ext G H (upd H1 p o)) ∧ ext G H (upd H1 p o) p = some o := by
  have hp : H p = none := by
    cases q : H p with
    | none => rfl
    | some u => rw [s _ _ q] at h; cases h
  refine ⟨fun b u e => ?_, by rw [ext_none hp]; exact upd_same⟩
  cases q : H b with
  | none =>
    rw [ext_none q] at e ⊢
    exact upd_same' h _ _ e
  | some z => rw [ext_some q] at e ⊢; exact e
theorem line1000 {n : Nat} (h : n ≤ 1000) : n ≤ sizeLine := Nat.le_of_lt (small1000 h)
theorem pd_add (ha : PEd X a fa) (hb : PEd X b fb) : PEd X (.BinOp a .Add b pos) (fun ρ => (fa ρ).bind fun x => (fb ρ).bind fun y => addD x y) :=
  peI (pe_op (op_add.or op_cat) ha hb) (pd2 fun G H x y d vx vy Q g rx ry e q => by
    unfold addD at e; split at e
    · cases e; cases rx; cases ry; exact .inl ⟨_, _, rfl, rfl, fin0 g q rfl⟩
    · split at e
      · rename_i hl
        cases e
        obtain ⟨a, xs, rfl, h1, r1⟩ := rx
        obtain ⟨b, ys, rfl, h2, r2⟩ := ry
        refine .inr ⟨a, b, xs, ys, rfl, rfl, g _ _ h1, g _ _ h2, by rw [← r1.length, ← r2.length]; exact line1000 hl, fun l hl' => ?_⟩
        obtain ⟨m, at'⟩ := ext_new (o := .lst (xs ++ ys)) g (Same.refl H) hl'
        rw [ext_refl g] at m
        exact q _ _ (upd_same' hl') ⟨l, _, rfl, at', RepL.mono m _ _ (RepL.append r1 r2)⟩
      · cases e
    · cases e)
def capD (ds : List D) (d : D) : Option D := if ds.length ≤ 1000 then some d else none
theorem pd_tup {k} (h : PAd X es fs) : PEd X (.Tuple es k pos) (fun ρ => (fs ρ).bind fun ds => capD ds (.tup ds)) :=
  peI (pe_tup h) fun σ H Q zz21 => by
    obtain ⟨G, ρ, d, g, R, e, q⟩ := zz21
    obtain ⟨ds, ex, e⟩ := bind_some e
    unfold capD at e; split at e
    · rename_i hl
      cases e
      refine ⟨G, ρ, ds, g, R, ex, fun vs H1 s1 r1 => ⟨by rw [← r1.length]; exact line1000 hl, fun p hp => ?_⟩⟩
      obtain ⟨m, at'⟩ := ext_new (o := .tup vs) g s1 hp
      exact q _ _ (s1.trans (upd_same' hp)) ⟨p, vs, rfl, SqT.of at', RepL.mono m _ _ r1⟩
    · cases e
theorem pd_lst (h : PAd X es fs) : PEd X (.List es pos) (fun ρ => (fs ρ).bind fun ds => capD ds (.lst ds)) :=
  peI (pe_lst h) fun σ H Q zz22 => by
    obtain ⟨G, ρ, d, g, R, e, q⟩ := zz22
    obtain ⟨ds, ex, e⟩ := bind_some e
    unfold capD at e; split at e
    · rename_i hl
      cases e
      refine ⟨G, ρ, ds, g, R, ex, fun vs H1 s1 r1 => ⟨by rw [← r1.length]; exact line1000 hl, fun p hp => ?_⟩⟩
      obtain ⟨m, at'⟩ := ext_new (o := .lst vs) g s1 hp
      exact q _ _ (s1.trans (upd_same' hp)) ⟨p, vs, rfl, at', RepL.mono m _ _ r1⟩
    · cases e
theorem pd_callB {x : Str} {p : Pos} {e : Expr} {id : String} {r : List V → Hp → VK → Prop} {g1 : List D → Option D} (hc : CallR X (.builtin id) r) (hm : X.mg x = none) (hv : bootBuiltins x = some (.builtin id)) (ha : PAd X (e :: es) fs)
    (rep : ∀ (G H : Hp) (ds : List D) (d : D) (vs : List V) (Q : VK), Same G H → RepL X.K G ds vs → g1 ds = some d → (∀ v H', Same H H' → Rep X.K (ext G H H') d v → Q v H') → r vs H Q)
    (hg : Gl X x := by rfl) (hn : x ≠ "__name__" := by decide) (hdb : (x == ("__debug__" : Str)) = false := by decide)
    (he : starEach (e :: es) X.env = (false, eval e X.env) :: starEach es X.env := by rfl) (hpl : (backTo pos (starEach es X.env)).any (·.1) = false := by rfl) : PEd X (.Call (.Name x p) (e :: es) [] pos) (fun ρ => (fs ρ).bind g1) :=
  peI (pe_callB hc hg hm hv ha hn hdb he hpl) fun σ H Q zz23 => by
    obtain ⟨G, ρ, d, g, R, e, q⟩ := zz23
    obtain ⟨ds, ex, e⟩ := bind_some e
    exact ⟨G, ρ, ds, g, R, ex, fun vs H1 s1 r1 => rep _ _ ds d vs Q (ext_sub g s1) r1 e (wish1 s1 q)⟩
theorem pd_callTy {x : Str} {p : Pos} {e : Expr} {T : String} {r : List V → Hp → VK → Prop} {g1 : List D → Option D} (hc : CallR X (.type T) r) (hm : X.mg x = none) (hv : bootBuiltins x = some (.type T)) (ha : PAd X (e :: es) fs)
    (rep : ∀ (G H : Hp) (ds : List D) (d : D) (vs : List V) (Q : VK), Same G H → RepL X.K G ds vs → g1 ds = some d → (∀ v H', Same H H' → Rep X.K (ext G H H') d v → Q v H') → r vs H Q)
    (hg : Gl X x := by rfl) (hn : x ≠ "__name__" := by decide) (hdb : (x == ("__debug__" : Str)) = false := by decide)
    (he : starEach (e :: es) X.env = (false, eval e X.env) :: starEach es X.env := by rfl) (hpl : (backTo pos (starEach es X.env)).any (·.1) = false := by rfl) : PEd X (.Call (.Name x p) (e :: es) [] pos) (fun ρ => (fs ρ).bind g1) :=
  peI (pe_callTy hc hg hm hv ha hn hdb he hpl) fun σ H Q zz24 => by
    obtain ⟨G, ρ, d, g, R, e, q⟩ := zz24
    obtain ⟨ds, ex, e⟩ := bind_some e
    exact ⟨G, ρ, ds, g, R, ex, fun vs H1 s1 r1 => rep _ _ ds d vs Q (ext_sub g s1) r1 e (wish1 s1 q)⟩
def lenD : List D → Option D
  | [.tup ds] => some (.int ds.length)
  | [.lst ds] => some (.int ds.length)
  | [.scr ns] => some (.int ns.length)
  | _ => none
theorem pd_len {p : Pos} {e : Expr} (hm : X.mg "len" = none) (ha : PAd X [e] fs) (hg : Gl X "len" := by rfl) (he : starEach [e] X.env = (false, eval e X.env) :: starEach [] X.env := by rfl) (hpl : (backTo pos (starEach [] X.env)).any (·.1) = false := by rfl) :
    PEd X (.Call (.Name "len" p) [e] [] pos) (fun ρ => (fs ρ).bind lenD) :=
  pd_callB (call_len_seq) hm PySem.boot_len ha (fun G H ds d vs Q g r e q => by
    unfold lenD at e; split at e
    · rename_i es'
      cases e
      obtain ⟨v, r', e1, ⟨a, xs, e2, h, r2⟩, e3⟩ := r
      subst e2
      cases e3
      exact ⟨a, xs, e1, .inr (sqt_mono g h), fin0 g q (by rw [r2.length]; rfl)⟩
    · cases e
      obtain ⟨v, r', e1, ⟨a, xs, e2, h, r2⟩, e3⟩ := r
      subst e2
      cases e3
      exact ⟨a, xs, e1, .inl (SqL.of (g _ _ h)), fin0 g q (by rw [r2.length]; rfl)⟩
    · cases e
      obtain ⟨v, r', e1, ⟨a, e2, h⟩, e3⟩ := r
      subst e2
      cases e3
      exact ⟨a, _, e1, .inl (g.seq h), fin0 g q (by rw [List.length_map]; rfl)⟩
    · cases e) hg (by decide) (by decide) he hpl
def absD : List D → Option D
  | [.int i] => some (.int (if i < 0 then -i else i))
  | _ => none
theorem pd_abs {p : Pos} {e : Expr} (hm : X.mg "abs" = none) (ha : PAd X [e] fs) (hv : bootBuiltins "abs" = some (.builtin "abs") := by decide +kernel) (hg : Gl X "abs" := by rfl) (he : starEach [e] X.env = (false, eval e X.env) :: starEach [] X.env := by rfl) (hpl : (backTo pos (starEach [] X.env)).any (·.1) = false := by rfl) :
    PEd X (.Call (.Name "abs" p) [e] [] pos) (fun ρ => (fs ρ).bind absD) :=
  pd_callB call_abs hm hv ha (fun G H ds d vs Q g r e q => by
    unfold absD at e; split at e
    · rename_i i
      cases e
      obtain ⟨v, r', e1, e2, e3⟩ := r
      cases e2
      cases e3
      exact ⟨i, e1, fin0 g q rfl⟩
    · cases e) hg (by decide) (by decide) he hpl
def listD : List D → Option D
  | [.tup ds] => some (.lst ds)
  | [.lst ds] => some (.lst ds)
  | _ => none
theorem pd_list {p : Pos} {e : Expr} (hm : X.mg "list" = none) (ha : PAd X [e] fs) (hv : bootBuiltins "list" = some (.type "list") := by decide +kernel) (hg : Gl X "list" := by rfl) (he : starEach [e] X.env = (false, eval e X.env) :: starEach [] X.env := by rfl) (hpl : (backTo pos (starEach [] X.env)).any (·.1) = false := by rfl) :
    PEd X (.Call (.Name "list" p) [e] [] pos) (fun ρ => (fs ρ).bind listD) :=
  pd_callTy call_list_of hm hv ha (fun G H ds d vs Q g r e q => by
    unfold listD at e; split at e
    · cases e
      obtain ⟨v, r', e1, ⟨a, xs, e2, h, r2⟩, e3⟩ := r
      subst e2
      cases e3
      refine ⟨a, xs, e1, .inr (sqt_mono g h), fun l hl => ?_⟩
      obtain ⟨m, at'⟩ := ext_new (o := .lst xs) g (Same.refl H) hl
      exact q _ _ (upd_same' hl) ⟨l, xs, rfl, at', RepL.mono m _ _ (by rw [ext_refl g]; exact r2)⟩
    · cases e
      obtain ⟨v, r', e1, ⟨a, xs, e2, h, r2⟩, e3⟩ := r
      subst e2
      cases e3
      refine ⟨a, xs, e1, .inl (SqL.of (g _ _ h)), fun l hl => ?_⟩
      obtain ⟨m, at'⟩ := ext_new (o := .lst xs) g (Same.refl H) hl
      exact q _ _ (upd_same' hl) ⟨l, xs, rfl, at', RepL.mono m _ _ (by rw [ext_refl g]; exact r2)⟩
    · cases e) hg (by decide) (by decide) he hpl
end
end DL
set_option Elab.async false
set_option linter.all false
set_option maxRecDepth 100000
namespace DL
open PySem PySem.Spec PyProof.Rows L2
inductive Out where
  | nx (ρ : Env) | rt (d : D) | bk (ρ : Env) | ct (ρ : Env)
  /-- an exception of the class at C flies, the slots as they are -/
  | ex (C : Addr) (ρ : Env)
open Classical in
/-- the heap without the lists that slots own -/
noncomputable def cutO (own : Nat → Option Addr) (H : Hp) : Hp := fun b => if ∃ i, own i = some b then none else H b
section
variable {own own' : Nat → Option Addr} {G G' H H' : Hp} {b l : Addr} {i : Nat}
theorem cutO_own (h : own i = some b) : cutO own H b = none := by unfold cutO; rw [if_pos ⟨i, h⟩]
theorem cutO_not (h : ∀ i, own i ≠ some b) : cutO own H b = H b := by unfold cutO; rw [if_neg fun ⟨i, e⟩ => h i e]
theorem cutO_of {o : HO} (h : cutO own H b = some o) : (∀ i, own i ≠ some b) ∧ H b = some o := by
  unfold cutO at h
  split at h
  · cases h
  · rename_i z; exact ⟨fun i e => z ⟨i, e⟩, h⟩
theorem cutO_sub : Same (cutO own H) H := fun b o e => (cutO_of e).2
theorem cutO_mono (s : Same H H') (w : ∀ j b, own' j = some b → ∀ o, H b = some o → ∃ i, own i = some b) : Same (cutO own H) (cutO own' H') := fun b o e => by
  obtain ⟨n, e⟩ := cutO_of e
  rw [cutO_not fun j z => let ⟨i, q⟩ := w j b z o e; n i q]
  exact s _ _ e
end
/-- the state: G₀, H₀ the view and the heap ahead; what H₀ holds stays, the owned lists are younger -/
structure StO (K : PySem.W.Frag) (own : Nat → Option Addr) (G₀ H₀ H : Hp) (σ : St) (ρ : Env) : Prop where
  g0 : Same G₀ H₀
  same : Same H₀ H
  len : σ.length = ρ.length
  at' : ∀ i l, own i = some l → H₀ l = none ∧ ∃ ds xs, ρ[i]? = some (some (.own ds)) ∧ σ[i]? = some (some (.ref l)) ∧ H l = some (.lst xs) ∧ RepL K (cutO own (ext G₀ H₀ H)) ds xs
  inj : ∀ i j l, own i = some l → own j = some l → i = j
  has : ∀ i ds, ρ[i]? = some (some (.own ds)) → ∃ l, own i = some l
  rep : RepSt K (cutO own (ext G₀ H₀ H)) σ ρ
def StOk (K : PySem.W.Frag) (G₀ H₀ H : Hp) (σ : St) (ρ : Env) : Prop := ∃ own, StO K own G₀ H₀ H σ ρ
section
variable {K : PySem.W.Frag} {own : Nat → Option Addr} {G₀ H₀ H H1 : Hp} {σ : St} {ρ : Env}
/-- what the slots hang on -/
noncomputable abbrev view (own : Nat → Option Addr) (G₀ H₀ H : Hp) : Hp := cutO own (ext G₀ H₀ H)
theorem StO.sub (S : StO K own G₀ H₀ H σ ρ) : Same (view own G₀ H₀ H) H := fun b o e => ext_sub S.g0 S.same _ _ (cutO_sub _ _ e)
theorem StO.notown (S : StO K own G₀ H₀ H σ ρ) {b : Addr} (h : H b = none) : ∀ i, own i ≠ some b := fun i e => by
  obtain ⟨_, ds, xs, _, _, q, _⟩ := S.at' i b e
  rw [h] at q; cases q
/-- what an expression gives over the view stands in the new view -/
theorem StO.grown (S : StO K own G₀ H₀ H σ ρ) (s : Same H H1) : Same (ext (view own G₀ H₀ H) H H1) (view own G₀ H₀ H1) := fun b o e => by
  cases q : H b with
  | none =>
    rw [ext_none q] at e
    have q0 : H₀ b = none := S.same.free q
    unfold view
    rw [cutO_not (S.notown q), ext_none q0]
    exact e
  | some u =>
    rw [ext_some q] at e
    obtain ⟨n, e⟩ := cutO_of e
    unfold view
    rw [cutO_not n]
    cases q0 : H₀ b with
    | none => rw [ext_none q0] at e ⊢; exact s _ _ e
    | some z => rw [ext_some q0] at e ⊢; exact e
theorem StO.step (S : StO K own G₀ H₀ H σ ρ) (s : Same H H1) : Same (view own G₀ H₀ H) (view own G₀ H₀ H1) := fun b o e => S.grown s _ _ (ext_same S.sub _ _ e)
theorem StO.grow (S : StO K own G₀ H₀ H σ ρ) (s : Same H H1) : StO K own G₀ H₀ H1 σ ρ where
  g0 := S.g0
  same := S.same.trans s
  len := S.len
  at' := fun i l e => let ⟨h0, ds, xs, a, b, c, d⟩ := S.at' i l e; ⟨h0, ds, xs, a, b, s _ _ c, RepL.mono (S.step s) _ _ d⟩
  inj := S.inj
  has := S.has
  rep := S.rep.mono (S.step s)
theorem getE_ne {ρ : Env} {i j : Nat} {o : Option D} (h : i ≠ j) : getE (ρ.set i o) j = getE ρ j := by
  unfold getE; rw [List.getElem?_set_ne h]
theorem getE_own {ρ : Env} {i : Nat} {ds : List D} (h : ρ[i]? = some (some (.own ds))) : getE ρ i = none := by
  unfold getE; rw [h]
theorem getE_some {ρ : Env} {i : Nat} {d : D} (h : getE ρ i = some d) : ρ[i]? = some (some d) := by
  unfold getE at h
  split at h
  · cases h
  · rename_i o q1 q2
    rw [q2, h]
  · cases h
theorem getE_lt {ρ : Env} {i : Nat} {d : D} (h : getE ρ i = some d) : i < ρ.length := (List.getElem?_eq_some_iff.mp (getE_some h)).1
/-- slot i owns nothing -/
def dropO (i : Nat) (own : Nat → Option Addr) : Nat → Option Addr := fun j => if j = i then none else own j
theorem dropO_of {i j : Nat} {l : Addr} (e : dropO i own j = some l) : j ≠ i ∧ own j = some l := by
  unfold dropO at e
  by_cases hj : j = i
  · rw [if_pos hj] at e; cases e
  · rw [if_neg hj] at e; exact ⟨hj, e⟩
theorem dropO_ne {i j : Nat} (h : j ≠ i) : dropO i own j = own j := by unfold dropO; rw [if_neg h]
theorem dropO_mono (i : Nat) : Same (view own G₀ H₀ H) (view (dropO i own) G₀ H₀ H) := cutO_mono (Same.refl _) fun j b e o _ => ⟨j, (dropO_of e).2⟩
/-- a name is stored -/
theorem StO.set {i : Nat} {d : D} {v : V} (S : StO K own G₀ H₀ H σ ρ) (r : Rep K (view own G₀ H₀ H) d v) : StO K (dropO i own) G₀ H₀ H (σ.set i (some v)) (ρ.set i (some d)) := by
  have hd : ∀ ds, d ≠ .own ds := fun ds e => by subst e; simp [Rep] at r
  have m : Same (view own G₀ H₀ H) (view (dropO i own) G₀ H₀ H) := dropO_mono i
  refine ⟨S.g0, S.same, by simpa using S.len, fun j l e => ?_, fun j k l e1 e2 => S.inj j k l (dropO_of e1).2 (dropO_of e2).2, fun j ds e => ?_, fun j x e => ?_⟩
  · obtain ⟨hj, e⟩ := dropO_of e
    obtain ⟨h0, ds, xs, a, b, c, dd⟩ := S.at' j l e
    exact ⟨h0, ds, xs, by rw [List.getElem?_set_ne (Ne.symm hj)]; exact a, by rw [List.getElem?_set_ne (Ne.symm hj)]; exact b, c, RepL.mono m _ _ dd⟩
  · by_cases hj : j = i
    · subst hj
      have hlt : j < ρ.length := by
        have := (List.getElem?_eq_some_iff.mp e).1
        simpa using this
      rw [List.getElem?_set_self hlt] at e
      cases e
      exact absurd rfl (hd ds)
    · rw [List.getElem?_set_ne (Ne.symm hj)] at e
      obtain ⟨l, q⟩ := S.has j ds e
      exact ⟨l, by rw [dropO_ne hj]; exact q⟩
  · by_cases hj : j = i
    · subst hj
      have hlt := getE_lt e
      rw [List.length_set] at hlt
      have e' := getE_some e
      rw [List.getElem?_set_self hlt] at e'
      cases e'
      exact ⟨v, by rw [List.getElem?_set_self (by rw [S.len]; exact hlt)], Rep.mono m _ _ r⟩
    · rw [getE_ne (Ne.symm hj)] at e
      obtain ⟨w, e1, r1⟩ := S.rep j x e
      exact ⟨w, by rw [List.getElem?_set_ne (Ne.symm hj)]; exact e1, Rep.mono m _ _ r1⟩
/-- an owned list is read no further as such: it is a list like any other -/
def freezeE (i : Nat) (ρ : Env) : Env := match ρ[i]? with
  | some (some (.own ds)) => ρ.set i (some (.lst ds))
  | _ => ρ
theorem StO.freeze (i : Nat) (S : StO K own G₀ H₀ H σ ρ) : StOk K G₀ H₀ H σ (freezeE i ρ) := by
  unfold freezeE
  split
  · rename_i ds q
    obtain ⟨l, el⟩ := S.has i ds q
    obtain ⟨h0, ds', xs, a, b, c, dd⟩ := S.at' i l el
    rw [q] at a
    cases a
    have m : Same (view own G₀ H₀ H) (view (dropO i own) G₀ H₀ H) := dropO_mono i
    have hi : i < ρ.length := (List.getElem?_eq_some_iff.mp q).1
    have at_l : view (dropO i own) G₀ H₀ H l = some (.lst xs) := by
      unfold view
      rw [cutO_not fun j e => (dropO_of e).1 (S.inj j i l (dropO_of e).2 el), ext_none h0]
      exact c
    refine ⟨dropO i own, S.g0, S.same, by simpa using S.len, fun j l' e => ?_, fun j k l' e1 e2 => S.inj j k l' (dropO_of e1).2 (dropO_of e2).2, fun j es e => ?_, fun j x e => ?_⟩
    · obtain ⟨hj, e⟩ := dropO_of e
      obtain ⟨h0, ds, xs, a, b, c, dd⟩ := S.at' j l' e
      exact ⟨h0, ds, xs, by rw [List.getElem?_set_ne (Ne.symm hj)]; exact a, b, c, RepL.mono m _ _ dd⟩
    · by_cases hj : j = i
      · subst hj
        rw [List.getElem?_set_self hi] at e
        cases e
      · rw [List.getElem?_set_ne (Ne.symm hj)] at e
        obtain ⟨l', q'⟩ := S.has j es e
        exact ⟨l', by rw [dropO_ne hj]; exact q'⟩
    · by_cases hj : j = i
      · subst hj
        have e' := getE_some e
        rw [List.getElem?_set_self hi] at e'
        cases e'
        exact ⟨.ref l, b, l, xs, rfl, at_l, RepL.mono m _ _ dd⟩
      · rw [getE_ne (Ne.symm hj)] at e
        obtain ⟨w, e1, r1⟩ := S.rep j x e
        exact ⟨w, e1, Rep.mono m _ _ r1⟩
  · exact ⟨own, S⟩
/-- a fresh list becomes a slot's own -/
def butL (l : Addr) (G : Hp) : Hp := fun b => if b = l then none else G b
def putO (i : Nat) (l : Addr) (own : Nat → Option Addr) : Nat → Option Addr := fun j => if j = i then some l else own j
theorem StO.setOwn {i : Nat} {ds : List D} {xs : List V} {l : Addr} (S : StO K own G₀ H₀ H σ ρ) (s : Same H H1) (hl : H l = none) (h1 : H1 l = some (.lst xs)) (r : RepL K (butL l (ext (view own G₀ H₀ H) H H1)) ds xs) (hi : i < ρ.length) :
    StO K (putO i l own) G₀ H₀ H1 (σ.set i (some (.ref l))) (ρ.set i (some (.own ds))) := by
  have n1 : ∀ j, own j ≠ some l := S.notown hl
  have pe : ∀ {j b}, putO i l own j = some b → (j = i ∧ b = l) ∨ (j ≠ i ∧ own j = some b) := fun {j b} e => by
    unfold putO at e
    by_cases hj : j = i
    · rw [if_pos hj] at e; cases e; exact .inl ⟨hj, rfl⟩
    · rw [if_neg hj] at e; exact .inr ⟨hj, e⟩
  have m0 : Same (butL l (ext (view own G₀ H₀ H) H H1)) (view (putO i l own) G₀ H₀ H1) := fun b o e => by
    unfold butL at e
    by_cases hb : b = l
    · rw [if_pos hb] at e; cases e
    · rw [if_neg hb] at e
      obtain ⟨n, e'⟩ := cutO_of (S.grown s _ _ e)
      unfold view
      rw [cutO_not fun j z => (pe z).elim (fun q => hb q.2) fun q => n j q.2]
      exact e'
  have m : Same (view own G₀ H₀ H) (view (putO i l own) G₀ H₀ H1) := fun b o e => m0 b o (by
    have hb : b ≠ l := fun z => by
      have := S.sub _ _ e
      rw [z, hl] at this; cases this
    unfold butL
    rw [if_neg hb]
    exact ext_same S.sub _ _ e)
  refine ⟨S.g0, S.same.trans s, by simpa using S.len, fun j b e => ?_, fun j k b e1 e2 => ?_, fun j es e => ?_, fun j x e => ?_⟩
  · rcases pe e with ⟨rfl, rfl⟩ | ⟨hj, e⟩
    · exact ⟨S.same.free hl, ds, xs, List.getElem?_set_self hi, List.getElem?_set_self (by rw [S.len]; exact hi), h1, RepL.mono m0 _ _ r⟩
    · obtain ⟨h0, ds, xs, a, b, c, dd⟩ := S.at' j b e
      exact ⟨h0, ds, xs, by rw [List.getElem?_set_ne (Ne.symm hj)]; exact a, by rw [List.getElem?_set_ne (Ne.symm hj)]; exact b, s _ _ c, RepL.mono m _ _ dd⟩
  · rcases pe e1 with ⟨h1, h2⟩ | ⟨hj, f1⟩
    · rcases pe e2 with ⟨h3, _⟩ | ⟨hk, f2⟩
      · rw [h1, h3]
      · rw [h2] at f2; exact absurd f2 (n1 k)
    · rcases pe e2 with ⟨_, h4⟩ | ⟨hk, f2⟩
      · rw [h4] at f1; exact absurd f1 (n1 j)
      · exact S.inj j k b f1 f2
  · by_cases hj : j = i
    · exact ⟨l, by unfold putO; rw [if_pos hj]⟩
    · rw [List.getElem?_set_ne (Ne.symm hj)] at e
      obtain ⟨b, q⟩ := S.has j es e
      exact ⟨b, by unfold putO; rw [if_neg hj]; exact q⟩
  · by_cases hj : j = i
    · subst hj
      rw [getE_own (List.getElem?_set_self hi)] at e
      cases e
    · rw [getE_ne (Ne.symm hj)] at e
      obtain ⟨w, e1, r1⟩ := S.rep j x e
      exact ⟨w, by rw [List.getElem?_set_ne (Ne.symm hj)]; exact e1, Rep.mono m _ _ r1⟩
/-- an owned list is changed -/
theorem StO.write {i : Nat} {ds : List D} {xs : List V} {l : Addr} (S : StO K own G₀ H₀ H σ ρ) (el : own i = some l) (r : RepL K (view own G₀ H₀ H) ds xs) : StO K own G₀ H₀ (upd H l (.lst xs)) σ (ρ.set i (some (.own ds))) := by
  have eqv : view own G₀ H₀ (upd H l (.lst xs)) = view own G₀ H₀ H := by
    funext b
    unfold view cutO
    split
    · rfl
    · rename_i n
      have hb : b ≠ l := fun z => n ⟨i, by rw [z]; exact el⟩
      unfold ext
      rw [upd_ne hb]
  obtain ⟨h0, ds0, xs0, a0, b0, c0, d0⟩ := S.at' i l el
  have hi : i < ρ.length := (List.getElem?_eq_some_iff.mp a0).1
  refine ⟨S.g0, fun b o e => ?_, by simpa using S.len, fun j b e => ?_, S.inj, fun j es e => ?_, fun j x e => ?_⟩
  · have hb : b ≠ l := fun z => by rw [z, h0] at e; cases e
    rw [upd_ne hb]
    exact S.same _ _ e
  · rw [show cutO own (ext G₀ H₀ (upd H l (.lst xs))) = view own G₀ H₀ H from eqv]
    by_cases hj : j = i
    · subst hj
      rw [el] at e
      cases e
      exact ⟨h0, ds, xs, List.getElem?_set_self hi, b0, upd_same, r⟩
    · obtain ⟨h1, ds1, xs1, a1, b1, c1, d1⟩ := S.at' j b e
      have hb : b ≠ l := fun z => hj (S.inj j i l (z ▸ e) el)
      exact ⟨h1, ds1, xs1, by rw [List.getElem?_set_ne (Ne.symm hj)]; exact a1, b1, by rw [upd_ne hb]; exact c1, d1⟩
  · by_cases hj : j = i
    · exact ⟨l, by rw [hj]; exact el⟩
    · rw [List.getElem?_set_ne (Ne.symm hj)] at e
      exact S.has j es e
  · rw [show cutO own (ext G₀ H₀ (upd H l (.lst xs))) = view own G₀ H₀ H from eqv]
    by_cases hj : j = i
    · subst hj
      rw [getE_own (List.getElem?_set_self hi)] at e
      cases e
    · rw [getE_ne (Ne.symm hj)] at e
      exact S.rep j x e
end
/-- another base -/
structure Rebase (G₀ H₀ G₁ H₁ : Hp) : Prop where
  g1 : Same G₁ H₁
  hh : Same H₀ H₁
  ex : ∀ H', Same H₁ H' → Same (ext G₁ H₁ H') (ext G₀ H₀ H')
theorem Rebase.st {K : PySem.W.Frag} {G₀ H₀ G₁ H₁ H : Hp} {σ : St} {ρ : Env} (B : Rebase G₀ H₀ G₁ H₁) (g : Same G₀ H₀) (h : StOk K G₁ H₁ H σ ρ) : StOk K G₀ H₀ H σ ρ := by
  obtain ⟨own, S⟩ := h
  have m : Same (view own G₁ H₁ H) (view own G₀ H₀ H) := cutO_mono (B.ex H S.same) fun j b e _ _ => ⟨j, e⟩
  exact ⟨own, g, B.hh.trans S.same, S.len, fun i l e => let ⟨h0, ds, xs, a, b, c, d⟩ := S.at' i l e; ⟨B.hh.free h0, ds, xs, a, b, c, RepL.mono m _ _ d⟩, S.inj, S.has, S.rep.mono m⟩
/-- the base at a loop: all but the owned lists -/
theorem StO.base {K : PySem.W.Frag} {own : Nat → Option Addr} {G₀ H₀ H H1 : Hp} {σ : St} {ρ : Env} (S : StO K own G₀ H₀ H σ ρ) (s : Same H H1) :
    Rebase G₀ H₀ (ext (view own G₀ H₀ H) H H1) (cutO own H1) ∧ StO K own (ext (view own G₀ H₀ H) H H1) (cutO own H1) H1 σ ρ := by
  have n1 : ∀ b o, ext (view own G₀ H₀ H) H H1 b = some o → ∀ i, own i ≠ some b := fun b o e => by
    cases q : H b with
    | none => exact S.notown q
    | some u => rw [ext_some q] at e; exact (cutO_of e).1
  have g1 : Same (ext (view own G₀ H₀ H) H H1) (cutO own H1) := fun b o e => by
    rw [cutO_not (n1 b o e)]
    exact ext_sub S.sub s _ _ e
  have hh : Same H₀ (cutO own H1) := fun b o e => by
    rw [cutO_not fun i z => by rw [(S.at' i b z).1] at e; cases e]
    exact s _ _ (S.same _ _ e)
  refine ⟨⟨g1, hh, fun H' s' b o e => ?_⟩, ?_⟩
  · cases q : cutO own H1 b with
    | none =>
      rw [ext_none q] at e
      rw [ext_none (hh.free q)]
      exact e
    | some u =>
      rw [ext_some q] at e
      have e' := S.grown s _ _ e
      obtain ⟨_, e'⟩ := cutO_of e'
      cases q0 : H₀ b with
      | none =>
        rw [ext_none q0] at e' ⊢
        obtain ⟨_, q1⟩ := cutO_of q
        rw [q1] at e'
        cases e'
        exact s' _ _ q
      | some z => rw [ext_some q0] at e' ⊢; exact e'
  · have eqv : Same (view own G₀ H₀ H) (view own (ext (view own G₀ H₀ H) H H1) (cutO own H1) H1) := fun b o e => by
      have e1 := ext_same (H' := H1) S.sub _ _ e
      unfold view at *
      rw [cutO_not (cutO_of e).1, ext_some (g1 _ _ e1)]
      exact e1
    exact ⟨g1, cutO_sub, S.len, fun i l e => let ⟨h0, ds, xs, a, b, c, d⟩ := S.at' i l e; ⟨cutO_own e, ds, xs, a, b, s _ _ c, RepL.mono eqv _ _ d⟩, S.inj, S.has, S.rep.mono eqv⟩
def Ctn (X : Cx) (G₀ H₀ : Hp) (o : Out) (E : Ends) : Prop := match o with
  | .nx ρ => ∀ σ H, StOk X.K G₀ H₀ H σ ρ → E.nx σ H
  | .rt d => ∀ v H, Same H₀ H → Rep X.K (ext G₀ H₀ H) d v → E.rt v H
  | .bk ρ => ∀ σ H, StOk X.K G₀ H₀ H σ ρ → E.bk σ H
  | .ct ρ => ∀ σ H, StOk X.K G₀ H₀ H σ ρ → E.ct σ H
  | .ex C ρ => ∀ σ H, StOk X.K G₀ H₀ H σ ρ → XL.XW X C σ H
theorem Ctn.rebase {X : Cx} {G₀ H₀ G₁ H₁ : Hp} {o : Out} {E : Ends} (B : Rebase G₀ H₀ G₁ H₁) (g : Same G₀ H₀) (h : Ctn X G₀ H₀ o E) : Ctn X G₁ H₁ o E := by
  cases o with
  | nx ρ => exact fun σ H s => h σ H (B.st g s)
  | rt d => exact fun v H s r => h v H (B.hh.trans s) (Rep.mono (B.ex H s) _ _ r)
  | bk ρ => exact fun σ H s => h σ H (B.st g s)
  | ct ρ => exact fun σ H s => h σ H (B.st g s)
  | ex C ρ => exact fun σ H s => h σ H (B.st g s)
def tDS (X : Cx) (f : Env → Option Out) : TS := fun E σ H => ∃ G₀ H₀ ρ o, StOk X.K G₀ H₀ H σ ρ ∧ f ρ = some o ∧ Ctn X G₀ H₀ o E
def PSd (X : Cx) (st : Stmt) (f : Env → Option Out) : Prop := PS X st (tDS X f)
def PSsd (X : Cx) (st : List Stmt) (f : Env → Option Out) : Prop := PSs X st (tDS X f)
theorem psI {X : Cx} {e : Stmt} {t t' : TS} (h : PS X e t) (i : ∀ E σ H, t' E σ H → t E σ H) : PS X e t' := fun pins s σ H E I w => h pins s σ H E I (i E σ H w)
theorem pssI {X : Cx} {e : List Stmt} {t t' : TS} (h : PSs X e t) (i : ∀ E σ H, t' E σ H → t E σ H) : PSs X e t' := fun pins s σ H E I w => h pins s σ H E I (i E σ H w)
def seqO (o : Option Out) (g : Env → Option Out) : Option Out := match o with
  | some (.nx ρ) => g ρ
  | o => o
section
variable {X : Cx} {st : Stmt} {rest a b : List Stmt} {f g : Env → Option Out} {e c : Expr} {fe : Env → Option D} {fc : Env → Option Bool} {pos : Pos}
theorem pssd_nil : PSsd X [] (fun ρ => some (.nx ρ)) := pssI pss_nil fun E σ H zz1 => by obtain ⟨G₀, H₀, ρ, o, S, e, c⟩ := zz1; cases e; exact c σ H S
theorem pssd_cons (h1 : PSd X st f) (h2 : PSsd X rest g) : PSsd X (st :: rest) (fun ρ => seqO (f ρ) g) :=
  pssI (pss_cons h1 h2) fun E σ H zz2 => by
    obtain ⟨G₀, H₀, ρ, o, S, e, c⟩ := zz2
    dsimp only at e
    cases ef : f ρ with
    | none => rw [ef] at e; cases e
    | some o1 =>
      rw [ef] at e
      refine ⟨G₀, H₀, ρ, o1, S, ef, ?_⟩
      cases o1 with
      | nx ρ1 => exact fun σ' H' S' => ⟨G₀, H₀, ρ1, o, S', e, c⟩
      | rt d => cases e; exact c
      | bk ρ1 => cases e; exact c
      | ct ρ1 => cases e; exact c
      | ex C ρ1 => cases e; exact c
theorem pssd_one (h1 : PSd X st f) : PSsd X [st] f := pss_one h1
theorem psd_never : PSd X st (fun _ => none) := fun _ _ _ _ _ _ zz6 => by obtain ⟨_, _, _, _, _, e, _⟩ := zz6; cases e
theorem psd_ret (he : PEd X e fe) : PSd X (.Return (some e) pos) (fun ρ => (fe ρ).map .rt) :=
  psI (ps_ret he) fun E σ H zz8 => by
    obtain ⟨G₀, H₀, ρ, o, ⟨own, S⟩, ee, c⟩ := zz8
    dsimp only at ee
    cases ed : fe ρ with
    | none => rw [ed] at ee; cases ee
    | some d =>
      rw [ed] at ee
      cases ee
      exact ⟨_, ρ, d, S.sub, S.rep, ed, fun v H' s r => c v H' (S.same.trans s) (Rep.mono (fun b o z => cutO_sub _ _ (S.grown s _ _ z)) _ _ r)⟩
theorem psd_expr (he : PEd X e fe) (hs : swapsWith e none pos.line X.env = pure false := by rfl) : PSd X (.Expr e pos) (fun ρ => (fe ρ).map fun _ => .nx ρ) :=
  psI (ps_expr he hs) fun E σ H zz10 => by
    obtain ⟨G₀, H₀, ρ, o, ⟨own, S⟩, ee, c⟩ := zz10
    dsimp only at ee
    cases ed : fe ρ with
    | none => rw [ed] at ee; cases ee
    | some d =>
      rw [ed] at ee
      cases ee
      exact ⟨_, ρ, d, S.sub, S.rep, ed, fun v H' s r => c _ _ ⟨own, S.grow s⟩⟩
theorem psd_if (hc : PTd X c fc) (ha : PSsd X a f) (hb : PSsd X b g) : PSd X (.If c a b pos) (fun ρ => (fc ρ).bind fun t => if t = true then f ρ else g ρ) :=
  psI (ps_if hc ha hb) fun E σ H zz11 => by
    obtain ⟨G₀, H₀, ρ, o, ⟨own, S⟩, ee, k⟩ := zz11
    obtain ⟨t, et, ee⟩ := bind_some ee
    refine ⟨_, ρ, t, S.sub, S.rep, et, fun H' s => ?_⟩
    cases t with
    | true => rw [if_pos rfl] at ee ⊢; exact ⟨G₀, H₀, ρ, o, ⟨own, S.grow s⟩, ee, k⟩
    | false => rw [if_neg Bool.false_ne_true] at ee ⊢; exact ⟨G₀, H₀, ρ, o, ⟨own, S.grow s⟩, ee, k⟩
/-- name = value -/
theorem psd_set (i : Nat) {x : Str} {pos' : Pos} (hN : X.N.Nodup) (he : PEd X e fe) (hi : X.N[i]? = some x := by rfl) (hx : Loc X.env.scope x := by first | exact Or.inl rfl | exact Or.inr rfl)
    (hs : swapsWith e (some (.Name x pos')) pos.line X.env = pure false := by rfl) (hf : X.fn x = true ∨ X.env.scope.names.lookup x = some .local := by first | exact .inl rfl | exact .inr rfl) :
    PSd X (.Assign [.Name x pos'] e pos) (fun ρ => (fe ρ).map fun d => .nx (ρ.set i (some d))) :=
  psI (ps_set hN hi hx he hs hf) fun E σ H zz12 => by
    obtain ⟨G₀, H₀, ρ, o, ⟨own, S⟩, ee, k⟩ := zz12
    dsimp only at ee
    cases ed : fe ρ with
    | none => rw [ed] at ee; cases ee
    | some d =>
      rw [ed] at ee
      cases ee
      exact ⟨_, ρ, d, S.sub, S.rep, ed, fun v H' s r => k _ _ ⟨_, (S.grow s).set (Rep.mono (S.grown s) _ _ r)⟩⟩
theorem pssd_freeze (i : Nat) (h : PSsd X rest g) : PSsd X rest (fun ρ => g (freezeE i ρ)) :=
  pssI h fun E σ H ⟨G₀, H₀, ρ, o, ⟨own, S⟩, ee, k⟩ => ⟨G₀, H₀, freezeE i ρ, o, S.freeze i, ee, k⟩
/-- an expression that makes a list of its own -/
def tDF (K : PySem.W.Frag) (f : Env → Option (List D)) : TE := fun σ H Q => ∃ G ρ ds, Same G H ∧ RepSt K G σ ρ ∧ f ρ = some ds ∧ ∀ l H' xs, Same H H' → H l = none → H' l = some (.lst xs) → RepL K (butL l (ext G H H')) ds xs → Q (.ref l) H'
def PFd (X : Cx) (e : Expr) (f : Env → Option (List D)) : Prop := PE X e (tDF X.K f)
variable {es : List Expr} {fs : Env → Option (List D)}
theorem butL_ext {G H H1 : Hp} {p : Addr} {o : HO} (s : Same H H1) (h : H1 p = none) : Same (ext G H H1) (butL p (ext G H (upd H1 p o))) := fun b u e => by
  have hp : H p = none := s.free h
  have hb : b ≠ p := fun z => by rw [z, ext_none hp, h] at e; cases e
  unfold butL
  rw [if_neg hb]
  cases q : H b with
  | none => rw [ext_none q] at e ⊢; rw [upd_ne hb]; exact e
  | some z => rw [ext_some q] at e ⊢; exact e
theorem pf_lst (h : PAd X es fs) : PFd X (.List es pos) (fun ρ => (fs ρ).bind fun ds => if ds.length ≤ 1000 then some ds else none) :=
  peI (pe_lst h) fun σ H Q zz14 => by
    obtain ⟨G, ρ, d, g, R, e, q⟩ := zz14
    obtain ⟨ds, ex, e⟩ := bind_some e
    split at e
    · rename_i hl
      cases e
      refine ⟨G, ρ, _, g, R, ex, fun vs H1 s1 r1 => ⟨by rw [← r1.length]; exact line1000 hl, fun p hp => ?_⟩⟩
      exact q _ _ _ (s1.trans (upd_same' hp)) (s1.free hp) upd_same (RepL.mono (butL_ext s1 hp) _ _ r1)
    · cases e
/-- name = a list of its own -/
theorem psd_own (i : Nat) {x : Str} {pos' : Pos} {ff : Env → Option (List D)} (hN : X.N.Nodup) (he : PFd X e ff) (hi : X.N[i]? = some x := by rfl) (hx : Loc X.env.scope x := by first | exact Or.inl rfl | exact Or.inr rfl)
    (hs : swapsWith e (some (.Name x pos')) pos.line X.env = pure false := by rfl) (hf : X.fn x = true ∨ X.env.scope.names.lookup x = some .local := by first | exact .inl rfl | exact .inr rfl) :
    PSd X (.Assign [.Name x pos'] e pos) (fun ρ => (ff ρ).bind fun ds => if i < ρ.length then some (.nx (ρ.set i (some (.own ds)))) else none) :=
  psI (ps_set hN hi hx he hs hf) fun E σ H zz16 => by
    obtain ⟨G₀, H₀, ρ, o, ⟨own, S⟩, ee, k⟩ := zz16
    obtain ⟨ds, ed, ee⟩ := bind_some ee
    split at ee
    · rename_i hlt
      cases ee
      exact ⟨_, ρ, ds, S.sub, S.rep, ed, fun l H' xs s hl h1 r => k _ _ ⟨_, S.setOwn s hl h1 r hlt⟩⟩
    · cases ee
/-- xs.append(e), xs a slot's own list -/
theorem psd_append (i : Nat) {x : Str} {px pa pc : Pos} (he : PEd X e fe) (hN : X.N[i]? = some x := by rfl) (hv : Vis X.env.scope x := by first | exact Or.inl rfl | exact Or.inr (Or.inl rfl) | exact Or.inr (Or.inr rfl)) (hd : (x == ("__debug__" : Str)) = false := by decide)
    (hcd : (x == ("__classdict__" : Str)) = false := by decide) (hse : starEach [e] X.env = (false, eval e X.env) :: starEach [] X.env := by rfl)
    (hbase : attributeBase (.Name x px) "append" X.env (eval (.Name x px) X.env) = eval (.Name x px) X.env := by rfl)
    (hfew : ((backTo pc (starEach [e] X.env)).all (fun x => !x.1) && (backToKw pc (keywordEach [] X.env)).all (fun x => x.1.isSome)
      && decide ([e].length + ([] : List Keyword).length + (if ([] : List Keyword).isEmpty then 0 else 1) < 30)) = true := by rfl)
    (hline : (pa.endLine == pc.line) = true := by rfl) (hplain : (backTo pc (starEach [] X.env)).any (·.1) = false := by rfl)
    (hs : swapsWith (.Call (.Attribute (.Name x px) "append" pa) [e] [] pc) none pos.line X.env = pure false := by rfl) :
    PSd X (.Expr (.Call (.Attribute (.Name x px) "append" pa) [e] [] pc) pos) (fun ρ => match ρ[i]? with
      | some (some (.own ds)) => (fe ρ).bind fun d => if ds.length < 1000 then some (.nx (ρ.set i (some (.own (ds ++ [d]))))) else none
      | _ => none) :=
  psI (ps_expr (pe_bm PySem.F.plainAttrs_list PySem.F.slot_list_append PySem.F.type_list_append mt_append (pe_var hN hv hd hcd) (pa_cons he pa_nil hse) hbase hfew hline hse hplain) hs) fun E σ H zz17 => by
    obtain ⟨G₀, H₀, ρ, o, ⟨own, S⟩, ee, k⟩ := zz17
    dsimp only at ee
    split at ee
    · rename_i ds q
      obtain ⟨d, ed, ee⟩ := bind_some ee
      split at ee
      · rename_i hlt
        cases ee
        obtain ⟨l, el⟩ := S.has i ds q
        obtain ⟨h0, ds', xs, a, b, c, dd⟩ := S.at' i l el
        rw [q] at a
        cases a
        refine ⟨.ref l, b, .inl ⟨rfl, _, SqL.of c⟩, ?_⟩
        refine ⟨_, ρ, d, S.sub, S.rep, ed, fun v H1 s1 r1 => ?_⟩
        refine ⟨l, xs, v, rfl, rfl, s1 _ _ c, by rw [← dd.length]; exact small1000 (Nat.le_of_lt hlt), k _ _ ⟨own, ?_⟩⟩
        exact (S.grow s1).write el (RepL.append (RepL.mono (S.step s1) _ _ dd) ⟨v, [], rfl, Rep.mono (S.grown s1) _ _ r1, rfl⟩)
      · cases ee
    · cases ee
def runWhile (fc : Env → Option Bool) (fb : Env → Option Out) : Nat → Env → Option Out
  | 0, _ => none
  | n + 1, ρ => match fc ρ with
    | some true => match fb ρ with
      | some (.nx ρ') => runWhile fc fb n ρ'
      | some (.ct ρ') => runWhile fc fb n ρ'
      | some (.bk ρ') => some (.nx ρ')
      | some (.rt d) => some (.rt d)
      | some (.ex C ρ') => some (.ex C ρ')
      | none => none
    | some false => some (.nx ρ)
    | none => none
theorem psd_while (fuel : Env → Nat) {body : List Stmt} {fb : Env → Option Out} (hc : PTd X c fc) (hb : PSsd X body fb) (hp : PassesOwn (model X.prog X.w) X.A X.env X.xe := by exact PassesOwn.never) : PSd X (.While c body [] pos) (fun ρ => runWhile fc fb (fuel ρ) ρ) :=
  psI (ps_while hp hc hb) fun E σ H zz18 => by
    obtain ⟨G₀, H₀, ρ, o, S, ee, k⟩ := zz18
    refine ⟨fun m σ H => ∃ ρ, StOk X.K G₀ H₀ H σ ρ ∧ runWhile fc fb m ρ = some o, ⟨_, ρ, S, ee⟩, ?_⟩
    rintro m σ H ⟨ρ, ⟨own, S⟩, ee⟩
    cases m with
    | zero => cases ee
    | succ m =>
      unfold runWhile at ee
      split at ee
      · rename_i ec
        refine ⟨_, ρ, true, S.sub, S.rep, ec, fun H1 s1 => iteT ?_⟩
        refine ⟨fun σ' H' => ∃ ρ', StOk X.K G₀ H₀ H' σ' ρ' ∧ runWhile fc fb m ρ' = some o, fun σ' H' ⟨ρ', S', e'⟩ => ⟨m, Nat.lt_succ_self m, ρ', S', e'⟩, ?_⟩
        split at ee
        · rename_i ρ' eb; exact ⟨G₀, H₀, ρ, _, ⟨own, S.grow s1⟩, eb, fun σ' H' S' => ⟨ρ', S', ee⟩⟩
        · rename_i ρ' eb; exact ⟨G₀, H₀, ρ, _, ⟨own, S.grow s1⟩, eb, fun σ' H' S' => ⟨ρ', S', ee⟩⟩
        · rename_i ρ' eb; cases ee; exact ⟨G₀, H₀, ρ, _, ⟨own, S.grow s1⟩, eb, fun σ' H' S' => k σ' H' S'⟩
        · rename_i d eb; cases ee; exact ⟨G₀, H₀, ρ, _, ⟨own, S.grow s1⟩, eb, k⟩
        · rename_i C1 ρ' eb; cases ee; exact ⟨G₀, H₀, ρ, _, ⟨own, S.grow s1⟩, eb, k⟩
        · cases ee
      · rename_i ec
        cases ee
        refine ⟨_, ρ, false, S.sub, S.rep, ec, fun H1 s1 => iteF ?_⟩
        exact k _ _ ⟨own, S.grow s1⟩
      · cases ee
def tDG (K : PySem.W.Frag) (ft : D → Env → Option Env) : TG := fun v σ H Q => ∃ own G₀ H₀ ρ d ρ', StO K own G₀ H₀ H σ ρ ∧ Rep K (view own G₀ H₀ H) d v ∧ ft d ρ = some ρ' ∧ ∀ σ' H', StOk K G₀ H₀ H' σ' ρ' → Q σ' H'
def PGd (X : Cx) (tg : Expr) (ft : D → Env → Option Env) : Prop := PG X tg (tDG X.K ft)
theorem pgd_name (i : Nat) {x : Str} (hN : X.N.Nodup) (hi : X.N[i]? = some x := by rfl) (hx : Loc X.env.scope x := by first | exact Or.inl rfl | exact Or.inr rfl) (hf : X.fn x = true ∨ X.env.scope.names.lookup x = some .local := by first | exact .inl rfl | exact .inr rfl) :
    PGd X (.Name x pos) (fun d ρ => some (ρ.set i (some d))) := fun pins s σ H v u Q I r zz19 => by
  obtain ⟨own, G₀, H₀, ρ, d, ρ', S, rd, e, k⟩ := zz19
  cases e
  exact pg_name hN hi hx hf pins s σ H v u Q I r (k _ _ ⟨_, S.set rd⟩)
/-- a, b = a pair -/
theorem pgd_pair (i j : Nat) {x y : Str} {px py pt : Pos} {kt} (hN : X.N.Nodup) (hc : X.calm = true := by rfl) (hi : X.N[i]? = some x := by rfl) (hx : Loc X.env.scope x := by first | exact Or.inl rfl | exact Or.inr rfl) (hf : X.fn x = true ∨ X.env.scope.names.lookup x = some .local := by first | exact .inl rfl | exact .inr rfl)
    (hj : X.N[j]? = some y := by rfl) (hy : Loc X.env.scope y := by first | exact Or.inl rfl | exact Or.inr rfl) (hfy : X.fn y = true ∨ X.env.scope.names.lookup y = some .local := by first | exact .inl rfl | exact .inr rfl) :
    PGd X (.Tuple [.Name x px, .Name y py] kt pt) (fun d ρ => match d with | .tup [d1, d2] => some ((ρ.set i (some d1)).set j (some d2)) | _ => none) := fun pins s σ H v u Q I r zz20 => by
  obtain ⟨own, G₀, H₀, ρ, d, ρ', S, rd, e, k⟩ := zz20
  dsimp only at e
  split at e
  · rename_i d1 d2
    cases e
    obtain ⟨a, xs, e1, hq, v1, r1, e2, h1, v2, r2, e3, h2, e4⟩ := rd
    subst e1 e4 e3 e2
    refine pg_tup (X := X) hc (pgs_cons (pg_name hN hi hx hf) (pgs_cons (pg_name hN hj hy hfy) pgs_nil)) rfl rfl pins s σ H _ u Q I r ⟨a, _, rfl, sqt_mono S.sub hq, rfl, v1, _, rfl, v2, _, rfl, rfl, ?_⟩
    exact k _ _ ⟨_, (S.set (i := i) h1).set (Rep.mono (dropO_mono i) _ _ h2)⟩
  · cases e
/-- an iterator that yields ds, as long as V stands -/
def ItD (K : PySem.W.Frag) (J : It) (ds : List D) (V : Hp) : Prop := ∀ H, Same V H → (∀ i, i < ds.length → J.go i H) ∧ (∀ i x H' d, J.yld i H x H' → ds[i]? = some d → Same H H' ∧ Rep K (ext V H H') d x) ∧ J.stop ds.length H
def tDI (K : PySem.W.Frag) (fi : Env → Option (List D)) : TI := fun σ H R => ∃ G ρ ds, Same G H ∧ RepSt K G σ ρ ∧ fi ρ = some ds ∧ ∀ J H', Same H H' → ItD K J ds (ext G H H') → R J H'
def PId (X : Cx) (tg iter : Expr) (fi : Env → Option (List D)) : Prop := PI X tg iter (tDI X.K fi)
theorem piI {X : Cx} {tg e : Expr} {t t' : TI} (h : PI X tg e t) (i : ∀ σ H Q, t' σ H Q → t σ H Q) : PI X tg e t' := fun pins s σ H Q I w => h pins s σ H Q I (i σ H Q w)
variable {tg : Expr}
def seqD : D → Option (List D)
  | .lst ds => some ds
  | _ => none
theorem pid_list (h : PEd X e fe) : PId X tg e (fun ρ => (fe ρ).bind seqD) :=
  piI (pi_list h) fun σ H R zz21 => by
    obtain ⟨G, ρ, ds, g, RS, ee, q⟩ := zz21
    obtain ⟨d, ed, ee⟩ := bind_some ee
    refine ⟨G, ρ, d, g, RS, ed, fun v H1 s1 r1 => ?_⟩
    unfold seqD at ee; split at ee
    · cases ee
      obtain ⟨a, xs, rfl, ha, rl⟩ := r1
      refine ⟨a, rfl, ⟨xs, SqL.of (ext_sub g s1 _ _ ha)⟩, q _ _ s1 fun H2 s2 => ⟨fun i hi => ?_, fun i x H' d' y ed' => ?_, ⟨xs, SqL.of (s2 _ _ ha), by rw [rl.length]; exact Nat.le_refl _⟩⟩⟩
      · have hx : i < xs.length := by rw [← rl.length]; exact hi
        exact ⟨xs, xs[i], SqL.of (s2 _ _ ha), by simp [hx]⟩
      · obtain ⟨e1, y⟩ := y
        subst e1
        obtain ⟨v, ev, rv⟩ := rl.get ed'
        have := y xs (SqL.of (s2 _ _ ha))
        rw [ev] at this
        cases this
        exact ⟨Same.refl _, by rw [ext_refl s2]; exact rv⟩
    · cases ee
/-- the ints of a range -/
def rngD (lo : Int) (n : Nat) : List D := (List.range n).map fun (i : Nat) => .int (lo + (i : Int))
theorem itr_rng {K : PySem.W.Frag} {lo : Int} {n : Nat} {V : Hp} : ItD K (Itr lo n) (rngD lo n) V := fun H s => by
  refine ⟨fun i hi => (by show i < n; simpa [rngD] using hi), fun i x H' d y e => ?_, ?_⟩
  · obtain ⟨e1, e2⟩ := y
    subst e1 e2
    refine ⟨Same.refl _, ?_⟩
    unfold rngD at e
    rw [List.getElem?_map] at e
    cases q : (List.range n)[i]? with
    | none => rw [q] at e; cases e
    | some j =>
      rw [q] at e
      cases e
      have : i = j := by
        rw [List.getElem?_eq_some_iff] at q
        obtain ⟨h1, h2⟩ := q
        simpa using h2
      subst this
      rfl
  · show n ≤ (rngD lo n).length
    simp [rngD]
def rng1D : List D → Option (List D)
  | [.int j] => if -(2 ^ 62) ≤ j ∧ j < 2 ^ 62 then some (rngD 0 j.toNat) else none
  | _ => none
theorem pid_range1 {ea : Expr} {p pc : Pos} (hm : X.mg "range" = none) (ha : PAd X [ea] fs) (hg : Gl X "range" := by rfl) (hs : starEach [ea] X.env = [(false, eval ea X.env)] := by rfl) : PId X tg (.Call (.Name "range" p) [ea] [] pc) (fun ρ => (fs ρ).bind rng1D) :=
  piI (pi_range1 hg hm ha hs) fun σ H R zz23 => by
    obtain ⟨G, ρ, ds, g, RS, ee, q⟩ := zz23
    obtain ⟨as, ed, ee⟩ := bind_some ee
    refine ⟨G, ρ, as, g, RS, ed, fun vs H1 s1 r1 => ?_⟩
    unfold rng1D at ee; split at ee
    · rename_i j
      split at ee
      · rename_i h
        cases ee
        obtain ⟨v, r', e1, e2, e3⟩ := r1
        cases e2
        cases e3
        exact ⟨j, e1, h.1, h.2, q _ _ s1 itr_rng⟩
      · cases ee
    · cases ee
def runFor (ft : D → Env → Option Env) (fb : Env → Option Out) : List D → Env → Option Out
  | [], ρ => some (.nx ρ)
  | d :: ds, ρ => match ft d ρ with
    | none => none
    | some ρ1 => match fb ρ1 with
      | some (.nx ρ') => runFor ft fb ds ρ'
      | some (.ct ρ') => runFor ft fb ds ρ'
      | some (.bk ρ') => some (.nx ρ')
      | some (.rt d) => some (.rt d)
      | some (.ex C ρ') => some (.ex C ρ')
      | none => none
theorem psd_for {iter : Expr} {body : List Stmt} {fi : Env → Option (List D)} {ft : D → Env → Option Env} {fb : Env → Option Out} (hi : PId X tg iter fi) (hg : PGd X tg ft) (hb : PSsd X body fb) (hp : PassesOwn (model X.prog X.w) X.A X.env X.xe := by exact PassesOwn.never) (hc : X.calm = true := by rfl)
    (hs : ∀ x, foldedSetIterable iter X.env x = pure x := by intro _; rfl) : PSd X (.For tg iter body [] pos) (fun ρ => (fi ρ).bind fun ds => runFor ft fb ds ρ) :=
  psI (ps_for hp hc hi hg hb hs) fun E σ H zz25 => by
    obtain ⟨G₀, H₀, ρ, o, ⟨own, S⟩, ee, k⟩ := zz25
    obtain ⟨ds, ed, ee⟩ := bind_some ee
    refine ⟨_, ρ, ds, S.sub, S.rep, ed, fun J H1 s1 itd => ?_⟩
    obtain ⟨B, S1⟩ := S.base s1
    have k1 := Ctn.rebase B S.g0 k
    generalize hG : ext (view own G₀ H₀ H) H H1 = G1 at *
    generalize hH : cutO own H1 = HB at *
    refine ⟨fun i m σ H => m = ds.length - i ∧ i ≤ ds.length ∧ ∃ ρ, StOk X.K G1 HB H σ ρ ∧ runFor ft fb (ds.drop i) ρ = some o, ⟨ds.length, rfl, Nat.zero_le _, ρ, ⟨own, S1⟩, ee⟩, ?_⟩
    rintro i m σ' H' ⟨rfl, hi, ρ', ⟨own', S'⟩, e'⟩
    obtain ⟨go, yld, stop⟩ := itd H' fun b u z => S'.same _ _ (S'.g0 _ _ z)
    by_cases hlt : i < ds.length
    · refine .inr ⟨go i hlt, fun σ2 H2 => ∃ ρ2, StOk X.K G1 HB H2 σ2 ρ2 ∧ runFor ft fb (ds.drop (i + 1)) ρ2 = some o, fun σ2 H2 ⟨ρ2, S2, e2⟩ => ⟨ds.length - (i + 1), by omega, rfl, hlt, ρ2, S2, e2⟩, fun x H2 y => ?_⟩
      obtain ⟨sy, ry⟩ := yld i x H2 ds[i] y (by simp [hlt])
      rw [List.drop_eq_getElem_cons hlt] at e'
      unfold runFor at e'
      split at e'
      · cases e'
      · rename_i ρ1 et
        -- the item stands in the view
        have rx : Rep X.K (view own' G1 HB H2) ds[i] x := by
          refine Rep.mono (fun b u z => ?_) _ _ ry
          cases q : H' b with
          | none =>
            rw [ext_none q] at z
            unfold view
            rw [cutO_not (S'.notown q), ext_none (S'.same.free q)]
            exact z
          | some w =>
            rw [ext_some q] at z
            have z1 := S'.g0 _ _ z
            have hno : ∀ j, own' j ≠ some b := fun j ej => by
              have h0 := (S'.at' j b ej).1
              rw [h0] at z1; cases z1
            unfold view
            rw [cutO_not hno, ext_some z1]
            exact z
        refine ⟨own', G1, HB, ρ', ds[i], ρ1, S'.grow sy, rx, et, fun σ3 H3 S3 => ?_⟩
        split at e'
        · rename_i ρ4 eb; exact ⟨G1, HB, ρ1, _, S3, eb, fun σ4 H4 S4 => ⟨ρ4, S4, e'⟩⟩
        · rename_i ρ4 eb; exact ⟨G1, HB, ρ1, _, S3, eb, fun σ4 H4 S4 => ⟨ρ4, S4, e'⟩⟩
        · rename_i ρ4 eb; cases e'; exact ⟨G1, HB, ρ1, _, S3, eb, fun σ4 H4 S4 => k1 σ4 H4 S4⟩
        · rename_i d eb; cases e'; exact ⟨G1, HB, ρ1, _, S3, eb, k1⟩
        · rename_i C1 ρ4 eb; cases e'; exact ⟨G1, HB, ρ1, _, S3, eb, k1⟩
        · cases e'
    · have e1 : i = ds.length := by omega
      subst e1
      rw [List.drop_length] at e'
      cases e'
      exact .inl ⟨stop, k1 _ _ ⟨own', S'⟩⟩
end
end DL
set_option Elab.async false
set_option linter.all false
set_option maxRecDepth 100000
namespace DL
open PySem PySem.Spec PyProof.Rows L2
section
variable {X : Cx} {pos : Pos} {es : List Expr} {fs : Env → Option (List D)}
end
def SpD (K : PySem.W.Frag) (g : List D → Option D) : Sp := fun vs H Q _ => ∃ G ds d, Same G H ∧ RepL K G ds vs ∧ g ds = some d ∧ ∀ v H', Same H H' → Rep K (ext G H H') d v → Q v H'
structure Fn (P : Program) (w : World) (K : PySem.W.Frag) (mg : Str → Option Value) (base : Heap) (k : Nat) (x : Str) (ps : List Str) (g : List D → Option D) : Prop where
  ex : ∃ f fd, FnOk P w K mg base CX0 k f fd ps (SpD K g) ∧ mg x = some (.ref f) ∧ PySem.W.keepIn K (.ref f) = true ∧ Binds K fd ps []
/-- a narrower promise -/
theorem Fn.imp {P : Program} {w : World} {K : PySem.W.Frag} {mg : Str → Option Value} {base : Heap} {k : Nat} {x : Str} {ps : List Str} {g g' : List D → Option D} (F : Fn P w K mg base k x ps g) (h : ∀ ds d, g' ds = some d → g ds = some d) : Fn P w K mg base k x ps g' := by
  obtain ⟨f, fd, a, b, c, d⟩ := F.ex
  exact ⟨f, fd, a.imp fun vs H Q E ⟨G, ds, d, g, r, e, q⟩ => ⟨G, ds, d, g, r, h _ _ e, q⟩, b, c, d⟩
section
variable {X : Cx} {pos p : Pos} {e : Expr} {es : List Expr} {fs : Env → Option (List D)} {x : Str} {ps : List Str} {g : List D → Option D} {k : Nat}
theorem pd_call (F : Fn X.prog X.w X.K X.mg X.base k x ps g) (hr : Room k X.A) (ha : PAd X (e :: es) fs) (hg : Gl X x := by rfl) (hdb : (x == ("__debug__" : Str)) = false := by decide) (he : starEach (e :: es) X.env = (false, eval e X.env) :: starEach es X.env := by rfl) (hpl : (backTo pos (starEach es X.env)).any (·.1) = false := by rfl) :
    PEd X (.Call (.Name x p) (e :: es) [] pos) (fun ρ => (fs ρ).bind g) := by
  obtain ⟨f, fd, G, hm, hk, hb⟩ := F.ex
  refine peI (pe_call G hr hg hm hk hb .nil (pass0 (X := X)) ha hdb he hpl) fun σ H Q zr1 => ?_
  obtain ⟨G, ρ, d, g0, R, ee, q⟩ := zr1
  obtain ⟨ds, ex, ee⟩ := bind_some ee
  refine ⟨G, ρ, ds, g0, R, ex, fun vs H1 s1 r1 => ⟨_, ds, d, ext_sub g0 s1, by rw [List.append_nil]; exact r1, ee, wish1 s1 q⟩⟩
end
/-- the slots at the entry -/
def startD (N : List Str) (ds : List D) : Env := ds.map some ++ List.replicate (N.length - ds.length) none
def retO : Out → Option D
  | .rt d => some d
  | .nx _ => some .non
  | _ => none
theorem start_rep {K : PySem.W.Frag} {G : Hp} {N : List Str} {ds : List D} {vs : List V} (r : RepL K G ds vs) : RepSt K G (start N vs) (startD N ds) := fun i d e => by
  have e1 := getE_some e
  unfold startD at e1
  by_cases hi : i < ds.length
  · rw [List.getElem?_append_left (by simpa using hi), List.getElem?_map] at e1
    cases q : ds[i]? with
    | none => rw [q] at e1; cases e1
    | some d' =>
      rw [q] at e1
      cases e1
      obtain ⟨v, ev, rv⟩ := r.get q
      refine ⟨v, ?_, rv⟩
      unfold L2.start
      have hv : i < vs.length := (List.getElem?_eq_some_iff.mp ev).1
      rw [List.getElem?_append_left (by simpa using hv), List.getElem?_map, ev]
      rfl
  · rw [List.getElem?_append_right (by simpa using hi), List.getElem?_replicate] at e1
    split at e1 <;> cases e1
theorem start_noown {N : List Str} {ds es : List D} {i : Nat} {K : PySem.W.Frag} {G : Hp} {vs : List V} (r : RepL K G ds vs) (e1 : (startD N ds)[i]? = some (some (.own es))) : False := by
  unfold startD at e1
  by_cases hi : i < ds.length
  · rw [List.getElem?_append_left (by simpa using hi), List.getElem?_map] at e1
    cases q : ds[i]? with
    | none => rw [q] at e1; cases e1
    | some d' =>
      rw [q] at e1
      cases e1
      obtain ⟨v, ev, rv⟩ := r.get q
      simp [Rep] at rv
  · rw [List.getElem?_append_right (by simpa using hi), List.getElem?_replicate] at e1
    split at e1 <;> cases e1
theorem start_ok {K : PySem.W.Frag} {G H : Hp} {N : List Str} {ds : List D} {vs : List V} (g : Same G H) (r : RepL K G ds vs) : StOk K G H H (start N vs) (startD N ds) := by
  have e0 : cutO (fun _ => none) (ext G H H) = G := by
    funext b
    rw [cutO_not (own := fun _ => none) (fun i z => by cases z), ext_refl g]
  refine ⟨fun _ => none, g, Same.refl H, ?_, (fun i l z => by cases z), (fun i j l z => by cases z), (fun i es e1 => (start_noown r e1).elim), ?_⟩
  · unfold L2.start startD
    rw [List.length_append, List.length_append, List.length_map, List.length_map, List.length_replicate, List.length_replicate, r.length]
  · rw [e0]; exact start_rep r
/-- THE RULE for a def -/
theorem Fn.ok1 {P : Program} {w : World} {K : PySem.W.Frag} {mg : Str → Option Value} {base : Heap} {x qual : Str} {st : Stmt} {f : Addr} {fd : FuncData} {N ps : List Str} {k : Nat} {g : List D → Option D} (F : Fun K x qual st f fd) (S : FnScope N ps (defScope st))
    (len : ∀ ds d, g ds = some d → ds.length = ps.length)
    (body : ∀ (cdv : Value) (A : Around) (outer : List PySem.Env) (s : Shared) (H : Hp) (E : XK), Room k (cxOf CX0 P w K mg base N qual (defScope st) f cdv A outer s H E).nox.A →
      ∃ fb, PSsd (cxOf CX0 P w K mg base N qual (defScope st) f cdv A outer s H E).nox (defBody st) fb ∧ ∀ ds d, g ds = some d → (fb (startD N ds)).bind retO = some d) : FnOk P w K mg base CX0 (k + 1) f fd ps (SpD K g) := by
  refine F.ok S (fun vs H Q E zz2 => by obtain ⟨G, ds, d, g, r, e, q⟩ := zz2; rw [← r.length]; exact len _ _ e) (fun cdv A outer s H vs Q E hr zr2 => ?_)
  obtain ⟨G, ds, d, g0, r, e, q⟩ := zr2
  obtain ⟨fb, h1, h2⟩ := body cdv A outer s H E hr
  refine ⟨_, h1, ?_⟩
  obtain ⟨o, eo, er⟩ := bind_some (h2 ds d e)
  refine ⟨G, H, _, o, start_ok g0 r, eo, ?_⟩
  cases o with
  | rt d' => cases er; exact fun v H' s r => q v H' s r
  | nx ρ => cases er; exact fun σ H' ⟨own, S'⟩ => q _ _ S'.same rfl
  | bk ρ => cases er
  | ct ρ => cases er
  | ex C ρ => cases er
theorem Fn.of {P : Program} {w : World} {K : PySem.W.Frag} {mg : Str → Option Value} {base : Heap} {x qual : Str} {st : Stmt} {f : Addr} {fd : FuncData} {N ps : List Str} {k : Nat} {g : List D → Option D} (F : Fun K x qual st f fd) (S : FnScope N ps (defScope st))
    (hm : mg x = some (.ref f)) (hb : Binds K fd ps []) (len : ∀ ds d, g ds = some d → ds.length = ps.length)
    (body : ∀ (cdv : Value) (A : Around) (outer : List PySem.Env) (s : Shared) (H : Hp) (E : XK), Room k (cxOf CX0 P w K mg base N qual (defScope st) f cdv A outer s H E).nox.A →
      ∃ fb, PSsd (cxOf CX0 P w K mg base N qual (defScope st) f cdv A outer s H E).nox (defBody st) fb ∧ ∀ ds d, g ds = some d → (fb (startD N ds)).bind retO = some d) : Fn P w K mg base (k + 1) x ps g :=
  ⟨f, fd, Fn.ok1 F S len body, hm, F.kp, hb⟩
end DL
set_option Elab.async false
set_option linter.all false
set_option maxRecDepth 100000
namespace DL
open PySem PySem.Spec PyProof.Rows L2
def mapO (f : D → Option D) : List D → Option (List D)
  | [] => some []
  | d :: ds => (f d).bind fun e => (mapO f ds).bind fun es => some (e :: es)
theorem mapO_len {f : D → Option D} : ∀ {ds es : List D}, mapO f ds = some es → es.length = ds.length
  | [], es, h => by cases h; rfl
  | d :: ds, es, h => by
    obtain ⟨e, _, h⟩ := bind_some h
    obtain ⟨r, hr, h⟩ := bind_some h
    cases h
    simp [mapO_len hr]
theorem mapO_get {f : D → Option D} : ∀ {ds es : List D} {i : Nat} {d : D}, mapO f ds = some es → ds[i]? = some d → ∃ e, es[i]? = some e ∧ f d = some e
  | [], es, i, d, h, g => by simp at g
  | d' :: ds, es, 0, d, h, g => by
    obtain ⟨e, he, h⟩ := bind_some h
    obtain ⟨r, hr, h⟩ := bind_some h
    cases h
    simp at g
    subst g
    exact ⟨e, by simp, he⟩
  | d' :: ds, es, i + 1, d, h, g => by
    obtain ⟨e, he, h⟩ := bind_some h
    obtain ⟨r, hr, h⟩ := bind_some h
    cases h
    obtain ⟨e', h1, h2⟩ := mapO_get (i := i) hr (by simpa using g)
    exact ⟨e', by simpa using h1, h2⟩
/-- the block's context -/
def compCx (X : Cx) (N' : List Str) (scope : Scope) (cl : List (Str × Addr)) (C : Addr) (s₂ : Shared) (H₂ : Hp) (fp : List Addr) : Cx :=
  { X with N := N', s₀ := s₂, H₀ := H₂, env := compEnvC scope cl C X.env, outer := X.stack, stack := X.stack, ex := fp, fn := fun _ => false, pn := [], xe := fun _ _ => False }
/-- the captured names: their slots outside, their cells -/
def CapsOk (X : Cx) (scope : Scope) : List Nat → List Str → Prop
  | [], [] => True
  | j :: js, y :: ys => (X.N[j]? = some y ∧ X.env.kindOf y = some .cell ∧ (relabel scope X.env).names.lookup y = some .cell) ∧ CapsOk X scope js ys
  | _, _ => False
theorem CapsOk.get {X : Cx} {scope : Scope} : ∀ {js : List Nat} {ys : List Str} {t : Nat} {y : Str}, CapsOk X scope js ys → ys[t]? = some y → ∃ j, js[t]? = some j ∧ X.N[j]? = some y ∧ X.env.kindOf y = some .cell ∧ (relabel scope X.env).names.lookup y = some .cell
  | [], [], t, y, _, e => by simp at e
  | [], _ :: _, _, _, h, _ => h.elim
  | _ :: _, [], _, _, h, _ => h.elim
  | j :: js, z :: ys, 0, y, h, e => by simp at e; subst e; exact ⟨j, by simp, h.1⟩
  | j :: js, z :: ys, t + 1, y, h, e => by
    obtain ⟨j', e1, h1⟩ := CapsOk.get (t := t) h.2 (by simpa using e)
    exact ⟨j', by simpa using e1, h1⟩
/-- what is asked of a comprehension's text -/
structure CompOk (X : Cx) (scope : Scope) (cl : List (Str × Addr)) (x : Str) (caps : List Nat) (ys : List Str) : Prop where
  clos : closureFor scope X.env = pure cl
  cell : ∀ y ∈ scope.names, y.2 ≠ .cell
  kind : scope.kind = .function
  names : ∀ y ∈ scope.names, y.2 = .local → scope.names.lookup y.1 = some .local
  tgt : scope.names.lookup x = some .local
  sub : ∀ p ∈ cl, X.env.cells.lookup p.1 = some p.2
  has : ∀ y ∈ (relabel scope X.env).names, (y.2 = .cell ∨ y.2 = .free) → (cl.lookup y.1).isSome = true
  caps : CapsOk X scope caps ys
  nd : (x :: ys).Nodup
theorem mem_lookup {α β : Type} [BEq α] [LawfulBEq α] {l : List (α × β)} {x : α} {y : β} (h : l.lookup x = some y) : (x, y) ∈ l := by
  induction l with
  | nil => simp at h
  | cons p l ih =>
    obtain ⟨a, b⟩ := p
    rw [List.lookup_cons] at h
    split at h
    · rename_i e
      cases h
      rw [eq_of_beq e]
      exact List.mem_cons_self
    · exact List.mem_cons_of_mem _ (ih h)
section
variable {prog : Program} {w : World} {A : Around} {R : Result → Shared → Prop} {s : Shared}
theorem codeAny_compLoop_own {elt target iter : Expr} {scope : Scope} {pos : Pos} {it acc : Value} {env : PySem.Env} (I : Nat → Shared → Prop)
    (turn : ∀ n s, I n s → wpAny (model prog w) A (pyNext it) (fun r s₁ => match r with
      | none => R (.ok .next) s₁
      | some v => wpAny (model prog w) A (letOwnedTupleGo target it v) (fun _ s₁' => wpAny (model prog w) A (assign target env v) (fun _ s₂ => wpAny (model prog w) A (eval elt env) (fun x s₃ =>
          wpAny (model prog w) A (call (.builtin "list.append") [acc, x]) (fun _ s₄ => ∃ m, m < n ∧ I m s₄) (fun _ _ => False) s₃)
          (fun _ _ => False) s₂) (fun _ _ => False) s₁') (fun _ _ => False) s₁) (fun _ _ => False) s)
    (n : Nat) (h : I n s) :
    codeAny (model prog w) A (.compLoop (.ListComp elt [⟨target, iter, [], 0⟩] scope pos) 0 it acc env) R s := by
  refine codeAny_loop rfl I (fun n s hI => ?_) n h
  show wpAny _ _ ((compTurn (.ListComp elt [⟨target, iter, [], 0⟩] scope pos) 0 it acc env).onRaise (fun x => do noteFrame x env; theTreesLotGoes x)) _ _ s
  refine wpAny_noted ?_
  rw [compTurn_list1]
  refine wpAny_bind (wpAny_standAt (wpAny_bind (wpAny_mono (turn n s hI) (fun r s₁ h₁ => ?_) fun _ _ h' => h'.elim)))
  cases r with
  | none => exact wpAny_pure h₁
  | some v =>
    refine wpAny_bind (wpAny_mono h₁ (fun _ s₁' h₁' => ?_) fun _ _ h' => h'.elim)
    exact wpAny_bind (wpAny_mono h₁' (fun _ s₂ h₂ => wpAny_bind (wpAny_bind (wpAny_mono h₂ (fun x s₃ h₃ => wpAny_bind (wpAny_mono h₃
      (fun _ s₄ h₄ => wpAny_pure (wpAny_pure ⟨rfl, h₄⟩)) fun _ _ h' => h'.elim)) fun _ _ h' => h'.elim))) fun _ _ h' => h'.elim)
end
/-- an address that the block made for itself -/
def Young (X : Cx) (pins : List (Addr × Obj)) (H : Hp) (C : Addr) : Prop := H C = none ∧ C ≠ X.env.locals ∧ X.s₀.heap.objs.size ≤ C ∧ (∀ y c, X.env.cells.lookup y = some c → c ≠ C) ∧ ∀ p ∈ X.pn ++ pins, p.1 ≠ C
theorem Young.inv {X : Cx} {pins : List (Addr × Obj)} {σ : St} {H : Hp} {C : Addr} {s : Shared} {h' : Heap} (y : Young X pins H C) (I : Inv X pins σ H s) (e : Heap.SameBut C s.heap h') : Inv X pins σ H { s with heap := h' } :=
  I.turned (t' := s.toks) (fun b o hb q => (e.2 b hb).trans q) y.1 y.2.1 (.inr y.2.2.1) y.2.2.2.1 y.2.2.2.2
section
variable {X : Cx} {pins : List (Addr × Obj)} {σ : St} {ρ : Env}
theorem comp_block {x : Str} {px pos : Pos} {elt iter : Expr} {scope : Scope} {cl : List (Str × Addr)} {caps : List Nat} {ys : List Str} {fe : Env → Option D} (ok : CompOk X scope cl x caps ys) (hc : X.calm = true)
    (helt : ∀ C s₂ H₂ fp, PEd (compCx X (x :: ys) scope cl C s₂ H₂ fp) elt fe)
    {G H₂ : Hp} {s₂ : Shared} {it : Addr} {fp : List Addr} {tn : Nat → Heap → Prop} {J : It} {ds es : List D} (g : Same G H₂) (RS : RepSt X.K G σ ρ) (I : Inv X pins σ H₂ s₂) (T : Turn X.prog X.w X.K (.Name x px) J fp it tn) (st : tn 0 s₂.heap)
    (hf : ∀ b ∈ fp, FpOk X pins H₂ b) (itd : ItD X.K J ds G) (em : mapO (fun d => fe (some d :: caps.map (getE ρ))) ds = some es) (hes : es.length ≤ 1000) {E : Value → Shared → Prop}
    {RR : Value → Addr → Result → Shared → Prop}
    (fin : ∀ (C acc : Addr) (H' : Hp) (xs : List V) (s' : Shared), Inv X pins σ H' s' → Same H₂ H' → H₂ acc = none → H' acc = some (.lst xs) → RepL X.K (butL acc (ext G H₂ H')) es xs → Young X pins H' C → (∃ m, s'.heap.Ns C m) → RR (.ref acc) C (.ok .next) s') :
    wpAny (model X.prog X.w) X.A (newList []) (fun acc s₃ => wpAny (model X.prog X.w) X.A (newFunctionEnv scope X.env.globals cl [] X.env.qual none .none (some X.env)) (fun cenv s₄ =>
      codeAny (model X.prog X.w) X.A (.compStart (.ListComp elt [⟨.Name x px, iter, [], 0⟩] scope pos) 0 (.ref it) acc { cenv with scope := relabel scope X.env }) (RR acc cenv.locals) s₄) E s₃) E s₂ := by
  refine wpAny_newObj_type (wpAny_newFunctionEnv ok.cell (by intro y hy; simp at hy) (fun h₁ hns₁ hsb₁ => ?_) ok.kind)
  dsimp only at hns₁ hsb₁ ⊢
  generalize hP : s₂.heap.push { cls := .type "list", dict := none, data := .seq ([] : List Value).toArray } = P2 at hns₁ hsb₁ ⊢
  generalize hacc : s₂.heap.objs.size = acc at *
  generalize hC : P2.objs.size = C at *
  have eC : C = acc + 1 := by rw [← hC, ← hP, Heap.size_push, hacc]
  have hAC : acc < C := by rw [eC]; exact Nat.lt_succ_self _
  have old : ∀ b o, s₂.heap.get? b = some o → h₁.get? b = some o := fun b o e => by
    have hb : b < acc := by rw [← hacc]; exact Heap.lt_size e
    exact hsb₁.extBut b o (Nat.ne_of_lt (Nat.lt_trans hb hAC)) (Heap.get?_push_of_some _ (hP ▸ Heap.get?_push_of_some _ e))
  have hl : h₁.get? acc = some { cls := .type "list", data := .seq ([] : List Value).toArray 0 } := by
    refine hsb₁.extBut _ _ (Nat.ne_of_lt hAC) (Heap.get?_push_of_some _ ?_)
    rw [← hP, ← hacc]
    exact Heap.get?_push_size _ rfl
  have n2 : H₂ acc = none := I.hok.fresh (by rw [hacc]; exact Nat.le_refl _)
  have nC : H₂ C = none := I.hok.fresh (by rw [hacc]; exact Nat.le_of_lt hAC)
  have subc : ∀ y c, cl.lookup y = some c → X.env.cells.lookup y = some c := fun y c e => ok.sub (y, c) (mem_lookup e)
  have cne : ∀ y c, X.env.cells.lookup y = some c → c ≠ C := fun y c e z => by
    obtain ⟨v, q⟩ := I.cell y c e
    have := q.lt
    rw [hacc, z] at this
    exact Nat.lt_asymm this hAC
  have fplt : ∀ b ∈ fp, b < acc := fun b hb => by
    obtain ⟨o, ho, _⟩ := T.obj _ _ st b hb
    rw [← hacc]; exact Heap.lt_size ho
  have young : ∀ {H' : Hp}, H' C = none → Young X pins H' C := fun {H'} h => by
    have hl := I.lt
    have hs := I.sz
    rw [hacc] at hl hs
    refine ⟨h, Nat.ne_of_gt (Nat.lt_trans hl hAC), Nat.le_trans hs (Nat.le_of_lt hAC), cne, fun p hp z => ?_⟩
    have := Heap.lt_size (I.pin p hp).1
    rw [hacc, z] at this
    exact Nat.lt_asymm this hAC
  -- the block's context
  let X' : Cx := compCx X (x :: ys) scope cl C s₂ H₂ fp
  have okX : X'.Ok := {
    mod := I.ok.mod
    kind := ok.kind
    glob := I.ok.glob
    blt := I.ok.blt
    above := by show s₂.heap.objs.size ≤ C; rw [hacc]; exact Nat.le_of_lt hAC
    inj := fun y z c h1 h2 => I.ok.inj y z c (subc y c h1) (subc z c h2)
    has := fun y hy => by
      have hy' : (relabel scope X.env).names.lookup y = some .cell ∨ (relabel scope X.env).names.lookup y = some .free := hy
      have q : (cl.lookup y).isSome = true := by
        rcases hy' with h | h
        · exact ok.has (y, .cell) (mem_lookup h) (.inl rfl)
        · exact ok.has (y, .free) (mem_lookup h) (.inr rfl)
      exact Option.isSome_iff_exists.mp q
    cab := fun y c h _ => by cases h
    hd := I.ok.hd
    frames := I.ok.frames
    stk := .inl rfl
    exf := fun b hb => ⟨Nat.ne_of_lt (Nat.lt_trans (fplt b hb) hAC), fun y c e => (hf b hb).2.2.2.2.1 y c (subc y c e)⟩
    bs := I.bs
    bsz := Nat.le_trans I.ok.bsz I.sz
    noex := fun b o e hb => by
      rcases (hf b hb).2.2.2.1 with z | z
      · exact I.ok.noex b o e z
      · exact absurd (Nat.lt_of_lt_of_le (Heap.lt_size e) (Nat.le_trans I.ok.bsz z)) (Nat.lt_irrefl _)
    exfs := fun b hb z => by
      rcases List.mem_cons.mp (I.stkSub b z) with e | e
      · exact (hf b hb).2.1 e
      · exact (hf b hb).2.2.1 e
    funs := I.stack
    frf := I.stkFree }
  have fpok : ∀ {H' : Hp} {pins' : List (Addr × Obj)}, (∀ b ∈ fp, H' b = none) → (∀ p ∈ pins', p.1 ∉ fp) → ∀ b ∈ fp, FpOk X' pins' H' b := fun hn hp b hb =>
    ⟨hn b hb, Nat.ne_of_lt (Nat.lt_trans (fplt b hb) hAC), okX.exfs b hb, .inl hb, fun y c e => (hf b hb).2.2.2.2.1 y c (subc y c e), fun p hp' z => hp p (by simpa [X', compCx] using hp') (z ▸ hb)⟩
  have lenE := mapO_len em
  -- the state at the start
  have I0 : Inv X' [] (none :: caps.map fun j => (σ[j]?).join) (upd H₂ acc (.lst [])) { s₂ with heap := h₁, toks := s₂.toks + ([] : List (Str × Value)).length } := {
    ok := okX
    os := rfl
    bare := I.bare
    base := Un.laid old (by show s₂.heap.objs.size ≤ acc; rw [hacc]; exact Nat.le_refl _) n2
    loc := by
      refine ⟨_, hns₁, fun i y v h1 h2 h3 => ?_⟩
      cases i with
      | zero => simp at h2
      | succ t =>
        have h1' : ys[t]? = some y := by simpa [X', compCx] using h1
        obtain ⟨j, ej, eN, ek, er⟩ := ok.caps.get h1'
        have h2' : σ[j]? = some (some v) := by
          rw [List.getElem?_cons_succ, List.getElem?_map, ej] at h2
          have h2 : (σ[j]?).join = some v := by simpa using h2
          cases q : σ[j]? with
          | none => rw [q] at h2; cases h2
          | some o => rw [q] at h2; exact congrArg some h2
        obtain ⟨m, hn, hl'⟩ := I.loc
        obtain ⟨u, ru, lk⟩ := hl' j y v eN h2' (.inr (.inl ek))
        refine ⟨u, ru, .inr ⟨.inl er, ?_⟩⟩
        rcases lk with ⟨k1, _⟩ | ⟨_, c, ec, q⟩
        · rw [ek] at k1; cases k1
        · obtain ⟨c', ec'⟩ := okX.has y (.inl er)
          have := subc y c' ec'
          rw [ec] at this
          cases this
          obtain ⟨o, ho, hd⟩ := q
          exact ⟨c, ec', o, old _ _ ho, hd⟩
    cell := fun y c e => by
      obtain ⟨v, o, ho, hd⟩ := I.cell y c (subc y c e)
      exact ⟨v, o, old _ _ ho, hd⟩
    free := by
      show upd H₂ acc _ C = none
      rw [upd_ne (Nat.ne_of_gt hAC)]; exact nC
    freeC := fun y c e => by
      have := I.freeC y c (subc y c e)
      obtain ⟨v, q⟩ := I.cell y c (subc y c e)
      have hlt := q.lt
      rw [hacc] at hlt
      rw [upd_ne (Nat.ne_of_lt hlt)]; exact this
    pin := fun p hp => by simp [X', compCx] at hp
    hok := I.hok.laid old (by rw [hacc]; exact Nat.le_refl _) ⟨Nat.zero_le _, [], 0, .nil, hl⟩
    len := by
      have : caps.length = ys.length := by
        have : ∀ (js : List Nat) (ys : List Str), CapsOk X scope js ys → js.length = ys.length := by
          intro js
          induction js with
          | nil => intro ys h; cases ys with | nil => rfl | cons _ _ => exact h.elim
          | cons j js ih => intro ys h; cases ys with | nil => exact h.elim | cons y ys => simp [ih ys h.2]
        exact this _ _ ok.caps
      simp [X', compCx, this] }
  have g0 : ∀ {H' : Hp}, Same H₂ H' → Same G H' := fun s => g.trans s
  have loop : ∀ s₃ : Shared, s₃ = { s₂ with heap := h₁, toks := s₂.toks + ([] : List (Str × Value)).length } →
      codeAny (model X.prog X.w) X.A (.compLoop (.ListComp elt [⟨.Name x px, iter, [], 0⟩] scope pos) 0 (.ref it) (.ref acc) (compEnvC scope cl C X.env)) (RR (.ref acc) C) s₃ := by
    rintro s₃ rfl
    refine codeAny_compLoop_own (fun n s => ∃ (i : Nat) (o : Option V) (Hi : Hp) (xs : List V), n = es.length - i ∧ i ≤ es.length ∧ Inv X' [] (o :: caps.map fun j => (σ[j]?).join) Hi s ∧ tn i s.heap ∧ (∀ b ∈ fp, Hi b = none) ∧ Hi acc = some (.lst xs) ∧ xs.length = i ∧ Same H₂ Hi ∧
      RepL X.K (butL acc (ext G H₂ Hi)) (es.take i) xs) ?_ es.length ⟨0, none, _, [], rfl, Nat.zero_le _, I0, T.keep _ _ _ st fun b hb o e => old b o e, fun b hb => ?_, upd_same, rfl, upd_same' n2, by simp [RepL]⟩
    · rintro n s ⟨i, o, Hi, xs, rfl, hi, Ii, sti, fri, ha, hxl, sm, rl⟩
      obtain ⟨go, yld, stop⟩ := itd Hi (g0 sm)
      by_cases hlt : i < es.length
      · have hds : i < ds.length := by omega
        refine thn (T.item X' rfl rfl rfl hc i [] s _ Hi _ Ii (fpok fri (by simp)) sti (go i hds)) fun r s1 zr1 => ?_
        obtain ⟨u, hr, h4⟩ := zr1
        subst hr
        refine thn h4 fun _ s2 zr2 => ?_
        obtain ⟨x', H', I5, r5, y5, st5, fr5⟩ := zr2
        obtain ⟨sy, ry⟩ := yld i x' H' ds[i] y5 (by simp [hds])
        have I5' := I5.pinned (fpok fr5 (by simp)) (T.obj _ _ st5)
        have ha' : H' acc = some (.lst xs) := sy _ _ ha
        have sm' := sm.trans sy
        refine thn (pg_name (X := X') (i := 0) ok.nd rfl (.inl (lookup_relabel_local ok.tgt)) (.inr (lookup_relabel_local ok.tgt)) _ s2 _ H' x' u (fun σ' H1 => σ' = some x' :: (caps.map fun j => (σ[j]?).join) ∧ H1 = H') I5' r5 ⟨rfl, rfl⟩) fun _ s3 zr3 => ?_
        obtain ⟨σ3, H3, I6, e3, e4⟩ := zr3
        subst e3 e4
        obtain ⟨e, ee, efe⟩ := mapO_get em (show ds[i]? = some ds[i] by simp [hds])
        -- the view
        have gv : Same (butL acc (ext G H₂ H3)) H3 := fun b o z => by
          unfold butL at z
          split at z
          · cases z
          · exact ext_sub g sm' _ _ z
        have capv : Same G (butL acc (ext G H₂ H3)) := fun b o z => by
          have z2 := g _ _ z
          have hb : b ≠ acc := fun q => by rw [q, n2] at z2; cases z2
          unfold butL
          rw [if_neg hb, ext_some z2]
          exact z
        have itv : Same (ext G Hi H3) (butL acc (ext G H₂ H3)) := fun b o z => by
          cases q : Hi b with
          | none =>
            rw [ext_none q] at z
            have hb : b ≠ acc := fun q' => by rw [q', ha] at q; cases q
            unfold butL
            rw [if_neg hb, ext_none (sm.free q)]
            exact z
          | some w =>
            rw [ext_some q] at z
            exact capv _ _ z
        have RS' : RepSt X.K (butL acc (ext G H₂ H3)) (some x' :: caps.map fun j => (σ[j]?).join) (some ds[i] :: caps.map (getE ρ)) := fun t d' ed => by
          cases t with
          | zero =>
            have e1 := getE_some ed
            simp at e1
            subst e1
            exact ⟨x', by simp, Rep.mono itv _ _ ry⟩
          | succ t =>
            have e1 := getE_some ed
            rw [List.getElem?_cons_succ, List.getElem?_map] at e1
            cases q : caps[t]? with
            | none => rw [q] at e1; cases e1
            | some j =>
              rw [q] at e1
              have e2 : getE ρ j = some d' := by simpa using e1
              obtain ⟨v', ev, rv⟩ := RS j d' e2
              refine ⟨v', ?_, Rep.mono capv _ _ rv⟩
              rw [List.getElem?_cons_succ, List.getElem?_map, q]
              simp [ev]
        refine thn (helt C s₂ H₂ fp _ s3 _ H3 (fun v H4 => Same H3 H4 ∧ Rep X.K (ext (butL acc (ext G H₂ H3)) H3 H4) e v) I6 ⟨_, _, e, gv, RS', efe, fun v H4 s4 r4 => ⟨s4, r4⟩⟩) fun u4 s4 zr4 => ?_
        obtain ⟨v4, H4, I7, r7, sm4, rp4⟩ := zr4
        have ha4 : H4 acc = some (.lst xs) := sm4 _ _ ha'
        refine thn (mt_append (X := X') _ s4 _ H4 (.ref acc) [v4] (.ref acc) [u4] (fun _ H5 => H5 = upd H4 acc (.lst (xs ++ [v4]))) I7 rfl (.cons r7 .nil) ⟨acc, xs, v4, rfl, rfl, ha4, small1000 (by omega), rfl⟩) fun _ s5 zr5 => ?_
        obtain ⟨_, H5, I8, _, e5⟩ := zr5
        subst e5
        have sm5 : Same H₂ (upd H4 acc (.lst (xs ++ [v4]))) := fun b o z => by
          have hb : b ≠ acc := fun q => by rw [q, n2] at z; cases z
          rw [upd_ne hb]
          exact sm4 _ _ (sm' _ _ z)
        -- views grow
        have grow : Same (ext (butL acc (ext G H₂ H3)) H3 H4) (butL acc (ext G H₂ (upd H4 acc (.lst (xs ++ [v4]))))) := fun b o z => by
          cases q : H3 b with
          | none =>
            rw [ext_none q] at z
            have hb : b ≠ acc := fun q' => by rw [q', ha'] at q; cases q
            unfold butL
            rw [if_neg hb, ext_none (sm'.free q), upd_ne hb]
            exact z
          | some w =>
            rw [ext_some q] at z
            unfold butL at z ⊢
            split at z
            · cases z
            · rename_i hb
              rw [if_neg hb]
              cases q2 : H₂ b with
              | none => rw [ext_none q2] at z ⊢; rw [upd_ne hb]; exact sm4 _ _ z
              | some w2 => rw [ext_some q2] at z ⊢; exact z
        have grow2 : Same (butL acc (ext G H₂ Hi)) (butL acc (ext G H₂ (upd H4 acc (.lst (xs ++ [v4]))))) := fun b o z => by
          unfold butL at z ⊢
          split at z
          · cases z
          · rename_i hb
            rw [if_neg hb]
            cases q2 : H₂ b with
            | none => rw [ext_none q2] at z ⊢; rw [upd_ne hb]; exact sm4 _ _ (sy _ _ z)
            | some w2 => rw [ext_some q2] at z ⊢; exact z
        refine ⟨es.length - (i + 1), by omega, i + 1, some x', _, xs ++ [v4], rfl, hlt, I8.unpinned, T.keep _ _ _ st5 fun b hb o e => (I8.pin (b, o) (List.mem_append_right _ (List.mem_append_right _ (mem_pinsAt hb e)))).1, fun b hb => ?_, upd_same, by simp [hxl], sm5, ?_⟩
        · obtain ⟨o, e, d⟩ := T.obj _ _ st5 b hb
          exact (I8.pin (b, o) (List.mem_append_right _ (List.mem_append_right _ (mem_pinsAt hb e)))).2.1
        · have et : es.take (i + 1) = es.take i ++ [e] := by
            rw [List.take_succ, ee]; rfl
          rw [et]
          exact RepL.append (RepL.mono grow2 _ _ rl) ⟨v4, [], rfl, Rep.mono grow _ _ rp4, rfl⟩
      · have e1 : i = es.length := by omega
        subst e1
        refine thn (T.done X' rfl rfl rfl hc _ [] s _ Hi _ Ii (fpok fri (by simp)) sti (by rw [lenE]; exact stop)) fun r s1 zr6 => ?_
        obtain ⟨hr, I4⟩ := zr6
        subst hr
        have IX : Inv X pins σ Hi s1 := I.call' (ch := fp) (by show s1.os = s₂.os; exact I4.os) I4.base I4.hok I4.bare fun b hb => ⟨(hf b hb).2.2.2.1, (hf b hb).2.1, (hf b hb).2.2.2.2.1, (hf b hb).2.2.2.2.2⟩
        obtain ⟨m, hm, _⟩ := I4.loc
        refine fin C acc Hi xs s1 IX sm n2 ha (by rw [List.take_length] at rl; exact rl) (young I4.free) ⟨m, hm⟩
    · rw [upd_ne (Nat.ne_of_lt (fplt b hb))]
      exact (hf b hb).1
  exact codeAny_compStart_list (loop _ rfl) (T.self _ 0 _ _ _ (T.keep _ _ _ st fun b hb o e => old b o e) (loop _ rfl))
/-- [elt for x in iter] -/
theorem pf_comp {x : Str} {px pos : Pos} {elt iter : Expr} {scope : Scope} {cl : List (Str × Addr)} {caps : List Nat} {ys : List Str} {fi : Env → Option (List D)} {fe : Env → Option D} (ok : CompOk X scope cl x caps ys) (hi : PId X (.Name x px) iter fi)
    (helt : ∀ C s₂ H₂ fp, PEd (compCx X (x :: ys) scope cl C s₂ H₂ fp) elt fe) (hc : X.calm = true := by rfl) (hs : ∀ x, foldedSetIterable iter X.env x = pure x := by intro _; rfl) :
    PFd X (.ListComp elt [⟨.Name x px, iter, [], 0⟩] scope pos) (fun ρ => (fi ρ).bind fun ds => (mapO (fun d => fe (some d :: caps.map (getE ρ))) ds).bind fun es => if es.length ≤ 1000 then some es else none) := by
  intro pins s σ H Q I h
  obtain ⟨G, ρ, es, g, RS, ee, q⟩ := h
  obtain ⟨ds, ed, ee⟩ := bind_some ee
  obtain ⟨es', em, ee⟩ := bind_some ee
  split at ee
  · rename_i hl
    cases ee
    rw [eval_ListComp]
    refine wpAny_comprehension_free (use := none) rfl hs ok.clos ok.kind ok.names (thn (hi pins s σ H (fun J H' => Same H H' ∧ ItD X.K J ds (ext G H H')) I ⟨G, ρ, ds, g, RS, ed, fun J H' s' it => ⟨s', it⟩⟩) fun xv s₁ h₁ => thn h₁ fun itv s₂ h₂ => ?_)
    obtain ⟨it, fp, tn, J, H2, rfl, I2, T, st2, f2, s12, itd⟩ := h₂
    refine comp_block ok hc helt (ext_sub g s12) (RS.mono (ext_same g)) I2 T st2 f2 itd em hl (RR := fun acc C => compPost (model X.prog X.w) X.A X.xe none (EP X pins σ Q) acc C) ?_
    intro C acc H' xs s' I' sm hn ha rl yg ⟨m, hm⟩
    refine ⟨m, hm, fun h' hsb => ⟨.ref acc, H', yg.inv I' hsb, rfl, ?_⟩⟩
    refine q acc H' xs (s12.trans sm) (s12.free hn) ha ?_
    rw [ext_ext s12 sm] at rl
    exact rl
  · cases ee
end
end DL
set_option Elab.async false
set_option linter.all false
set_option maxRecDepth 100000
namespace DL
open PySem PySem.Spec PyProof.Rows L2
structure Cst (mg : Str → Option Value) (K : PySem.W.Frag) (x : Str) (d : D) : Prop where
  ex : ∃ v u, mg x = some u ∧ RelV v u ∧ ∀ G, Rep K G d v
theorem pd_cst {X : Cx} {pos : Pos} {x : Str} {d : D} (C : Cst X.mg X.K x d) (hg : Gl X x := by rfl) (hd : (x == ("__debug__" : Str)) = false := by decide) : PEd X (.Name x pos) (fun _ => some d) := by
  obtain ⟨v, u, hm, r, hr⟩ := C.ex
  exact pd_glob hm r hr hg hd
theorem cst_int {mg : Str → Option Value} {K : PySem.W.Frag} {x : Str} {i : Int} {t : Tok} (hm : mg x = some (.int i t)) : Cst mg K x (.int i) := ⟨.int i, _, hm, ⟨t, rfl⟩, fun _ => rfl⟩
theorem cst_pair {mg : Str → Option Value} {K : PySem.W.Frag} {x : Str} {a : Addr} {i j : Int} {t u : Tok} {od : Option Addr} {n : Nat} {sl : Array (Option Value)} (hm : mg x = some (.ref a))
    (l : K.lookup a = some ⟨.type "tuple", od, .seq #[.int i t, .int j u] n, sl⟩) : Cst mg K x (.tup [.int i, .int j]) :=
  ⟨.ref a, _, hm, rfl, fun G => ⟨a, [.int i, .int j], rfl, .inr ⟨_, _, _, l, rfl, rfl, (by show 2 ≤ sizeLine; decide), .cons ⟨t, rfl⟩ (.cons ⟨u, rfl⟩ .nil)⟩, _, _, rfl, rfl, _, _, rfl, rfl, rfl⟩⟩
def clOf (scope : Scope) (env : PySem.Env) : List (Str × Addr) := scope.names.reverse.filterMap fun y => if (y.2 == NameKind.free) = true then (env.cells.lookup y.1).map fun c => (y.1, c) else none
theorem clOf_sub {scope : Scope} {env : PySem.Env} : ∀ p ∈ clOf scope env, env.cells.lookup p.1 = some p.2 := fun p hp => by
  obtain ⟨y, _, e⟩ := List.mem_filterMap.mp hp
  split at e
  · cases q : env.cells.lookup y.1 with
    | none => rw [q] at e; cases e
    | some c => rw [q] at e; cases e; exact q
  · cases e
theorem caps_ok {X : Cx} {scope : Scope} {x : Str} (caps : List Nat) (ys : List Str) (hcaps : CapsOk X scope caps ys) (clos : closureFor scope X.env = pure (clOf scope X.env) := by with_unfolding_all rfl)
    (has : ((relabel scope X.env).names.all fun y => (y.2 != NameKind.cell && y.2 != NameKind.free) || ((clOf scope X.env).lookup y.1).isSome) = true := by with_unfolding_all rfl)
    (cell : ∀ y ∈ scope.names, y.2 ≠ .cell := by decide) (kind : scope.kind = .function := by rfl) (names : ∀ y ∈ scope.names, y.2 = .local → scope.names.lookup y.1 = some .local := by decide +kernel) (tgt : scope.names.lookup x = some .local := by rfl) (nd : (x :: ys).Nodup := by decide +kernel) :
    CompOk X scope (clOf scope X.env) x caps ys :=
  ⟨clos, cell, kind, names, tgt, clOf_sub, fun y hy h => by
    have q := List.all_eq_true.mp has y hy
    rcases h with h | h <;> simpa [h] using q, hcaps, nd⟩
open Classical in
noncomputable def fnR {β : Type} (R : List D → β → Prop) : List D → Option β := fun ds => if h : ∃ d, R ds d then some h.choose else none
theorem fnR_some {β : Type} {R : List D → β → Prop} {ds : List D} {d : β} (h : fnR R ds = some d) : R ds d := by
  unfold fnR at h
  split at h
  · rename_i q
    cases h
    exact q.choose_spec
  · cases h
theorem fnR_eq {β : Type} {R : List D → β → Prop} {ds : List D} {d : β} (h : R ds d) (u : ∀ d', R ds d' → d' = d) : fnR R ds = some d := by
  unfold fnR
  have q : ∃ d, R ds d := ⟨d, h⟩
  rw [dif_pos q, u _ q.choose_spec]
@[simp] theorem getE_int {i : Int} {r : Env} : getE (some (.int i) :: r) 0 = some (.int i) := rfl
@[simp] theorem getE_bl {i : Bool} {r : Env} : getE (some (.bl i) :: r) 0 = some (.bl i) := rfl
@[simp] theorem getE_lst {i : List D} {r : Env} : getE (some (.lst i) :: r) 0 = some (.lst i) := rfl
@[simp] theorem getE_scr {i : List Int} {r : Env} : getE (some (.scr i) :: r) 0 = some (.scr i) := rfl
@[simp] theorem getE_succ {o : Option D} {r : Env} {i : Nat} : getE (o :: r) (i + 1) = getE r i := by unfold getE; rw [List.getElem?_cons_succ]
@[simp] theorem seqO_nx {ρ : Env} {g : Env → Option Out} : seqO (some (.nx ρ)) g = g ρ := rfl
@[simp] theorem seqO_rt {d : D} {g : Env → Option Out} : seqO (some (.rt d)) g = some (.rt d) := rfl
@[simp] theorem retO_rt {d : D} : retO (.rt d) = some d := rfl
@[simp] theorem retO_nx {ρ : Env} : retO (.nx ρ) = some .non := rfl
@[simp] theorem addD_int {i j : Int} : addD (.int i) (.int j) = some (.int (i + j)) := rfl
@[simp] theorem subD_int {i j : Int} : subD (.int i) (.int j) = some (.int (i - j)) := rfl
@[simp] theorem negD_int {i : Int} : negD (.int i) = some (.int (-i)) := rfl
@[simp] theorem ltD_int {i j : Int} : ltD (.int i) (.int j) = some (.bl (decide (i < j))) := rfl
@[simp] theorem leD_int {i j : Int} : leD (.int i) (.int j) = some (.bl (decide (i ≤ j))) := rfl
@[simp] theorem gtD_int {i j : Int} : gtD (.int i) (.int j) = some (.bl (decide (j < i))) := rfl
@[simp] theorem geD_int {i j : Int} : geD (.int i) (.int j) = some (.bl (decide (j ≤ i))) := rfl
@[simp] theorem eqP_int {i j : Int} : eqP (.int i) (.int j) = some (.bl (decide (i = j))) := rfl
@[simp] theorem neP_int {i j : Int} : neP (.int i) (.int j) = some (.bl (!decide (i = j))) := rfl
@[simp] theorem toB_bl {b : Bool} : toB (.bl b) = some b := rfl
@[simp] theorem absD_int {i : Int} : absD [.int i] = some (.int (if i < 0 then -i else i)) := rfl
@[simp] theorem lenD_lst {ds : List D} : lenD [.lst ds] = some (.int ds.length) := rfl
@[simp] theorem lenD_scr {ns : List Int} : lenD [.scr ns] = some (.int ns.length) := rfl
@[simp] theorem listD_lst {ds : List D} : listD [.lst ds] = some (.lst ds) := rfl
@[simp] theorem seqD_lst {ds : List D} : seqD (.lst ds) = some ds := rfl
@[simp] theorem modD_int {i j : Int} (h : j ≠ 0) : modD (.int i) (.int j) = some (.int (i.fmod j)) := by show (if j ≠ 0 then some (D.int (i.fmod j)) else none) = _; rw [if_pos h]
theorem mulD_int {i j : Int} (h : IntMulOk i j) : mulD (.int i) (.int j) = some (.int (i * j)) := by show (if IntMulOk i j then some (D.int (i * j)) else none) = _; rw [if_pos h]
theorem fdivD_int {i j : Int} (h : j ≠ 0) (k : j.natAbs.log2 < 9000) : fdivD (.int i) (.int j) = some (.int (i.fdiv j)) := by show (if j ≠ 0 ∧ j.natAbs.log2 < 9000 then some (D.int (i.fdiv j)) else none) = _; rw [if_pos ⟨h, k⟩]
theorem powD_int {i j : Int} (h : 0 ≤ j ∧ j ≤ 1000000 ∧ i.natAbs < 2 ^ 64) : powD (.int i) (.int j) = some (.int (i ^ j.toNat)) := by show (if 0 ≤ j ∧ j ≤ 1000000 ∧ i.natAbs < 2 ^ 64 then some (D.int (i ^ j.toNat)) else none) = _; rw [if_pos h]
@[simp] theorem capD_2 {a b d : D} : capD [a, b] d = some d := rfl
@[simp] theorem atI_00 {a : D} {r : List D} : atI (a :: r) 0 = some a := by
  have := atI_nat (xs := a :: r) (j := 0) (v := a) (by simp)
  exact this
@[simp] theorem atI_01 {a b : D} {r : List D} : atI (a :: b :: r) 1 = some b := by
  have := atI_nat (xs := a :: b :: r) (j := 1) (v := b) (by simp)
  exact this
@[simp] theorem ixD_tup {ds : List D} {i : Int} : ixD (.tup ds) (.int i) = atI ds i := rfl
@[simp] theorem ixD_lst {ds : List D} {i : Int} : ixD (.lst ds) (.int i) = atI ds i := rfl
open Mth
theorem bits_le {a : Nat} {i : Int} (h : lb a i) : Builtin.Int.intBits i ≤ a := by
  unfold Builtin.Int.intBits
  split
  · exact Nat.zero_le _
  · rename_i z
    have h0 : i.natAbs ≠ 0 := by
      intro q
      have : i = 0 := by omega
      rw [this] at z
      exact z rfl
    have := (Nat.log2_lt h0).mpr h
    omega
theorem mulOk {a b : Nat} {i j : Int} (h : lb a i) (k : lb b j) (ha : a ≤ 1000000) (hb : b ≤ 1000000) : IntMulOk i j := IntMulOk.of_bits (Nat.le_trans (bits_le h) (by omega)) (Nat.le_trans (bits_le k) (by omega))
theorem mulOk_r {i j : Int} (k : lb 64 j) : IntMulOk i j := IntMulOk.of_right (bits_le k)
theorem mulOk_l {i j : Int} (k : lb 64 i) : IntMulOk i j := IntMulOk.of_left (bits_le k)
theorem gcd_step {a b : Int} (hb : 0 < b) : Int.gcd b (a.fmod b) = Int.gcd a b := by
  rw [Int.fmod_eq_emod_of_nonneg _ (Int.le_of_lt hb)]
  rw [Int.gcd_comm a b]
  have e : a % b = a - b * (a / b) := by
    have := Int.emod_add_mul_ediv a b
    omega
  rw [e, Int.sub_eq_add_neg, show -(b * (a / b)) = b * (-(a / b)) by rw [Int.mul_neg]]
  exact Int.gcd_add_mul_left_right b a (-(a / b))
theorem while_gcd {α : Type} (E : Int → Int → α → Env) {fc : Env → Option Bool} {fb : Env → Option Out} (hc : ∀ a b o, fc (E a b o) = some (!decide (b = 0))) (hb : ∀ a b o, b ≠ 0 → ∃ o', fb (E a b o) = some (.nx (E b (a.fmod b) o'))) :
    ∀ (n : Nat) (a b : Int) (o : α), 0 ≤ b → b.toNat < n → ∃ o' g, runWhile fc fb n (E a b o) = some (.nx (E g 0 o')) ∧ g.natAbs = Int.gcd a b ∧ (0 ≤ a → 0 ≤ g)
  | 0, a, b, o, _, h => absurd h (Nat.not_lt_zero _)
  | n + 1, a, b, o, h0, h => by
    unfold runWhile
    rw [hc]
    by_cases hz : b = 0
    · subst hz
      exact ⟨o, a, rfl, by simp, fun z => z⟩
    · rw [decide_eq_false hz]
      obtain ⟨o1, e1⟩ := hb a b o hz
      have hp : 0 < b := by omega
      have m0 : 0 ≤ a.fmod b := Int.fmod_nonneg_of_pos a hp
      have m1 : a.fmod b < b := Int.fmod_lt_of_pos a hp
      obtain ⟨o', g, e2, e3, e4⟩ := while_gcd E hc hb n b (a.fmod b) o1 m0 (by omega)
      simp only [Bool.not_false, e1]
      exact ⟨o', g, e2, by rw [e3, gcd_step hp], fun _ => e4 (by omega)⟩
theorem while_gcd_post {α : Type} (E : Int → Int → α → Env) {fc : Env → Option Bool} {fb : Env → Option Out} {k : Env → Option Out} {d : D} {a b : Int} (o : α) (h0 : 0 ≤ b) (hc : ∀ a b o, fc (E a b o) = some (!decide (b = 0))) (hb : ∀ a b o, b ≠ 0 → ∃ o', fb (E a b o) = some (.nx (E b (a.fmod b) o')))
    (hk : ∀ o' g, g.natAbs = Int.gcd a b → (0 ≤ a → 0 ≤ g) → (k (E g 0 o')).bind retO = some d) : (seqO (runWhile fc fb (b.toNat + 1) (E a b o)) k).bind retO = some d := by
  obtain ⟨o', g, e, e1, e2⟩ := while_gcd E hc hb (b.toNat + 1) a b o h0 (Nat.lt_succ_self _)
  rw [e]
  exact hk o' g e1 e2
theorem runFor_inv {ft : D → Env → Option Env} {fb : Env → Option Out} (ds : List D) (I : Nat → Env → Prop) (step : ∀ i d ρ, ds[i]? = some d → I i ρ → ∃ ρ', (ft d ρ).bind fb = some (.nx ρ') ∧ I (i + 1) ρ') :
    ∀ (n i : Nat) (ρ : Env), ds.length - i = n → i ≤ ds.length → I i ρ → ∃ ρ', runFor ft fb (ds.drop i) ρ = some (.nx ρ') ∧ I ds.length ρ'
  | 0, i, ρ, h, hi, p => by
    have e : i = ds.length := by omega
    subst e
    rw [List.drop_length]
    exact ⟨ρ, rfl, p⟩
  | n + 1, i, ρ, h, hi, p => by
    have hlt : i < ds.length := by omega
    rw [List.drop_eq_getElem_cons hlt]
    obtain ⟨ρ', e, p'⟩ := step i ds[i] ρ (by simp [hlt]) p
    obtain ⟨ρ1, e1, e2⟩ := bind_some e
    obtain ⟨ρ2, e3, p2⟩ := runFor_inv ds I step n (i + 1) ρ' (by omega) hlt p'
    refine ⟨ρ2, ?_, p2⟩
    unfold runFor
    rw [e1]
    dsimp only
    rw [e2]
    exact e3
theorem for_run {ft : D → Env → Option Env} {fb : Env → Option Out} {ds : List D} {ρ : Env} (I : Nat → Env → Prop) (h0 : I 0 ρ) (step : ∀ i d ρ, ds[i]? = some d → I i ρ → ∃ ρ', (ft d ρ).bind fb = some (.nx ρ') ∧ I (i + 1) ρ') :
    ∃ ρ', runFor ft fb ds ρ = some (.nx ρ') ∧ I ds.length ρ' := runFor_inv ds I step ds.length 0 ρ rfl (Nat.zero_le _) h0
theorem for_post {ft : D → Env → Option Env} {fb : Env → Option Out} {k : Env → Option Out} {ds : List D} {ρ : Env} {d : D} (I : Nat → Env → Prop) (h0 : I 0 ρ) (step : ∀ i d ρ, ds[i]? = some d → I i ρ → ∃ ρ', (ft d ρ).bind fb = some (.nx ρ') ∧ I (i + 1) ρ')
    (hk : ∀ ρ', I ds.length ρ' → (k ρ').bind retO = some d) : (seqO (runFor ft fb ds ρ) k).bind retO = some d := by
  obtain ⟨ρ', e, p⟩ := for_run I h0 step
  rw [e]
  exact hk ρ' p
theorem for_last {ft : D → Env → Option Env} {fb : Env → Option Out} {ds : List D} {ρ : Env} (I : Nat → Env → Prop) (h0 : I 0 ρ) (step : ∀ i d ρ, ds[i]? = some d → I i ρ → ∃ ρ', (ft d ρ).bind fb = some (.nx ρ') ∧ I (i + 1) ρ') :
    (runFor ft fb ds ρ).bind retO = some .non := by
  obtain ⟨ρ', e, p⟩ := for_run I h0 step
  rw [e]
  rfl
theorem for_nx {ft : D → Env → Option Env} {fb : Env → Option Out} {ds : List D} {ρ : Env} {J : Env → Prop} (I : Nat → Env → Prop) (h0 : I 0 ρ) (step : ∀ i d ρ, ds[i]? = some d → I i ρ → ∃ ρ', (ft d ρ).bind fb = some (.nx ρ') ∧ I (i + 1) ρ')
    (hJ : ∀ ρ', I ds.length ρ' → J ρ') : ∃ ρ', runFor ft fb ds ρ = some (.nx ρ') ∧ J ρ' := by
  obtain ⟨ρ', e, p⟩ := for_run I h0 step
  exact ⟨ρ', e, hJ ρ' p⟩
theorem ex_of_eq {x y : Option Out} {J : Env → Prop} (e : x = y) (h : ∃ ρ', y = some (.nx ρ') ∧ J ρ') : ∃ ρ', x = some (.nx ρ') ∧ J ρ' := by rw [e]; exact h
def fuelI (i : Nat) : Env → Nat := fun ρ => match getE ρ i with | some (.int b) => b.toNat + 1 | _ => 0
/-- a part as the program has it -/
def P (q : Rat) : D := .tup [.int q.num, .int q.den]
@[simp] theorem getE_P {q : Rat} {r : Env} : getE (some (P q) :: r) 0 = some (P q) := rfl
@[simp] theorem ixD_P0 {q : Rat} : ixD (P q) (.int 0) = some (.int q.num) := by unfold P; rw [ixD_tup, atI_00]
@[simp] theorem ixD_P1 {q : Rat} : ixD (P q) (.int 1) = some (.int q.den) := by unfold P; rw [ixD_tup, atI_01]
theorem P_inj {p q : Rat} (h : P p = P q) : p = q := by
  unfold P at h
  injection h with h
  injection h with h1 h2
  injection h2 with h2 _
  injection h1 with h1
  injection h2 with h2
  exact Rat.ext h1 (by omega)
theorem Ps_inj : ∀ {ps qs : List Rat}, ps.map P = qs.map P → ps = qs
  | [], [], _ => rfl
  | [], _ :: _, h => by simp at h
  | _ :: _, [], h => by simp at h
  | p :: ps, q :: qs, h => by
    simp only [List.map_cons, List.cons.injEq] at h
    rw [P_inj h.1, Ps_inj h.2]
end DL
set_option Elab.async false
set_option linter.all false
set_option maxRecDepth 100000
namespace DL
open PySem PySem.Spec PyProof.Rows L2
def tDO (K : PySem.W.Frag) (f : Env → Option (Option Int)) : TO := fun σ H Q => ∃ G ρ o, Same G H ∧ RepSt K G σ ρ ∧ f ρ = some o ∧ ∀ H', Same H H' → Q o H'
def POd (X : Cx) (e : Option Expr) (f : Env → Option (Option Int)) : Prop := PO X e (tDO X.K f)
def toI : D → Option Int | .int i => some i | _ => none
section
variable {X : Cx} {pos p2 : Pos} {e : Expr} {fe : Env → Option D} {lo hi : Option Expr} {fl fh : Env → Option (Option Int)}
theorem po_d_none : POd X none (fun _ => some none) := fun pins s σ H Q I zz1 => by
  obtain ⟨G, ρ, o, g, R, ee, q⟩ := zz1
  cases ee
  exact po_none pins s σ H Q I (q H (Same.refl H))
theorem po_d_some (h : PEd X e fe) : POd X (some e) (fun ρ => ((fe ρ).bind toI).map some) := fun pins s σ H Q I zz2 => by
  obtain ⟨G, ρ, o, g, R, ee, q⟩ := zz2
  dsimp only at ee
  cases et : (fe ρ).bind toI with
  | none => rw [et] at ee; cases ee
  | some i =>
    rw [et] at ee
    cases ee
    obtain ⟨d, ed, et⟩ := bind_some et
    refine po_some h pins s σ H Q I ⟨G, ρ, d, g, R, ed, fun v H' s' r => ⟨i, ?_, q H' s'⟩⟩
    unfold toI at et
    split at et
    · cases et; exact r
    · cases et
/-- the items of xs[lo:hi] -/
def cutD (ds : List D) (lo hi : Option Int) : List D := (ds.drop (HT.sIx ds.length 0 lo)).take (HT.sIx ds.length ds.length hi - HT.sIx ds.length 0 lo)
def sliceD (lo hi : Option Int) : D → Option D
  | .lst ds => some (.lst (cutD ds lo hi))
  | _ => none
theorem sliceD_some {lo hi : Option Int} {x d : D} (h : sliceD lo hi x = some d) : ∃ ds, x = .lst ds ∧ d = .lst (cutD ds lo hi) := by
  unfold sliceD at h
  split at h
  · cases h; exact ⟨_, rfl, rfl⟩
  · cases h
theorem pd_slice (he : PEd X e fe) (hl : POd X lo fl) (hu : POd X hi fh) : PEd X (.Subscript e (.Slice lo hi none p2) pos) (fun ρ => (fe ρ).bind fun x => (fl ρ).bind fun l => (fh ρ).bind fun u => sliceD l u x) :=
  peI (pe_slice sl_list he hl hu) fun σ H Q zz3 => by
    obtain ⟨G, ρ, d, g, R, ee, q⟩ := zz3
    obtain ⟨x, ex, ee⟩ := bind_some ee
    obtain ⟨l, el, ee⟩ := bind_some ee
    obtain ⟨u, eu, ee⟩ := bind_some ee
    refine one_part g R ex fun vx H1 s1 g1 R1 r1 => ⟨_, ρ, l, g1, R1, el, fun H2 s2 => ?_⟩
    have g2 := ext_sub g1 s2
    refine ⟨_, ρ, u, g2, R1.mono (ext_same g1), eu, fun H3 s3 => ?_⟩
    obtain ⟨ds0, rfl, rfl⟩ := sliceD_some ee
    obtain ⟨a, xs, rfl, ha, r⟩ := r1
    have s13 := s2.trans s3
    refine ⟨a, xs, rfl, SqL.of (s13 _ _ (g1 _ _ ha)), fun p hp => ?_⟩
    have s03 := s1.trans s13
    obtain ⟨m, at'⟩ := ext_new (o := .lst (cutV xs l u)) g s03 hp
    refine q _ _ (s03.trans (upd_same' hp)) ⟨p, _, rfl, at', ?_⟩
    have r3 : RepL X.K (ext G H H3) ds0 xs := by
      rw [← ext_ext s1 s13]
      exact RepL.mono (ext_same g1) _ _ r
    have hcut : RepL X.K (ext G H H3) (cutD ds0 l u) (cutV xs l u) := by
      unfold cutD cutV
      rw [← r3.length]
      exact RepL.take _ (RepL.drop _ r3)
    exact RepL.mono m _ _ hcut
end
def Ite (K : PySem.W.Frag) (a : Addr) : It :=
  ⟨fun i H => ∃ xs x, SqL K H a xs ∧ xs[i]? = some x, fun i H v H' => ∃ T, v = .ref T ∧ H T = none ∧ ∀ xs x, SqL K H a xs → xs[i]? = some x → H' = upd H T (.tup [.int i, x]), fun i H => ∃ xs, SqL K H a xs ∧ xs.length ≤ i⟩
theorem turn_enum {P : Program} {w : World} {K : PySem.W.Frag} {elts : List Expr} {kt : Nat} {tpos : Pos} (a e it : Addr) (hne : e ≠ it) : Turn P w K (.Tuple elts kt tpos) (Ite K a) [e, it] e (fun i h => (∃ old, IsEnum h e it i old) ∧ h.IsListIter it a i) where
  mem := by simp
  obj := fun i h st b hb => by
    obtain ⟨⟨old, he⟩, o, e1, c, d⟩ := st
    simp only [List.mem_cons, List.not_mem_nil, or_false] at hb
    rcases hb with rfl | rfl
    · exact ⟨_, he, fun v z => by
        have z' : Data.fields _ = Data.cell v := z
        cases z'⟩
    · exact ⟨o, e1, fun v z => by rw [d] at z; cases z⟩
  keep := fun i h h' st k => by
    obtain ⟨⟨old, he⟩, hi⟩ := st
    exact ⟨⟨old, k e (by simp) _ he⟩, hi.at fun o q => k it (by simp) o q⟩
  item := by
    intro X hP hw hK hc i pins s σ H E I hf st hg
    subst hP hw hK
    obtain ⟨⟨old, he⟩, hi⟩ := st
    obtain ⟨xs, x, hq, hx⟩ := hg
    obtain ⟨its, rv, p, hz⟩ := I.list hq
    obtain ⟨u, hu, ru⟩ := rv.get hx
    obtain ⟨f0, f1, f2, f3, f4, f5⟩ := hf e (by simp)
    obtain ⟨g0, g1, g2, g3, g4, g5⟩ := hf it (by simp)
    refine wpAny_pyNext_enum_item he hi p.isList (x := u) (by simpa using hu) hne fun h' ho hi' hT hsz hk => ?_
    have nT : H s.heap.objs.size = none := I.hok.fresh (Nat.le_refl _)
    have tre : ∀ b o, H b = some o → b ≠ e ∧ b ≠ it := fun b o q => ⟨(fun z => by rw [z, f0] at q; cases q), (fun z => by rw [z, g0] at q; cases q)⟩
    have I1 : L2.Inv X pins σ (upd H s.heap.objs.size (.tup [.int i, x])) { s with heap := h', toks := s.toks + 1 } := by
      refine I.step (g' := s.gens) (d' := s.drawn) (ch := [e, it]) (fun b hb => ?_) (fun b o hL hb hc' q n => ?_) (fun b o hL hb hc' q n => ?_) (fun b o hc' q n => ?_) (fun b o hc' q => ?_) (fun b ys q => ?_) (fun b o ys q => ?_) (fun b ps q => ?_) (fun m hm => ?_) ?_ I.bare
      · simp only [List.mem_cons, List.not_mem_nil, or_false] at hb
        rcases hb with rfl | rfl
        · exact ⟨f3, f1, f4, f5⟩
        · exact ⟨g3, g1, g4, g5⟩
      · exact hk b o (fun z => hc' (by simp [z])) (fun z => hc' (by simp [z])) q
      · exact ⟨o.slots, hk b o (fun z => hc' (by simp [z])) (fun z => hc' (by simp [z])) q⟩
      · rw [upd_ne (Nat.ne_of_lt (Heap.lt_size q))]; exact n
      · exact ⟨o, hk b o (fun z => hc' (by simp [z])) (fun z => hc' (by simp [z])) q⟩
      · rw [upd_ne (ne_of_none q nT)]; exact q
      · rw [upd_ne (ne_of_none q nT)]; exact q
      · exact ⟨#[], by rw [upd_ne (ne_of_none q nT), q]; simp⟩
      · obtain ⟨o, es, ep, q, r⟩ := hm
        exact ⟨o, es, ep, hk _ o (Ne.symm f1) (Ne.symm g1) q, r⟩
      · intro b o q
        by_cases hb : b = s.heap.objs.size
        · subst hb
          rw [upd_same] at q
          cases q
          exact ⟨by show 2 ≤ sizeLine; decide, [.int i s.toks, u], .cons ⟨_, rfl⟩ (.cons ru .nil), _, hT, rfl, _, rfl⟩
        · rw [upd_ne hb] at q
          refine (I.hok b o q).stay (fun c v hc' z => ?_) (fun c z => by rw [upd_ne (ne_of_none z nT)]; exact z) fun c ys z => by rw [upd_ne (ne_of_none z nT)]; exact z
          have hce : c ≠ e ∧ c ≠ it := by
            rcases hc' with rfl | hc'
            · exact tre _ _ q
            · exact tre _ _ hc'
          exact hk c v hce.1 hce.2 z
    refine ⟨_, rfl, wpAny_letOwnedTupleGo_enum (s := { s with heap := h', toks := s.toks + 1 }) ho fun h2 he2 hs2 => ?_⟩
    have helt : e < s.heap.objs.size := Heap.lt_size he
    have I2 : L2.Inv X pins σ (upd H s.heap.objs.size (.tup [.int i, x])) { s with heap := h2, toks := s.toks + 1 } :=
      I1.turned (t' := s.toks + 1) (fun b o hb q => (hs2.2 b hb).trans q) (by rw [upd_ne (Nat.ne_of_lt helt)]; exact f0) f1 f3 f4 f5
    refine ⟨.ref s.heap.objs.size, _, I2, rfl, ⟨_, rfl, nT, fun ys y hy ey => ?_⟩, ⟨⟨_, by simpa using he2⟩, ?_⟩, fun b hb => ?_⟩
    · rw [I.list_inj hy hq] at ey
      rw [hx] at ey
      cases ey
      rfl
    · obtain ⟨o, q, r⟩ := hi'
      exact ⟨o, (hs2.2 it (Ne.symm hne)).trans q, r⟩
    · obtain ⟨o, q, _⟩ : ∃ o, s.heap.get? b = some o ∧ True := by
        simp only [List.mem_cons, List.not_mem_nil, or_false] at hb
        rcases hb with rfl | rfl
        · exact ⟨_, he, trivial⟩
        · obtain ⟨o, q, _⟩ := hi; exact ⟨o, q, trivial⟩
      rw [upd_ne (Nat.ne_of_lt (Heap.lt_size q))]
      exact (hf b hb).1
  done := by
    intro X hP hw hK hc i pins s σ H E I hf st hg
    subst hP hw hK
    obtain ⟨⟨old, he⟩, hi⟩ := st
    obtain ⟨xs, hq, hx⟩ := hg
    obtain ⟨its, rv, p, hz⟩ := I.list hq
    obtain ⟨g0, g1, g2, g3, g4, g5⟩ := hf it (by simp)
    have hl := rv.length
    exact wpAny_pyNext_enum_end (I.ok.hd hc) he hi p.isList (by simp; omega) fun h' eb => ⟨rfl, I.turned (t' := s.toks) (fun b o hb q => eb b o hb q) g0 g1 g3 g4 g5⟩
  self := fun _ _ _ _ _ st h => by
    obtain ⟨⟨old, he⟩, _⟩ := st
    exact wpAny_pyIter_enum he h
section
variable {X : Cx} {pos p : Pos} {ea : Expr} {fs : Env → Option (List D)} {elts : List Expr} {kt : Nat} {tpos : Pos}
def enumG : List D → Option (List D)
  | [.lst ds] => some ((List.range ds.length).zipWith (fun (i : Nat) d => .tup [.int (i : Int), d]) ds)
  | _ => none
theorem enumG_get {ds : List D} {i : Nat} {d : D} (h : ((List.range ds.length).zipWith (fun (i : Nat) d => D.tup [.int (i : Int), d]) ds)[i]? = some d) : ∃ x, ds[i]? = some x ∧ d = .tup [.int i, x] := by
  rw [List.getElem?_zipWith] at h
  cases q : ds[i]? with
  | none => rw [q] at h; split at h <;> simp_all
  | some x =>
    rw [q] at h
    have hi : i < ds.length := (List.getElem?_eq_some_iff.mp q).1
    rw [List.getElem?_range hi] at h
    simp at h
    exact ⟨x, rfl, h.symm⟩
theorem pid_enum (hm : X.mg "enumerate" = none) (ha : PAd X [ea] fs) (hg : Gl X "enumerate" := by rfl) (hs : starEach [ea] X.env = [(false, eval ea X.env)] := by rfl) : PId X (.Tuple elts kt tpos) (.Call (.Name "enumerate" p) [ea] [] pos) (fun ρ => (fs ρ).bind enumG) := by
  intro pins s σ H R I h
  obtain ⟨G, ρ, ds, g, RS, ee, q⟩ := h
  obtain ⟨as, ed, ee⟩ := bind_some ee
  refine Call_ (ld_blt I hg hm boot_enumerate (PyProof.Rows.callWith_type1 (thn (ha pos pins s σ H (fun vs H1 => Same H H1 ∧ RepL X.K (ext G H H1) as vs) I ⟨G, ρ, as, g, RS, ed, fun vs H1 s1 r1 => ⟨s1, r1⟩⟩) fun us s1 zr1 => ?_) hs rfl))
  obtain ⟨vs, H1, I1, r1, sm, rl⟩ := zr1
  unfold enumG at ee
  split at ee
  · rename_i xs
    cases ee
    obtain ⟨v, r', rfl, ⟨l, ys, rfl, hl, ry⟩, rfl⟩ := rl
    cases r1 with
    | cons ra rr =>
      cases rr
      cases ra
      have hl1 := ext_sub g sm _ _ hl
      obtain ⟨its, rv, pl, hz⟩ := I1.list (SqL.of hl1)
      refine call_enumerate_list pl.isList fun h' he hit hsz hk => ?_
      refine wpAny_pyIter_enum (s := { s1 with heap := h' }) he ?_
      have I2 : L2.Inv X pins σ H1 { s1 with heap := h' } := I1.kept (t' := s1.toks) hk
      refine ⟨_, [s1.heap.objs.size + 1, s1.heap.objs.size], _, Ite X.K l, H1, rfl, I2, turn_enum l _ _ (Nat.succ_ne_self _), ⟨⟨_, he⟩, hit⟩, fun b hb => ?_, q _ _ sm fun H2 s2 => ?_⟩
      · simp only [List.mem_cons, List.not_mem_nil, or_false] at hb
        rcases hb with rfl | rfl
        · exact I1.fpOk (Nat.le_succ _) (I1.hok.fresh (Nat.le_succ _))
        · exact I1.fpOk (Nat.le_refl _) (I1.hok.fresh (Nat.le_refl _))
      · have hl2 := s2 _ _ hl
        have hyl := ry.length
        refine ⟨fun i hi => ?_, fun i x H' d y ed' => ?_, ⟨ys, SqL.of hl2, by simp; omega⟩⟩
        · have hx : i < ys.length := by simp at hi; omega
          exact ⟨ys, ys[i], SqL.of hl2, by simp [hx]⟩
        · obtain ⟨T, rfl, nT, y⟩ := y
          obtain ⟨dx, edx, rfl⟩ := enumG_get ed'
          obtain ⟨v, ev, rvv⟩ := ry.get edx
          have eH := y ys v (SqL.of hl2) ev
          subst eH
          refine ⟨upd_same' nT, T, [.int i, v], rfl, SqT.of (by rw [ext_none nT]; exact upd_same), _, _, rfl, rfl, _, _, rfl, ?_, rfl⟩
          exact Rep.mono (ext_same s2) _ _ rvv
  · cases ee
end
end DL
set_option Elab.async false
set_option linter.all false
set_option maxRecDepth 100000
namespace DL
open PySem PySem.Spec PyProof.Rows L2
def fldD (C : Addr) (f : Str) : D → Option D
  | .obj C' fs ds => if C' = C then (fs.zip ds).lookup f else none
  | _ => none
theorem lookup_rep {K : PySem.W.Frag} {G : Hp} {f : Str} {d : D} : ∀ {fs : List Str} {ds : List D} {xs : List V}, RepL K G ds xs → (fs.zip ds).lookup f = some d → ∃ v, (fs.zip xs).lookup f = some v ∧ Rep K G d v
  | [], ds, xs, r, e => by simp at e
  | g :: fs, [], xs, r, e => by simp at e
  | g :: fs, d' :: ds, _, ⟨v, r', rfl, h, t⟩, e => by
    rw [List.zip_cons_cons, List.lookup_cons] at e
    rw [List.zip_cons_cons, List.lookup_cons]
    split at e
    · rename_i q
      cases e
      exact ⟨v, rfl, h⟩
    · exact lookup_rep t e
theorem fldD_some {C : Addr} {f : Str} {x d : D} (h : fldD C f x = some d) : ∃ fs ds, x = .obj C fs ds ∧ (fs.zip ds).lookup f = some d := by
  unfold fldD at h
  split at h
  · split at h
    · rename_i q; subst q; exact ⟨_, _, rfl, h⟩
    · cases h
  · cases h
section
variable {X : Cx} {pos p apos : Pos} {e o : Expr} {fe fo : Env → Option D} {f m x : Str} {C : Addr} {es : List Expr} {fs : Env → Option (List D)} {ps : List Str} {g : List D → Option D} {k : Nat}
theorem pd_fld (c : Cls X.K C) (n : NoAttr X.K C f) (he : PEd X e fe) (hb : attributeBase e f X.env (eval e X.env) = eval e X.env := by rfl) : PEd X (.Attribute e f pos) (fun ρ => (fe ρ).bind (fldD C f)) :=
  peI (pe_fld he hb) fun σ H Q zz1 => by
    obtain ⟨G, ρ, d, g, R, ee, q⟩ := zz1
    obtain ⟨y, ey, ee⟩ := bind_some ee
    obtain ⟨ns, ds, rfl, el⟩ := fldD_some ee
    refine one_part g R ey fun vx H1 s1 g1 R1 r1 => ?_
    obtain ⟨a, dx, xs, rfl, ha, hl, rl⟩ := r1
    obtain ⟨v, ev, rv⟩ := lookup_rep rl el
    exact ⟨a, C, dx, _, v, rfl, g1 _ _ ha, c, n, ev, fin0 g1 (wish1 s1 q) rv⟩
structure Mt (P : Program) (w : World) (K : PySem.W.Frag) (mg : Str → Option Value) (base : Heap) (k : Nat) (C : Addr) (m : Str) (ps : List Str) (g : List D → Option D) : Prop where
  ex : ∃ f fd, FnOk P w K mg base CX0 k f fd ps (SpD K g) ∧ Meth K C m f ∧ Binds K fd ps []
def recvD (C : Addr) (m : Str) : D → Option D
  | .obj C' fs ds => if C' = C ∧ m ∉ fs then some (.obj C' fs ds) else none
  | _ => none
theorem recvD_some {C : Addr} {m : Str} {x d : D} (h : recvD C m x = some d) : ∃ fs ds, x = .obj C fs ds ∧ m ∉ fs ∧ d = .obj C fs ds := by
  unfold recvD at h
  split at h
  · split at h
    · rename_i q; cases h; obtain ⟨q1, q2⟩ := q; subst q1; exact ⟨_, _, rfl, q2, rfl⟩
    · cases h
  · cases h
theorem lookup_none {m : Str} : ∀ {fs : List Str} {xs : List V}, m ∉ fs → (fs.zip xs).lookup m = none
  | [], _, _ => rfl
  | _ :: _, [], _ => rfl
  | g :: fs, v :: xs, h => by
    rw [List.zip_cons_cons, List.lookup_cons]
    have h1 : (m == g) = false := by
      rw [beq_eq_false_iff_ne]
      intro q
      exact h (by rw [q]; exact List.mem_cons_self)
    rw [h1]
    exact lookup_none fun q => h (List.mem_cons_of_mem _ q)
theorem pd_meth0 {pl : Sem Bool} (c : Cls X.K C) (M : Mt X.prog X.w X.K X.mg X.base k C m ps g) (hr : Room k X.A) (he : PEd X o fo)
    (ht : eval (.Call (.Attribute o m apos) [] [] pos) X.env = (do
      let ov ← eval o X.env
      standAt apos.atName
      let (f, first) ← holding [ov] (getMethod ov m pl)
      callWith pos f first (backTo pos (starEach [] X.env)) (backToKw pos (keywordEach [] X.env))) := by rfl) :
    PEd X (.Call (.Attribute o m apos) [] [] pos) (fun ρ => ((fo ρ).bind (recvD C m)).bind fun y => g [y]) := by
  obtain ⟨f, fd, F, hm, hb⟩ := M.ex
  refine peI (pe_meth0 he c hm F hr hb .nil (pass0 (X := X)) ht) fun σ H Q zr2 => ?_
  obtain ⟨G, ρ, d, g0, R, ee, q⟩ := zr2
  obtain ⟨y, ey, ee⟩ := bind_some ee
  obtain ⟨y0, ey0, ey⟩ := bind_some ey
  obtain ⟨ns, ds, rfl, hn, rfl⟩ := recvD_some ey
  refine one_part g0 R ey0 fun vx H1 s1 g1 R1 r1 => ?_
  obtain ⟨a, dx, xs, rfl, h1, hl, rl⟩ := id r1
  refine ⟨a, dx, _, rfl, g1 _ _ h1, lookup_none hn, ?_⟩
  exact ⟨_, [D.obj C ns ds], d, g1, ⟨.ref a, _, rfl, r1, rfl⟩, ee, wish1 s1 q⟩
/-- the tuples of a view -/
def noM (G : Hp) : Hp := fun b => match G b with
  | some (.tup xs) => some (.tup xs)
  | some (.frz o (.tup xs)) => some (.frz o (.tup xs))
  | _ => none
theorem noM_of {G : Hp} {b : Addr} {o : HO} (h : noM G b = some o) : G b = some o ∧ ((∃ xs, o = .tup xs) ∨ ∃ ob xs, o = .frz ob (.tup xs)) := by
  unfold noM at h
  split at h
  · rename_i q; cases h; exact ⟨q, .inl ⟨_, rfl⟩⟩
  · rename_i q; cases h; exact ⟨q, .inr ⟨_, _, rfl⟩⟩
  · cases h
theorem noM_sub {G : Hp} : Same (noM G) G := fun b o e => (noM_of e).1
theorem noM_at {G : Hp} {b : Addr} {o : HO} (h : G b = some o) (k : (∃ xs, o = .tup xs) ∨ ∃ ob xs, o = .frz ob (.tup xs)) : noM G b = some o := by
  unfold noM
  rcases k with ⟨xs, rfl⟩ | ⟨ob, xs, rfl⟩ <;> rw [h]
mutual
/-- ints, tuples of them .. -/
def D.lf : D → Bool
  | .non => true | .bl _ => true | .int _ => true | .str _ => true
  | .tup ds => D.lfs ds
  | _ => false
def D.lfs : List D → Bool
  | [] => true
  | d :: ds => D.lf d && D.lfs ds
end
mutual
theorem rep_noM {K : PySem.W.Frag} {G : Hp} : ∀ (d : D) (v : V), d.lf = true → Rep K G d v → Rep K (noM G) d v
  | .non, _, _, h => h
  | .bl _, _, _, h => h
  | .int _, _, _, h => h
  | .str _, _, _, h => h
  | .tup ds, _, l, ⟨a, xs, e, h, r⟩ => by
    refine ⟨a, xs, e, ?_, repl_noM ds xs (by simpa [D.lf] using l) r⟩
    rcases h with (h | ⟨o, h⟩) | h
    · exact .inl (.inl (noM_at h (.inl ⟨_, rfl⟩)))
    · exact .inl (.inr ⟨o, noM_at h (.inr ⟨_, _, rfl⟩)⟩)
    · exact .inr h
  | .lst _, _, l, _ => by cases l
  | .own _, _, l, _ => by cases l
  | .scr _, _, l, _ => by cases l
  | .obj _ _ _, _, l, _ => by cases l
theorem repl_noM {K : PySem.W.Frag} {G : Hp} : ∀ (ds : List D) (vs : List V), D.lfs ds = true → RepL K G ds vs → RepL K (noM G) ds vs
  | [], _, _, h => h
  | d :: ds, _, l, ⟨v, r, e, h, t⟩ => by
    have l' : D.lf d = true ∧ D.lfs ds = true := by simpa [D.lfs] using l
    exact ⟨v, r, e, rep_noM d v l'.1 h, repl_noM ds r l'.2 t⟩
end
def SpI (K : PySem.W.Frag) (C : Addr) (ns : List Str) (g : List D → Option (List D)) : Sp := fun vs H Q _ => ∃ x dx vs' G ds es, vs = .ref x :: vs' ∧ H x = some (.ins C dx []) ∧ Same G (butL x H) ∧ RepL K G ds vs' ∧ g ds = some es ∧
  ∀ H' xs, Same (butL x H) H' → H' x = some (.ins C dx (ns.zip xs)) → ns.length = xs.length → RepL K (butL x (ext (noM G) H H')) es xs → Q .non H'
structure Ini (P : Program) (w : World) (K : PySem.W.Frag) (mg : Str → Option Value) (base : Heap) (k : Nat) (x : Str) (C : Addr) (ns : List Str) (ps : List Str) (g : List D → Option (List D)) : Prop where
  ex : ∃ f fd, Mk K C f ∧ FnOk P w K mg base CX0 k f fd ps (SpI K C ns g) ∧ mg x = some (.ref C) ∧ Binds K fd ps []
/-- a value that hangs on new objects alone -/
def tDR (K : PySem.W.Frag) (f : Env → Option D) : TE := fun σ H Q => ∃ G ρ d, Same G H ∧ RepSt K G σ ρ ∧ f ρ = some d ∧ ∀ v H', Same H H' → Rep K (ext (noM G) H H') d v → Q v H'
def PRd (X : Cx) (e : Expr) (f : Env → Option D) : Prop := PE X e (tDR X.K f)
theorem pd_of_pr (h : PRd X e fe) : PEd X e fe := peI h fun σ H Q ⟨G, ρ, d, g, R, ee, q⟩ => ⟨G, ρ, d, g, R, ee, fun v H' s r => q v H' s (Rep.mono (ext_mono noM_sub) _ _ r)⟩
theorem pr_make {ns : List Str} {gi : List D → Option (List D)} (I : Ini X.prog X.w X.K X.mg X.base k x C ns ps gi) (hr : Room (k + 1) X.A) (ha : PAd X (e :: es) fs) (hg : Gl X x := by rfl) (hdb : (x == ("__debug__" : Str)) = false := by decide) (he : starEach (e :: es) X.env = (false, eval e X.env) :: starEach es X.env := by rfl) (hpl : (backTo pos (starEach es X.env)).any (·.1) = false := by rfl) :
    PRd X (.Call (.Name x p) (e :: es) [] pos) (fun ρ => ((fs ρ).bind gi).map fun es => .obj C ns es) := by
  obtain ⟨f, fd, M, F, hm, hb⟩ := I.ex
  refine peI (pe_make M F hr hg hm hb .nil (pass0 (X := X)) ha hdb he hpl) fun σ H Q zr3 => ?_
  obtain ⟨G, ρ, d, g0, R, ee, q⟩ := zr3
  dsimp only at ee
  cases eg : (fs ρ).bind gi with
  | none => rw [eg] at ee; cases ee
  | some ds =>
    rw [eg] at ee
    cases ee
    obtain ⟨as, ea, eg⟩ := bind_some eg
    refine ⟨G, ρ, as, g0, R, ea, fun vs H1 s1 r1 x dx hx hdx hne => ?_⟩
    have out : ∀ b u, H1 b = some u → b ≠ x ∧ b ≠ dx := fun b u z => ⟨(fun q => by rw [q, hx] at z; cases z), (fun q => by rw [q, hdx] at z; cases z)⟩
    have g1 := ext_sub g0 s1
    refine ⟨x, dx, vs, ext G H H1, as, ds, by rw [List.append_nil], upd_same, fun b u z => ?_, r1, eg, fun H' xs sm hx' hl rl => ⟨rfl, q _ _ (fun b u z => ?_) ⟨x, dx, xs, rfl, ?_, hl, RepL.mono (fun b u z => ?_) _ _ rl⟩⟩⟩
    · obtain ⟨h1, h2⟩ := out b u (g1 _ _ z)
      unfold butL
      rw [if_neg h1, upd_ne h1, upd_ne h2]
      exact g1 _ _ z
    · obtain ⟨h1, h2⟩ := out b u (s1 _ _ z)
      refine sm b u ?_
      unfold butL
      rw [if_neg h1, upd_ne h1, upd_ne h2]
      exact s1 _ _ z
    · rw [ext_none (s1.free hx)]; exact hx'
    · unfold butL at z
      split at z
      · cases z
      · rename_i hb
        cases q1 : (upd (upd H1 dx (.own x)) x (.ins C dx [])) b with
        | some w =>
          rw [ext_some q1] at z
          obtain ⟨z1, zk⟩ := noM_of z
          cases q2 : H b with
          | none =>
            rw [ext_none q2] at z1 ⊢
            obtain ⟨h1, h2⟩ := out b u z1
            refine sm b u ?_
            unfold butL
            rw [if_neg h1, upd_ne h1, upd_ne h2]
            exact z1
          | some w2 =>
            rw [ext_some q2] at z1 ⊢
            exact noM_at z1 zk
        | none =>
          rw [ext_none q1] at z
          have h0 : H b = none := by
            cases q2 : H b with
            | none => rfl
            | some w =>
              obtain ⟨h1, h2⟩ := out b w (s1 _ _ q2)
              rw [upd_ne h1, upd_ne h2, s1 _ _ q2] at q1
              cases q1
          rw [ext_none h0]
          exact z
end
section
variable {X : Cx} {a b : List Stmt} {f g : Env → Option Out} {e c : Expr} {fe : Env → Option D} {fc : Env → Option Bool} {pos : Pos}
end
/-- THE RULE for a method -/
theorem Mt.of {P : Program} {w : World} {K : PySem.W.Frag} {mg : Str → Option Value} {base : Heap} {x qual : Str} {st : Stmt} {f C : Addr} {fd : FuncData} {N ps : List Str} {k : Nat} {g : List D → Option D} (F : Fun K x qual st f fd) (S : FnScope N ps (defScope st))
    (hm : Meth K C x f) (hb : Binds K fd ps []) (len : ∀ ds d, g ds = some d → ds.length = ps.length)
    (body : ∀ (cdv : Value) (A : Around) (outer : List PySem.Env) (s : Shared) (H : Hp) (E : XK), Room k (cxOf CX0 P w K mg base N qual (defScope st) f cdv A outer s H E).nox.A →
      ∃ fb, PSsd (cxOf CX0 P w K mg base N qual (defScope st) f cdv A outer s H E).nox (defBody st) fb ∧ ∀ ds d, g ds = some d → (fb (startD N ds)).bind retO = some d) : Mt P w K mg base (k + 1) C x ps g :=
  ⟨f, fd, Fn.ok1 F S len body, hm, hb⟩
end DL
set_option Elab.async false
set_option linter.all false
set_option maxRecDepth 100000
namespace DL
open PySem PySem.Spec PyProof.Rows L2
abbrev Ex (α : Type) := Except Addr α
/-- beneath ValueError -/
abbrev mroV : List Value := [.type "ValueError", .type "Exception", .type "BaseException", .type "object"]
theorem exc_obj {K : PySem.W.Frag} {h : Heap} {C : Addr} {ml : List Value} {nid : String} (kin : K.In h) (q : PySem.W.excIn K C ml nid = true) :
    ∃ nm qn N bs bm hdct sn sub ab col dd k0 k1 k2 k3 k5 mN, h.get? C = some (excClassObj nm qn C N bs bm hdct sn sub ab col dd k0 k1 k2 k3 k5 nid) ∧ h.Ns N mN ∧ mN "__init__" = none ∧ OwnTail h ml bm := by
  unfold PySem.W.excIn at q
  split at q
  case h_2 => cases q
  rename_i dict cdat slots at0
  split at q
  case h_2 => cases q
  rename_i C1 tl s0 s1 s2 s3 nn s5 mr sls
  simp only [Bool.and_eq_true, beq_iff_eq, Bool.not_eq_true'] at q
  obtain ⟨⟨⟨⟨⟨eC, en⟩, nodel⟩, tails⟩, nsok⟩, noinit⟩ := q
  subst eC en
  obtain ⟨name, bases, mro, ns, qual, hasD, snames, subs, abst, coll, dl⟩ := cdat
  dsimp only at mr nodel nsok noinit
  subst mr nodel
  obtain ⟨sl⟩ := slots
  dsimp only at sls
  subst sls
  exact ⟨_, _, _, _, _, _, _, _, _, _, _, _, _, _, _, _, _, kin _ _ at0, .of_isNs (PySem.W.isNs_of_in kin nsok), PySem.W.nsMap_none_of_in kin nsok noinit, PySem.W.tail_of_in kin tails⟩
def tDX (X : Cx) (f : Env → Option (Ex D)) : TE := fun σ H Q => ∃ G ρ r, Same G H ∧ RepSt X.K G σ ρ ∧ f ρ = some r ∧ match r with
  | .ok d => ∀ v H', Same H H' → Rep X.K (ext G H H') d v → Q v H'
  | .error C => ∀ H', Same H H' → XL.XW X C σ H'
def PXd (X : Cx) (e : Expr) (f : Env → Option (Ex D)) : Prop := PE X e (tDX X f)
def tDXA (X : Cx) (f : Env → Option (Ex (List D))) : TA := fun σ H Q => ∃ G ρ r, Same G H ∧ RepSt X.K G σ ρ ∧ f ρ = some r ∧ match r with
  | .ok ds => ∀ vs H', Same H H' → RepL X.K (ext G H H') ds vs → Q vs H'
  | .error C => ∀ H', Same H H' → XL.XW X C σ H'
def PXAd (X : Cx) (es : List Expr) (f : Env → Option (Ex (List D))) : Prop := PA X es (tDXA X f)
/-- behind what may raise -/
def exB {α β : Type} (x : Option (Ex α)) (f : α → Option (Ex β)) : Option (Ex β) := match x with
  | some (.ok a) => f a
  | some (.error C) => some (.error C)
  | none => none
def exF (ρ : Env) (f : D → Out) : Ex D → Out
  | .ok d => f d
  | .error C => .ex C ρ
section
variable {X : Cx} {pos p : Pos} {e o : Expr} {es : List Expr} {fe fo : Env → Option D} {fx : Env → Option (Ex D)} {fa : Env → Option (List D)} {fs : Env → Option (Ex (List D))} {x m : Str} {ps : List Str} {g : List D → Option (Ex D)} {k : Nat} {C : Addr} {apos : Pos}
theorem pxa_of (h : PAd X es fa) : PXAd X es (fun ρ => (fa ρ).map .ok) := paI h fun σ H Q zz2 => by
  obtain ⟨G, ρ, r, g0, R, ee, q⟩ := zz2
  dsimp only at ee
  cases ef : fa ρ with
  | none => rw [ef] at ee; cases ee
  | some d => rw [ef] at ee; cases ee; exact ⟨G, ρ, d, g0, R, ef, q⟩
theorem pxa_cons (ha : PXd X e fx) (hr : PXAd X es fs) (hs : starEach (e :: es) X.env = (false, eval e X.env) :: starEach es X.env := by rfl) :
    PXAd X (e :: es) (fun ρ => exB (fx ρ) fun d => exB (fs ρ) fun ds => some (.ok (d :: ds))) :=
  paI (pa_cons ha hr hs) fun σ H Q zz3 => by
    obtain ⟨G, ρ, r, g0, R, ee, q⟩ := zz3
    dsimp only at ee
    cases e1 : fx ρ with
    | none => rw [e1] at ee; cases ee
    | some r1 =>
      rw [e1] at ee
      cases r1 with
      | error C => cases ee; exact ⟨G, ρ, _, g0, R, e1, q⟩
      | ok d =>
        refine ⟨G, ρ, _, g0, R, e1, fun v H1 s1 h1 => ?_⟩
        have ee : exB (fs ρ) (fun ds => some (.ok (d :: ds))) = some r := ee
        cases e2 : fs ρ with
        | none => rw [e2] at ee; cases ee
        | some r2 =>
          rw [e2] at ee
          have g1 := ext_sub g0 s1
          cases r2 with
          | error C => cases ee; exact ⟨_, ρ, _, g1, R.mono (ext_same g0), e2, fun H2 s2 => q H2 (s1.trans s2)⟩
          | ok ds =>
            cases ee
            refine ⟨_, ρ, _, g1, R.mono (ext_same g0), e2, fun vs H2 s2 h2 => q _ _ (s1.trans s2) ⟨v, vs, rfl, ?_, ?_⟩⟩
            · rw [← ext_ext s1 s2]; exact Rep.mono (ext_same g1) _ _ h1
            · rw [← ext_ext s1 s2]; exact h2
def XE (X : Cx) (σ : St) : XK := fun c _ H' => ∃ C, c = .ref C ∧ XL.XW X C σ H'
def SpX (K : PySem.W.Frag) (g : List D → Option (Ex D)) : Sp := fun vs H Q E => ∃ G ds r, Same G H ∧ RepL K G ds vs ∧ g ds = some r ∧ match r with
  | .ok d => ∀ v H', Same H H' → Rep K (ext G H H') d v → Q v H'
  | .error C => ∀ H', Same H H' → E (.ref C) none H'
structure FnX (P : Program) (w : World) (K : PySem.W.Frag) (mg : Str → Option Value) (base : Heap) (k : Nat) (x : Str) (ps : List Str) (g : List D → Option (Ex D)) : Prop where
  ex : ∃ f fd, FnOk P w K mg base (XL.CX1 P w) k f fd ps (SpX K g) ∧ mg x = some (.ref f) ∧ PySem.W.keepIn K (.ref f) = true ∧ Binds K fd ps []
structure MtX (P : Program) (w : World) (K : PySem.W.Frag) (mg : Str → Option Value) (base : Heap) (k : Nat) (C : Addr) (m : Str) (ps : List Str) (g : List D → Option (Ex D)) : Prop where
  ex : ∃ f fd, FnOk P w K mg base (XL.CX1 P w) k f fd ps (SpX K g) ∧ Meth K C m f ∧ Binds K fd ps []
/-- the callee runs, or its exception reaches this body -/
theorem run_fnX {f : Addr} {fd : FuncData} {sp : Sp} {pins : List (Addr × Obj)} {σ : St} {H : Hp} {s : Shared} {Q : VK} {us : List Value} {vs : List V} (F : FnOk X.prog X.w X.K X.mg X.base (XL.CX1 X.prog X.w) k f fd ps sp) (hr : Room k X.A) (hb : Binds X.K fd ps [])
    (I : Inv X pins σ H s) (r : Vals vs us) (h : sp vs H Q (XE X σ)) : wpAny (model X.prog X.w) X.A (call (.ref f) us) (EP X pins σ Q) X.xe s := by
  have hl : (us ++ []).length = ps.length := by rw [List.append_nil, ← r.length]; exact F.len _ _ _ _ h
  refine wpAny_call (codeAny_mono (F.run X.A X.stack s H ⟨us, []⟩ us vs Q (XE X σ) hr I.env0 ?_ r h) fun r s' hq => ?_)
  · have := hb s us I.kIn hl
    rw [List.append_nil] at this
    exact this
  cases r with
  | error e =>
    obtain ⟨ea, C, H', rfl, fl, C', ec, xw⟩ := hq
    cases ec
    exact xw ea s' (.inr ⟨pins, s, H, I, fl⟩)
  | ok fl =>
    cases fl with
    | ret u => exact I.after hq
    | next => exact False.elim hq
    | brk => exact False.elim hq
    | cont => exact False.elim hq
theorem px_call (F : FnX X.prog X.w X.K X.mg X.base k x ps g) (hr : Room k X.A) (ha : PXAd X (e :: es) fs) (hg : Gl X x := by rfl) (hdb : (x == ("__debug__" : Str)) = false := by decide) (he : starEach (e :: es) X.env = (false, eval e X.env) :: starEach es X.env := by rfl) (hpl : (backTo pos (starEach es X.env)).any (·.1) = false := by rfl) :
    PXd X (.Call (.Name x p) (e :: es) [] pos) (fun ρ => exB (fs ρ) g) := by
  obtain ⟨f, fd, G, hm, hk, hb⟩ := F.ex
  intro pins s σ H Q I ⟨V, ρ, r, g0, R, ee, q⟩
  refine wpAny_Call_Name_kw (ld_glob I hg hm ?_ hdb)
  dsimp only at ee
  refine PySem.W.callWith_K (h₀ := X.base) I.ok.mod.kin hk (thn (ha pos pins s σ H (fun vs H1 => SpX X.K g vs H1 Q (XE X σ)) I ?_) fun us s1 ⟨vs, H1, I1, r1, q1⟩ => ⟨I1.kIn, run_fnX G hr hb I1 r1 q1⟩) he hpl
  cases e1 : fs ρ with
  | none => rw [e1] at ee; cases ee
  | some r1 =>
    rw [e1] at ee
    cases r1 with
    | error C => cases ee; exact ⟨V, ρ, _, g0, R, e1, q⟩
    | ok ds =>
      refine ⟨V, ρ, _, g0, R, e1, fun vs H1 s1 h1 => ⟨_, ds, r, ext_sub g0 s1, h1, ee, ?_⟩⟩
      cases r with
      | ok d => exact wish1 s1 q
      | error C => exact fun H' s' => ⟨C, rfl, q H' (s1.trans s')⟩
theorem px_meth {pl : Sem Bool} (c : Cls X.K C) (M : MtX X.prog X.w X.K X.mg X.base k C m ps g) (hr : Room k X.A) (he : PEd X o fo) (ha : PXAd X (e :: es) fs)
    (hst : starEach (e :: es) X.env = (false, eval e X.env) :: starEach es X.env := by rfl) (hpl : (backTo pos (starEach es X.env)).any (·.1) = false := by rfl)
    (ht : eval (.Call (.Attribute o m apos) (e :: es) [] pos) X.env = (do
      let ov ← eval o X.env
      standAt apos.atName
      let (f, first) ← holding [ov] (getMethod ov m pl)
      callWith pos f first (backTo pos (starEach (e :: es) X.env)) (backToKw pos (keywordEach [] X.env))) := by rfl) :
    PXd X (.Call (.Attribute o m apos) (e :: es) [] pos) (fun ρ => ((fo ρ).bind (recvD C m)).bind fun y => exB (fs ρ) fun as => g (y :: as)) := by
  obtain ⟨f, fd, F, hm, hb⟩ := M.ex
  intro pins s σ H Q I ⟨V, ρ, r, g0, R, ee, q⟩
  obtain ⟨y, ey, ee⟩ := bind_some ee
  obtain ⟨y0, ey0, ey⟩ := bind_some ey
  obtain ⟨ns, ds, rfl, hn, rfl⟩ := recvD_some ey
  refine PySem.W.methodCall_KW (pl := pl) (thn (he pins s σ H (fun v H1 => ∃ a, v = .ref a ∧ Same H H1 ∧ Rep X.K (ext V H H1) (.obj C ns ds) v) I ⟨V, ρ, _, g0, R, ey0, fun v H1 s1 r1 => ?_⟩) fun u s1 ⟨vx, H1, I1, rx, a, ex, s01, r1⟩ => ?_) ht
  · obtain ⟨a, dx, xs, rfl, h1, hl, rl⟩ := id r1
    exact ⟨a, rfl, s1, r1⟩
  subst ex
  obtain rfl : u = Value.ref a := rx
  have g1 := ext_sub g0 s01
  obtain ⟨a', dx, xs, ea', h1, hl, rl⟩ := id r1
  cases ea'
  refine getmeth_ok I1 (g1 _ _ h1) c hm (lookup_none hn) ?_
  refine PySem.W.callWith_K (first := [.ref a]) (h₀ := X.base) I.ok.mod.kin hm.kp (thn (ha pos pins s1 σ H1 (fun vs H2 => SpX X.K g (.ref a :: vs) H2 Q (XE X σ)) I1 ?_) fun us s2 ⟨vs, H2, I2, r2, q2⟩ => ⟨I2.kIn, run_fnX (us := .ref a :: us) (vs := .ref a :: vs) F hr hb I2 (.cons rfl r2) q2⟩) hst hpl
  cases e1 : fs ρ with
  | none => rw [e1] at ee; cases ee
  | some rr =>
    rw [e1] at ee
    cases rr with
    | error C => cases ee; exact ⟨_, ρ, _, g1, R.mono (ext_same g0), e1, fun H2 s2 => q H2 (s01.trans s2)⟩
    | ok as =>
      refine ⟨_, ρ, _, g1, R.mono (ext_same g0), e1, fun vs H2 s2 h2 => ⟨_, D.obj C ns ds :: as, r, ext_sub g1 s2, ⟨.ref a, _, rfl, Rep.mono (ext_same g1) _ _ r1, h2⟩, ee, ?_⟩⟩
      cases r with
      | ok d => exact wish1 s2 (wish1 s01 q)
      | error C => exact fun H' s' => ⟨C, rfl, q H' (s01.trans (s2.trans s'))⟩
theorem psd_exprX (he : PXd X e fx) (hs : swapsWith e none pos.line X.env = pure false := by rfl) : PSd X (.Expr e pos) (fun ρ => (fx ρ).map (exF ρ fun _ => .nx ρ)) :=
  psI (ps_expr he hs) fun E σ H zz4 => by
    obtain ⟨G₀, H₀, ρ, o, ⟨own, S⟩, ee, c⟩ := zz4
    dsimp only at ee
    cases ed : fx ρ with
    | none => rw [ed] at ee; cases ee
    | some r =>
      rw [ed] at ee
      cases r with
      | ok d => cases ee; exact ⟨_, ρ, _, S.sub, S.rep, ed, fun v H' s r => c _ _ ⟨own, S.grow s⟩⟩
      | error C => cases ee; exact ⟨_, ρ, _, S.sub, S.rep, ed, fun H' s => c _ _ ⟨own, S.grow s⟩⟩
theorem psd_setX (i : Nat) {pos' : Pos} (hN : X.N.Nodup) (he : PXd X e fx) (hi : X.N[i]? = some x := by rfl) (hx : Loc X.env.scope x := by first | exact Or.inl rfl | exact Or.inr rfl)
    (hs : swapsWith e (some (.Name x pos')) pos.line X.env = pure false := by rfl) (hf : X.fn x = true ∨ X.env.scope.names.lookup x = some .local := by first | exact .inl rfl | exact .inr rfl) :
    PSd X (.Assign [.Name x pos'] e pos) (fun ρ => (fx ρ).map (exF ρ fun d => .nx (ρ.set i (some d)))) :=
  psI (ps_set hN hi hx he hs hf) fun E σ H zz5 => by
    obtain ⟨G₀, H₀, ρ, o, ⟨own, S⟩, ee, k⟩ := zz5
    dsimp only at ee
    cases ed : fx ρ with
    | none => rw [ed] at ee; cases ee
    | some r =>
      rw [ed] at ee
      cases r with
      | ok d => cases ee; exact ⟨_, ρ, _, S.sub, S.rep, ed, fun v H' s r => k _ _ ⟨_, (S.grow s).set (Rep.mono (S.grown s) _ _ r)⟩⟩
      | error C => cases ee; exact ⟨_, ρ, _, S.sub, S.rep, ed, fun H' s => k _ _ ⟨own, S.grow s⟩⟩
theorem psd_retX (he : PXd X e fx) : PSd X (.Return (some e) pos) (fun ρ => (fx ρ).map (exF ρ .rt)) :=
  psI (ps_ret he) fun E σ H zz6 => by
    obtain ⟨G₀, H₀, ρ, o, ⟨own, S⟩, ee, c⟩ := zz6
    dsimp only at ee
    cases ed : fx ρ with
    | none => rw [ed] at ee; cases ee
    | some r =>
      rw [ed] at ee
      cases r with
      | ok d => cases ee; exact ⟨_, ρ, _, S.sub, S.rep, ed, fun v H' s r => c v H' (S.same.trans s) (Rep.mono (fun b o z => cutO_sub _ _ (S.grown s _ _ z)) _ _ r)⟩
      | error C => cases ee; exact ⟨_, ρ, _, S.sub, S.rep, ed, fun H' s => c _ _ ⟨own, S.grow s⟩⟩
/-- raise C(..) -/
theorem psd_raise {np cpos : Pos} (ok : PySem.W.excIn X.K C mroV "ValueError.__new__" = true) (hm : X.mg x = some (.ref C)) (ha : PAd X (e :: es) fa) (hh : X.A.handled = none) (hg : Gl X x := by rfl) (hdb : (x == ("__debug__" : Str)) = false := by decide)
    (he : starEach (e :: es) X.env = (false, eval e X.env) :: starEach es X.env := by rfl) (hpl : (backTo cpos (starEach es X.env)).any (·.1) = false := by rfl) :
    PSd X (.Raise (some (.Call (.Name x np) (e :: es) [] cpos)) none pos) (fun ρ => (fa ρ).bind fun ds => if ds.length ≤ 1000 then some (.ex C ρ) else none) := by
  intro pins s σ H En I ⟨G₀, H₀, ρ, o, ⟨own, S⟩, ee, c⟩
  obtain ⟨ds, ed, ee⟩ := bind_some ee
  split at ee
  case isFalse => cases ee
  rename_i hlen
  cases ee
  obtain ⟨nm, qn, N, bs, bm, hdct, sn, sub, ab, col, dd, k0, k1, k2, k3, k5, mN, oC, oN, ni, tl⟩ := exc_obj I.mod.kin ok
  have tl' : OwnTail X.base mroV bm := tl
  refine wpAny_Raise_call_subT (k5 := k5) (k3 := k3) (k2 := k2) (k1 := k1) (k0 := k0) (dd := dd) (col := col) (ab := ab) (sub := sub) (sn := sn) (hdct := hdct) (bs := bs) (N := N) (q := qn) (nm := nm) (C := C) PySem.F.excBase_ValueError (mN := mN) (tl'.hasType (by decide)) hh (by rw [he]; exact hpl) ni (ld_glob I hg hm ⟨rfl, ?_⟩ hdb)
  have ha1 := ha cpos pins s σ H (fun vs H1 => Same H H1 ∧ vs.length ≤ 1000) I ⟨_, ρ, ds, S.sub, S.rep, ed, fun vs H1 s1 r1 => ⟨s1, by rw [← r1.length]; exact hlen⟩⟩
  rw [he] at ha1 ⊢
  refine Calls.evalArgs_plain (thn ha1 fun us s1 zr1 => ?_)
  obtain ⟨vs, H1, I1, r1, sm, hl⟩ := zr1
  refine ⟨rfl, by rw [← r1.length]; exact Nat.le_of_lt (small1000 hl), I1.bk _ _ oC, oN.keeps I1.bk, tl'.keeps I1.bk, fun h' ea mk => ?_⟩
  exact c σ H1 ⟨own, S.grow sm⟩ ea _ (.inl ⟨pins, s1, h', _, I1, mk, rfl⟩)
end
def retX : Out → Option (Ex D)
  | .rt d => some (.ok d)
  | .nx _ => some (.ok .non)
  | .ex C _ => some (.error C)
  | _ => none
section
variable {P : Program} {w : World} {K : PySem.W.Frag} {mg : Str → Option Value} {base : Heap} {x qual : Str} {st : Stmt} {f C : Addr} {fd : FuncData} {N ps : List Str} {k : Nat} {g : List D → Option (Ex D)}
abbrev cx1 (P : Program) (w : World) (K : PySem.W.Frag) (mg : Str → Option Value) (base : Heap) (N : List Str) (qual : Str) (st : Stmt) (f : Addr) (cdv : Value) (A : Around) (outer : List PySem.Env) (s : Shared) (H : Hp) (E : XK) : Cx :=
  cxOf (XL.CX1 P w) P w K mg base N qual (defScope st) f cdv A outer s H E
theorem xw_of {cdv : Value} {A : Around} {outer : List PySem.Env} {s : Shared} {H H' : Hp} {E : XK} {σ : St} (h : E (.ref C) none H') : XL.XW (cx1 P w K mg base N qual st f cdv A outer s H E) C σ H' := by
  intro ea s' F
  rcases F with ⟨pins, s1, h1, vs, I, m, rfl⟩ | ⟨pins, s1, H0, I, F⟩
  · exact XL.made_leaves (X := cx1 P w K mg base N qual st f cdv A outer s H E) rfl rfl rfl I m fun s2 F2 => ⟨ea, C, H', rfl, F2, h⟩
  · exact XL.on_leaves (X := cx1 P w K mg base N qual st f cdv A outer s H E) rfl rfl rfl I F fun s2 F2 => ⟨ea, C, H', rfl, F2, h⟩
theorem FnX.ok1 (F : Fun K x qual st f fd) (S : FnScope N ps (defScope st)) (len : ∀ ds r, g ds = some r → ds.length = ps.length)
    (body : ∀ (cdv : Value) (A : Around) (outer : List PySem.Env) (s : Shared) (H : Hp) (E : XK), Room k (cx1 P w K mg base N qual st f cdv A outer s H E).A →
      ∃ fb, PSsd (cx1 P w K mg base N qual st f cdv A outer s H E) (defBody st) fb ∧ ∀ ds r, g ds = some r → (fb (startD N ds)).bind retX = some r) : FnOk P w K mg base (XL.CX1 P w) (k + 1) f fd ps (SpX K g) := by
  obtain ⟨oc, od, kV, doc, pm, an, cdv, ct, osl, rfl, lk, hcd⟩ := F.ex
  refine fn_of lk hcd S (fun vs H Q E zz7 => by obtain ⟨G, ds, r, g0, rp, e, q⟩ := zz7; rw [← rp.length]; exact len _ _ e) fun A outer s H vs Q E hr zr2 => ?_
  obtain ⟨G, ds, r, g0, rp, e, q⟩ := zr2
  obtain ⟨fb, h1, h2⟩ := body cdv A outer s H E hr
  refine ⟨_, h1, ?_⟩
  obtain ⟨o, eo, er⟩ := bind_some (h2 ds r e)
  refine ⟨G, H, _, o, start_ok g0 rp, eo, ?_⟩
  cases o with
  | rt d => cases er; exact fun v H' s r => q v H' s r
  | nx ρ => cases er; exact fun σ H' ⟨own, S'⟩ => q _ _ S'.same rfl
  | bk ρ => cases er
  | ct ρ => cases er
  | ex C ρ => cases er; exact fun σ H' ⟨own, S'⟩ => xw_of (q H' S'.same)
theorem FnX.of (F : Fun K x qual st f fd) (S : FnScope N ps (defScope st)) (hm : mg x = some (.ref f)) (hb : Binds K fd ps []) (len : ∀ ds r, g ds = some r → ds.length = ps.length)
    (body : ∀ (cdv : Value) (A : Around) (outer : List PySem.Env) (s : Shared) (H : Hp) (E : XK), Room k (cx1 P w K mg base N qual st f cdv A outer s H E).A →
      ∃ fb, PSsd (cx1 P w K mg base N qual st f cdv A outer s H E) (defBody st) fb ∧ ∀ ds r, g ds = some r → (fb (startD N ds)).bind retX = some r) : FnX P w K mg base (k + 1) x ps g :=
  ⟨f, fd, FnX.ok1 F S len body, hm, F.kp, hb⟩
theorem MtX.of (F : Fun K x qual st f fd) (S : FnScope N ps (defScope st)) (hm : Meth K C x f) (hb : Binds K fd ps []) (len : ∀ ds r, g ds = some r → ds.length = ps.length)
    (body : ∀ (cdv : Value) (A : Around) (outer : List PySem.Env) (s : Shared) (H : Hp) (E : XK), Room k (cx1 P w K mg base N qual st f cdv A outer s H E).A →
      ∃ fb, PSsd (cx1 P w K mg base N qual st f cdv A outer s H E) (defBody st) fb ∧ ∀ ds r, g ds = some r → (fb (startD N ds)).bind retX = some r) : MtX P w K mg base (k + 1) C x ps g :=
  ⟨f, fd, FnX.ok1 F S len body, hm, hb⟩
end
end DL
set_option Elab.async false
set_option linter.all false
set_option maxRecDepth 100000
namespace DL
open PySem PySem.Spec PyProof.Rows L2
section
variable {X : Cx} {pins : List (Addr × Obj)} {σ : St} {H : Hp} {s : Shared}
/-- a local name goes: its slot is empty -/
theorem inv_goes {i : Nat} {n : Str} {h2 : Heap} {m : Str → Option Value} {v : Option Value} {t' : Nat} (I : Inv X pins σ H s) (hN : X.N.Nodup) (hi : X.N[i]? = some n) (hk : X.env.kindOf n = some .local)
    (hm : ∀ (j : Nat) (x : Str) (w : V), X.N[j]? = some x → σ[j]? = some (some w) → Vis X.env.scope x → ∃ u, RelV w u ∧ Look X.env s.heap m x u) (L0 : s.heap.Ns X.env.locals m)
    (hn : h2.Ns X.env.locals (fun x => if x = n then v else m x)) (hs : Heap.SameBut X.env.locals s.heap h2) : Inv X pins (σ.set i none) H { s with heap := h2, toks := t' } := by
  have lo : ∀ b o, X.s₀.heap.get? b = some o → b ≠ X.env.locals := fun b o e => Nat.ne_of_lt (Nat.lt_of_lt_of_le (Heap.lt_size e) I.ok.above)
  have cne := I.cne
  have hiσ : i < σ.length := by rw [I.len]; exact (List.getElem?_eq_some_iff.mp hi).1
  refine ⟨I.ok, I.os, I.bare, ⟨fun b o e n hb hx => (hs.2 b (lo b o e)).trans (I.base.keep b o e n hb hx), fun b o e n hb hx => ?_, I.base.free, fun b o e hx => ?_, I.base.tups, I.base.frzs, I.base.tbls⟩, ⟨_, hn, fun j y w e1 e2 e3 => ?_⟩, fun y c e => ?_, I.free, I.freeC, fun p hp => ?_, fun b ob e => ?_, by simpa using I.len⟩
  · obtain ⟨sl, q⟩ := I.base.slot b o e n hb hx
    exact ⟨sl, (hs.2 b (lo b o e)).trans q⟩
  · obtain ⟨o1, q⟩ := I.base.there b o e hx
    exact ⟨o1, (hs.2 b (lo b o e)).trans q⟩
  · by_cases hj : j = i
    · subst hj
      rw [List.getElem?_set_self hiσ] at e2
      cases e2
    · rw [List.getElem?_set_ne (Ne.symm hj)] at e2
      obtain ⟨u, ru, q⟩ := hm j y w e1 e2 e3
      refine ⟨u, ru, ?_⟩
      rcases q with ⟨k, e⟩ | ⟨k, c, e, z⟩
      · have hy : y ≠ n := fun q => hj (nodup_ix hN e1 (q ▸ hi))
        exact .inl ⟨k, by show (if y = n then v else m y) = some u; rw [if_neg hy]; exact e⟩
      · exact .inr ⟨k, c, e, z.sameBut hs (cne y c e)⟩
  · obtain ⟨w, z⟩ := I.cell y c e
    exact ⟨w, z.sameBut hs (cne y c e)⟩
  · obtain ⟨e, n, ne, nf, d⟩ := I.pin p hp
    exact ⟨(hs.2 p.1 ne).trans e, n, ne, nf, d⟩
  · refine (I.hok b ob e).stay (fun c u hc q => (hs.2 c fun z => ?_).trans q) (fun _ q => q) fun _ _ q => q
    have fr := I.free
    subst z
    rcases hc with hc | hc
    · rw [hc, e] at fr; cases fr
    · rw [hc] at fr; cases fr
theorem name_gone {M : Model} {A : Around} {E : Value → Shared → Prop} {i : Nat} {n : Str} {pos : Pos} {Q : Unit → Shared → Prop} (I : Inv X pins σ H s) (hN : X.N.Nodup) (hi : X.N[i]? = some n) (hk : X.env.kindOf n = some .local)
    (q : ∀ s', Inv X pins (σ.set i none) H s' → Q () s') : wpAny M A (do bindName X.env n .none; unbindBehindTheSuite X.env n pos) Q E s := by
  obtain ⟨m, hn, hl⟩ := id I.loc
  exact wpAny_nameGoes_keeps hk hn (by rw [I.ok.kind]; rfl) fun h2 v hn2 hs => q _ (inv_goes I hN hi hk hl hn hn2 hs)
def tryXe (X : Cx) (pins : List (Addr × Obj)) (D : Ends) (hs : List ExceptHandler) : Value → Shared → Prop := fun e s1 =>
  wpAny (model X.prog X.w) X.A (noteFrame e X.env) (fun _ s2 => wpAny (model X.prog X.w) X.A (setFlight e none) (fun _ s3 => wpAny (model X.prog X.w) X.A (handleBy e X.env hs) (SP X pins D) X.xe s3) X.xe s2) X.xe s1
abbrev bodyCx (X : Cx) (pn : List (Addr × Obj)) (xe : Value → Shared → Prop) : Cx := { X with pn := pn, xe := xe }
abbrev suiteCx (X : Cx) (A : Around) (xe : Value → Shared → Prop) : Cx := { X with A := A, calm := false, xe := xe }
theorem Cx.Ok.body (ok : X.Ok) {pn : List (Addr × Obj)} {xe : Value → Shared → Prop} : (bodyCx X pn xe).Ok :=
  ⟨ok.mod, ok.kind, ok.glob, ok.blt, ok.above, ok.inj, ok.has, ok.cab, ok.hd, ok.frames, ok.stk, ok.exf, ok.bs, ok.bsz, ok.noex, ok.exfs, ok.funs, ok.frf⟩
theorem Inv.body (I : Inv X pins σ H s) {xe : Value → Shared → Prop} : Inv (bodyCx X (X.pn ++ pins) xe) [] σ H s :=
  ⟨Cx.Ok.body I.ok, I.os, I.bare, I.base, I.loc, I.cell, I.free, I.freeC, fun p hp => I.pin p (by rw [List.append_nil] at hp; exact hp), I.hok, I.len⟩
theorem Inv.unbody {pins' : List (Addr × Obj)} {xe : Value → Shared → Prop} (ok : X.Ok) (I : Inv (bodyCx X (X.pn ++ pins) xe) pins' σ H s) : Inv X pins σ H s :=
  ⟨ok, I.os, I.bare, I.base, I.loc, I.cell, I.free, I.freeC, fun p hp => I.pin p (List.mem_append_left _ hp), I.hok, I.len⟩
theorem Inv.suite (I : Inv X pins σ H s) {e : Value} {xe : Value → Shared → Prop} : Inv (suiteCx X (X.A.mark (some e)) xe) pins σ H s :=
  ⟨⟨I.ok.mod, I.ok.kind, I.ok.glob, I.ok.blt, I.ok.above, I.ok.inj, I.ok.has, I.ok.cab, (fun z => by cases z), I.ok.frames, I.ok.stk, I.ok.exf, I.ok.bs, I.ok.bsz, I.ok.noex, I.ok.exfs, I.ok.funs, I.ok.frf⟩, I.os, I.bare, I.base, I.loc, I.cell, I.free, I.freeC, I.pin, I.hok, I.len⟩
theorem Inv.unsuite {A : Around} {xe : Value → Shared → Prop} (ok : X.Ok) (I : Inv (suiteCx X A xe) pins σ H s) : Inv X pins σ H s :=
  ⟨ok, I.os, I.bare, I.base, I.loc, I.cell, I.free, I.freeC, I.pin, I.hok, I.len⟩
theorem sp_unbody {D : Ends} {f : Flow} {xe : Value → Shared → Prop} (ok : X.Ok) (h : SP (bodyCx X (X.pn ++ pins) xe) [] D f s) : SP X pins D f s := by
  cases f with
  | next => obtain ⟨σ', H', I, q⟩ := h; exact ⟨σ', H', Inv.unbody ok I, q⟩
  | brk => obtain ⟨σ', H', I, q⟩ := h; exact ⟨σ', H', Inv.unbody ok I, q⟩
  | cont => obtain ⟨σ', H', I, q⟩ := h; exact ⟨σ', H', Inv.unbody ok I, q⟩
  | ret u => obtain ⟨v, σ', H', I, r, q⟩ := h; exact ⟨v, σ', H', Inv.unbody ok I, r, q⟩
/-- a slot is emptied -/
theorem StO.unset {K : PySem.W.Frag} {own : Nat → Option Addr} {G₀ H₀ H : Hp} {σ : St} {ρ : Env} {i : Nat} (S : StO K own G₀ H₀ H σ ρ) : StO K (dropO i own) G₀ H₀ H (σ.set i none) (ρ.set i none) := by
  have m : Same (view own G₀ H₀ H) (view (dropO i own) G₀ H₀ H) := dropO_mono i
  have no : ∀ {j : Nat} {d : D}, (ρ.set i none)[j]? = some (some d) → j ≠ i ∧ ρ[j]? = some (some d) := fun {j d} e => by
    by_cases hj : j = i
    · subst hj
      have hlt : j < ρ.length := by
        have := (List.getElem?_eq_some_iff.mp e).1
        simpa using this
      rw [List.getElem?_set_self hlt] at e
      cases e
    · rw [List.getElem?_set_ne (Ne.symm hj)] at e
      exact ⟨hj, e⟩
  refine ⟨S.g0, S.same, by simpa using S.len, fun j l e => ?_, fun j k l e1 e2 => S.inj j k l (dropO_of e1).2 (dropO_of e2).2, fun j ds e => ?_, fun j x e => ?_⟩
  · obtain ⟨hj, e⟩ := dropO_of e
    obtain ⟨h0, ds, xs, a, b, c, dd⟩ := S.at' j l e
    exact ⟨h0, ds, xs, by rw [List.getElem?_set_ne (Ne.symm hj)]; exact a, by rw [List.getElem?_set_ne (Ne.symm hj)]; exact b, c, RepL.mono m _ _ dd⟩
  · obtain ⟨hj, e⟩ := no e
    obtain ⟨l, q⟩ := S.has j ds e
    exact ⟨l, by rw [dropO_ne hj]; exact q⟩
  · obtain ⟨hj, _⟩ := no (getE_some e)
    rw [getE_ne (Ne.symm hj)] at e
    obtain ⟨w, e1, r1⟩ := S.rep j x e
    exact ⟨w, by rw [List.getElem?_set_ne (Ne.symm hj)]; exact e1, Rep.mono m _ _ r1⟩
def tryO (i : Nat) (mt : Addr → Bool) (o : Option Out) (fs : Env → Option Out) : Option Out := match o with
  | some (.ex C ρ) => if mt C = true then (match fs (ρ.set i (some (.exc C))) with
    | some (.nx ρ2) => some (.nx (ρ2.set i none))
    | _ => none) else none
  | o => o
/-- the clause takes it -/
theorem caught_as {i : Nat} {n x : Str} {np hpos : Pos} {b₀ : Stmt} {suite : List Stmt} {CP C ea : Addr} {fs : Env → Option Out} {D : Ends} {G₀ H₀ H1 H0 : Hp} {σ1 : St} {ρ1 ρ2 : Env} {s0 s3 : Shared} {pins : List (Addr × Obj)} (hN : X.N.Nodup)
    (hsu : ∀ A xe, PSsd (suiteCx X A xe) (b₀ :: suite) fs) (hm : X.mg x = some (.ref CP)) (hi : X.N[i]? = some n) (hk : X.env.kindOf n = some .local) (hg : Gl X x) (hdb : (x == ("__debug__" : Str)) = false)
    (hx : PySem.W.exmOne X.K (.ref C) (.ref CP) = some true) (S : StOk X.K G₀ H₀ H1 σ1 ρ1) (es : fs (ρ1.set i (some (.exc C))) = some (.nx ρ2)) (k : ∀ σ H, StOk X.K G₀ H₀ H σ (ρ2.set i none) → D.nx σ H)
    (I0 : Inv X pins σ1 H0 s0) (F : XL.Fly X.prog X.w X.stack H0 s0 H1 ea C s3) :
    wpAny (model X.prog X.w) X.A (handleBy (.ref ea) X.env [.ExceptHandler (some (.Name x np)) (some n) (b₀ :: suite) hpos]) (SP X pins D) X.xe s3 := by
  have I3 := F.inv I0
  have LT : PySem.W.Looks (model X.prog X.w) s3.heap (typeOf (.ref ea)) (.ref C) := by
    obtain ⟨B, a0, kb, th, hb, fl⟩ := F.ex
    obtain ⟨oe, he, hc⟩ := fl.there
    exact hc ▸ (PySem.W.Looks.ld he).andThen .now
  refine wpAny_handleBy_cons (codeAny_handlers_test (ld_glob (X := suiteCx X (X.A.mark (some (.ref ea))) X.xe) (Inv.suite I3) hg hm ?_ hdb)) (by intro q; cases q)
  refine (PySem.W.exm_one I3.kIn LT hx).here (codeAny_handlers_suite_as ?_)
  refine XL.fly_again F fun s4 F4 => ?_
  obtain ⟨hn0, I4⟩ := F4.track I0
  refine store_ok (X := X) I4 hN hi (Or.inl hk) (v := .ref ea) rfl (fun s5 I5 => ?_) (.inr hk)
  obtain ⟨own, S⟩ := S
  have sm : Same H1 (upd H1 ea (XL.excO ea C)) := upd_same' hn0
  have S5 : StOk X.K G₀ H₀ (upd H1 ea (XL.excO ea C)) (σ1.set i (some (.ref ea))) (ρ1.set i (some (.exc C))) := by
    refine ⟨_, (S.grow sm).set (d := .exc C) ⟨ea, rfl, ?_⟩⟩
    unfold view
    rw [cutO_not (S.notown hn0), ext_none (S.same.free hn0), upd_same]
  refine wpAny_mono (hsu (X.A.mark (some (.ref ea))) (fun _ _ => False) pins s5 _ _ { nx := fun σ' H' => StOk X.K G₀ H₀ H' σ' ρ2, rt := fun _ _ => False } (Inv.suite I5) ⟨G₀, H₀, _, .nx ρ2, S5, es, fun σ' H' S' => S'⟩) (fun f s6 h6 => ?_) fun _ _ z => z.elim
  cases f with
  | next =>
    obtain ⟨σ6, H6, I6, own6, S6⟩ := h6
    exact name_gone (X := X) (Inv.unsuite I0.ok I6) hN hi hk fun s7 I7 => ⟨_, H6, I7, k _ _ ⟨_, S6.unset⟩⟩
  | brk => obtain ⟨_, _, _, z⟩ := h6; exact False.elim z
  | cont => obtain ⟨_, _, _, z⟩ := h6; exact False.elim z
  | ret u => obtain ⟨_, _, _, _, _, z⟩ := h6; exact False.elim z
theorem psd_try (i : Nat) (mt : Addr → Bool) {n x : Str} {np hpos pos : Pos} {body : List Stmt} {b₀ : Stmt} {suite : List Stmt} {CP : Addr} {fb fs : Env → Option Out} (hN : X.N.Nodup) (hmt : ∀ C, mt C = true → PySem.W.exmOne X.K (.ref C) (.ref CP) = some true)
    (hm : X.mg x = some (.ref CP)) (hb : ∀ pn xe, PSsd (bodyCx X pn xe) body fb) (hsu : ∀ A xe, PSsd (suiteCx X A xe) (b₀ :: suite) fs)
    (hi : X.N[i]? = some n := by rfl) (hk : X.env.kindOf n = some .local := by rfl) (hg : Gl X x := by rfl) (hdb : (x == ("__debug__" : Str)) = false := by decide) (hst : X.stack = X.env :: X.outer := by rfl) (hfr : X.env.frame = some X.env.locals := by rfl) :
    PSd X (.Try body [.ExceptHandler (some (.Name x np)) (some n) (b₀ :: suite) hpos] [] [] pos) (fun ρ => tryO i mt (fb ρ) fs) := by
  intro pins s σ H D I ⟨G₀, H₀, ρ, o, S, ee, k⟩
  refine wpAny_Try_except ?_
  dsimp only at ee
  cases eb : fb ρ with
  | none => rw [eb] at ee; cases ee
  | some o1 =>
    rw [eb] at ee
    refine wpAny_mono (hb (X.pn ++ pins) (tryXe X pins D [.ExceptHandler (some (.Name x np)) (some n) (b₀ :: suite) hpos]) [] s σ H D (Inv.body I) ⟨G₀, H₀, ρ, o1, S, eb, ?_⟩) (fun f s1 h1 => ?_) fun _ _ z => z
    · cases o1 with
      | nx ρ1 => cases ee; exact k
      | rt d => cases ee; exact k
      | bk ρ1 => cases ee; exact k
      | ct ρ1 => cases ee; exact k
      | ex C ρ1 =>
        unfold tryO at ee
        dsimp only at ee
        split at ee
        · rename_i hc
          split at ee
          · rename_i ρ2 es
            cases ee
            intro σ1 H1 S1 ea s' F
            rcases F with ⟨pins', s0, h0, vs, I1, m, rfl⟩ | ⟨pins', s0, H0, I1, F⟩
            · have I2 : Inv X pins σ1 H1 s0 := Inv.unbody I.ok I1
              exact XL.made_looks (X := X) hst hfr I2 m fun s3 F3 => caught_as hN hsu hm hi hk hg hdb (hmt C hc) S1 es k I2 F3
            · have I2 : Inv X pins σ1 H0 s0 := Inv.unbody I.ok I1
              exact XL.on_looks (X := X) hst hfr I2 F fun s3 F3 => caught_as hN hsu hm hi hk hg hdb (hmt C hc) S1 es k I2 F3
          · cases ee
        · cases ee
    · cases f with
      | next => exact wpAny_execs_nil (sp_unbody I.ok h1)
      | brk => exact sp_unbody I.ok h1
      | cont => exact sp_unbody I.ok h1
      | ret u => exact sp_unbody I.ok h1
end
end DL
set_option Elab.async false
set_option linter.all false
set_option maxRecDepth 100000
namespace DL
open PySem PySem.Spec PyProof.Rows L2 Builtin Builtin.ObjectAttr Builtin.Getset_descriptor
/-- what the text's classes must have -/
structure ExcOk (K : PySem.W.Frag) (C : Addr) : Prop where
  cls : PySem.W.excIn K C mroV "ValueError.__new__" = true
  ga : PySem.W.findIn K (.ref C) "__getattribute__" = some (some (.builtin "BaseException.__getattribute__"))
  mb : PySem.W.mroIn K C (.type "BaseException") = some true
  gh : PySem.W.findIn K (.ref C) "__getattr__" = some none
  ca : PySem.W.findIn K (.ref C) "__class__" = some (some (.builtin "object.__class__"))
  cg : PySem.W.specialIn K (.builtin "object.__class__") "__get__" = some (some (.builtin "getset_descriptor.__get__"))
  tk : PySem.W.takesIn K (.builtin "object.__class__") = some true
  mo : PySem.W.mroIn K C (.type "object") = some true
section
variable {K : PySem.W.Frag} {C x : Addr} {prog : Program} {w : World} {A : Around} {E : Value → Shared → Prop} {s : Shared}
abbrev ExcAt (x C : Addr) (h : Heap) : Prop := ∃ o, h.get? x = some o ∧ o.cls = .ref C
theorem exc_ty {M : Model} {h : Heap} (e : ExcAt x C h) : PySem.W.Looks M h (typeOf (.ref x)) (.ref C) := let ⟨_, a, c⟩ := e; c ▸ (PySem.W.Looks.ld a).andThen .now
theorem exc_find {M : Model} {h : Heap} (kin : K.In h) (O : ExcOk K C) : PySem.W.Looks M h (find (.ref x) (.ref C) "__class__") (.bind (.builtin "getset_descriptor.__get__") (.builtin "object.__class__")) := by
  have a1 := PySem.W.looks_findIn (M := M) kin O.ca
  have a2 : PySem.W.Looks M h (getOf (some (.builtin "object.__class__"))) (some (.builtin "getset_descriptor.__get__")) := PySem.W.looks_specialIn kin O.cg
  have a3 : PySem.W.Looks M h (dataDescriptor? (some (.builtin "object.__class__")) (some (.builtin "getset_descriptor.__get__"))) (some (.builtin "getset_descriptor.__get__", .builtin "object.__class__")) := (PySem.W.looks_takesIn (M := M) kin O.tk).andThen .now
  exact a1.andThen (a2.andThen (a3.andThen (PySem.W.Looks.tag .now)))
theorem exc_get {tp : Value} {R : Result → Shared → Prop} (kin : K.In s.heap) (O : ExcOk K C) (e : ExcAt x C s.heap) (h : R (.ok (.ret (.ref C))) s) :
    codeAny (model prog w) A (.call (.builtin "getset_descriptor.__get__") ⟨[.builtin "object.__class__", .ref x, tp], []⟩) R s := by
  have t0 := exc_ty (M := model prog w) e
  have t1 := PySem.W.looks_mroIn (M := model prog w) kin O.mo
  obtain ⟨hp, gs, dn, tks, oss⟩ := s
  refine codeAny_call_builtin PySem.W.KF.slot_gs.plain PySem.W.KF.entry_gs ?_
  refine PySem.W.KF.slot_gs.check _ _ _ _ _ _ _ _ PySem.W.KF.type_class (PySem.W.KF.args_gs _ _ _) ?_
  unfold Builtin.«getset_descriptor.__get__»
  unfold descrGet
  rw [PySem.W.dga_obj]
  refine wpAny_bind (wpAny_pure ?_)
  unfold descrGetter
  unfold descrCheckInstance
  unfold descrNameAndClass isInstance
  simp only [PySem.W.KF.owner_class]
  repeat lk
  refine ⟨Code.quiet_builtin _ (by decide +kernel), codeAny_builtin PySem.W.KF.entry_class ?_⟩
  unfold Builtin.«object.__class__»
  unfold shownTypeOf
  repeat lk
  exact h
theorem exc_entry {tk : Tok} {Q : Fin → Shared → Prop} (kin : K.In s.heap) (O : ExcOk K C) (e : ExcAt x C s.heap) (q : Q (.done (.ret (.ref C))) s) : wpAny (model prog w) A (Builtin.«object.__getattribute__» ⟨[.ref x, .str "__class__" tk], []⟩) Q E s := by
  have t0 := exc_ty (M := model prog w) e
  have t3 := exc_find (x := x) (M := model prog w) kin O
  have kin' : K.In s.heap := kin
  obtain ⟨hp, gs, dn, tks, oss⟩ := s
  unfold Builtin.«object.__getattribute__»
  repeat (any_goals (first | assumption | with_reducible refine t0.at ?_ | with_reducible refine t3.at ?_ | wp_step))
  exact exc_get kin O e (wpAny_pure q)
theorem exc_check {M : Model} {v : Value} {Q : Unit → Shared → Prop} (kin : K.In s.heap) (O : ExcOk K C) (e : ExcAt x C s.heap) (q : Q () s) : wpAny M A (checkBuiltinCall "BaseException.__getattribute__" ⟨[.ref x, v], []⟩) Q E s := by
  have b1 : builtinKind "BaseException.__getattribute__" = some .slot := by decide +kernel
  have b2 : splitId "BaseException.__getattribute__" = some ("BaseException", "__getattribute__") := by decide +kernel
  have t0 := exc_ty (M := M) e
  have t1 := PySem.W.looks_mroIn (M := M) kin O.mb
  have t2 : PySem.W.Looks M s.heap (isInstance (.ref x) (.type "BaseException")) true := t0.andThen t1
  have ag := PySem.F.args_bexc_ga (.ref x) v
  obtain ⟨hp, gs, dn, tks, oss⟩ := s
  simp only [checkBuiltinCall, b1, b2]
  refine wpAny_bind (t2.at ?_)
  repeat (any_goals (first | assumption | wp_step))
theorem exc_class {Q : Option Value → Shared → Prop} (kin : K.In s.heap) (O : ExcOk K C) (e : ExcAt x C s.heap) (q : Q (some (.ref C)) { s with toks := s.toks + 1 }) : wpAny (model prog w) A (getAttr? (.ref x) "__class__") Q E s := by
  have t0 := exc_ty (M := model prog w) e
  have t1 := PySem.W.looks_findIn (M := model prog w) kin O.ga
  have t2 := PySem.W.looks_findIn (M := model prog w) kin O.gh
  have f3 := PySem.F.attr_ValueError.ga.bind (.ref x)
  obtain ⟨hp, gs, dn, tks, oss⟩ := s
  have u1 : (Value.builtin "BaseException.__getattribute__" == Value.builtin "object.__getattribute__") = false := by decide +kernel
  have u2 : (onTheHeap (Value.ref C) && Value.builtin "BaseException.__getattribute__" == Value.builtin "object.__getattribute__") = false := by rw [u1]; rfl
  have u3 : (false && onTheHeap (Value.builtin "BaseException.__getattribute__")) = false := rfl
  unfold getAttr? getAttrBy?
  unfold getAttrBy
  refine wpAny_bind (wpAny_mkText (wpAny_bind (wpAny_attempt (wpAny_holding (wpAny_bind (t0.at (wpAny_bind (t1.at ?_))))))))
  repeat (any_goals (first | assumption | with_reducible refine t2.at ?_ | wp_step))
  exact codeAny_call_builtin PySem.F.attr_ValueError.ga.plain PySem.F.entry_bexc_ga (exc_check kin O e (exc_entry kin O e (wpAny_pure (wpAny_pure q))))
theorem kitx_exc (O : ExcOk K C) : PySem.W.KitX K (.ref x) (.ref C) (ExcAt x C) where
  ty := fun M h _ e => exc_ty e
  it := fun M h kin _ => by
    obtain ⟨nm, qn, N, bs, bm, hdct, sn, sub, ab, col, d2, k0, k1, k2, k3, k5, mN, oC, _⟩ := exc_obj kin O.cls
    intro A' Q' E' s' keep q
    unfold isType
    unfold loadHead
    exact wpAny_bind (wpAny_loadPart (keep _ _ oC) (wpAny_pure q))
  ne := fun h tp dd its n sl kin htp => by
    refine Bool.eq_false_iff.mpr fun z => ?_
    have z1 : C = tp := Value.ref.inj (beq_iff_eq.mp z)
    subst z1
    obtain ⟨nm, qn, N, bs, bm, hdct, sn, sub, ab, col, d2, k0, k1, k2, k3, k5, mN, oC, _⟩ := exc_obj kin O.cls
    rw [htp] at oC
    have z2 : ("tuple" : String) = "type" := Value.type.inj (congrArg Obj.cls (Option.some.inj oC))
    exact absurd z2 (by decide)
  ca := fun kin e q => exc_class kin O e q
end
/-- isinstance(e, class), e an exception -/
def isxD (ib : Addr → Option Bool) : D → Option D
  | .exc C => (ib C).map .bl
  | _ => none
/-- ib: what isinstance answers of the classes of the text -/
def IbOk (K : PySem.W.Frag) (u : Value) (ib : Addr → Option Bool) : Prop := ∀ C b, ib C = some b → ExcOk K C ∧ PySem.W.kitOne K (.ref C) u = some b
section
variable {X : Cx} {pos : Pos}
theorem call_isx : CallR X (.builtin "isinstance") (fun xs H Q => ∃ C a vT u b, xs = [.ref a, vT] ∧ (∀ u', RelV vT u' → u' = u) ∧ ExcOk X.K C ∧ H a = some (XL.excO a C) ∧ PySem.W.kitOne X.K (.ref C) u = some b ∧ Q (.bl b) H) := by
  intro pins s σ H xs us Q I rv h
  obtain ⟨C, a, vT, u, b, rfl, hu, O, ha, e, q⟩ := h
  obtain ⟨ua, uT, rfl, ra, rT⟩ := vals2 rv
  obtain rfl : ua = Value.ref a := ra
  obtain rfl := hu _ rT
  obtain ⟨ex, _⟩ := I.hok a _ ha
  exact PySem.W.kia_one (kitx_exc O) I.kIn ex e (fun z => nomatch z) fun tk => ⟨.bl _, H, I.tok tk, rfl, q⟩
/-- the second argument an own class -/
theorem pd_isx {p pT : Pos} {e : Expr} {fe : Env → Option D} {T : Str} {CT : Addr} (hm : X.mg "isinstance" = none) (hmT : X.mg T = some (.ref CT)) {ib : Addr → Option Bool} (cs : IbOk X.K (.ref CT) ib) (he : PEd X e fe) (hg : Gl X "isinstance" := by rfl) (hgT : Gl X T := by rfl)
    (hdT : (T == ("__debug__" : Str)) = false := by decide)
    (hs1 : starEach [e, .Name T pT] X.env = (false, eval e X.env) :: starEach [.Name T pT] X.env := by rfl) (hs2 : starEach [.Name T pT] X.env = (false, eval (.Name T pT) X.env) :: starEach [] X.env := by rfl) (hpl : (backTo pos (starEach [.Name T pT] X.env)).any (·.1) = false := by rfl) :
    PEd X (.Call (.Name "isinstance" p) [e, .Name T pT] [] pos) (fun ρ => (fe ρ).bind (isxD ib)) :=
  peI (pe_callB call_isx hg hm boot_isinstance (pa_cons he (pa_cons (pe_glob (v := .ref CT) hgT hmT rfl hdT) pa_nil hs2) hs1) (by decide) (by decide) hs1 hpl) fun σ H Q zz1 => by
    obtain ⟨G, ρ, d, g, R, ee, q⟩ := zz1
    obtain ⟨x, ex, ee⟩ := bind_some ee
    refine one_part g R ex fun vx H1 s1 g1 R1 r1 => ?_
    unfold isxD at ee
    split at ee
    · rename_i C
      obtain ⟨b, eb, ee⟩ := Option.map_eq_some_iff.mp ee
      subst ee
      obtain ⟨a, rfl, ha⟩ := r1
      exact ⟨C, a, _, _, b, rfl, fun u' r' => r', (cs _ _ eb).1, g1 _ _ ha, (cs _ _ eb).2, q _ _ s1 rfl⟩
    · cases ee
/-- a built-in class -/
theorem pd_isxB {p pT : Pos} {e : Expr} {fe : Env → Option D} {T : Str} {T' : String} (hm : X.mg "isinstance" = none) (hmT : X.mg T = none) (hvT : bootBuiltins T = some (.type T')) {ib : Addr → Option Bool} (cs : IbOk X.K (.type T') ib) (he : PEd X e fe) (hg : Gl X "isinstance" := by rfl) (hgT : Gl X T := by rfl)
    (hnT : T ≠ "__name__" := by decide) (hdT : (T == ("__debug__" : Str)) = false := by decide)
    (hs1 : starEach [e, .Name T pT] X.env = (false, eval e X.env) :: starEach [.Name T pT] X.env := by rfl) (hs2 : starEach [.Name T pT] X.env = (false, eval (.Name T pT) X.env) :: starEach [] X.env := by rfl) (hpl : (backTo pos (starEach [.Name T pT] X.env)).any (·.1) = false := by rfl) :
    PEd X (.Call (.Name "isinstance" p) [e, .Name T pT] [] pos) (fun ρ => (fe ρ).bind (isxD ib)) :=
  peI (pe_callB call_isx hg hm boot_isinstance (pa_cons he (pa_cons (pe_bltn (v := .ty T') hgT hmT hvT rfl hnT hdT) pa_nil hs2) hs1) (by decide) (by decide) hs1 hpl) fun σ H Q zz2 => by
    obtain ⟨G, ρ, d, g, R, ee, q⟩ := zz2
    obtain ⟨x, ex, ee⟩ := bind_some ee
    refine one_part g R ex fun vx H1 s1 g1 R1 r1 => ?_
    unfold isxD at ee
    split at ee
    · rename_i C
      obtain ⟨b, eb, ee⟩ := Option.map_eq_some_iff.mp ee
      subst ee
      obtain ⟨a, rfl, ha⟩ := r1
      exact ⟨C, a, _, _, b, rfl, fun u' r' => r', (cs _ _ eb).1, g1 _ _ ha, (cs _ _ eb).2, q _ _ s1 rfl⟩
    · cases ee
end
end DL
set_option Elab.async false
set_option linter.all false
set_option maxRecDepth 100000
namespace DL
open PySem PySem.Spec PyProof.Rows L2
theorem vals_bl : ∀ {bs : List Bool} {us : List Value}, Vals (bs.map V.bl) us → us = bs.map Value.bool
  | [], _, .nil => rfl
  | b :: bs, _, .cons r t => by rw [List.map_cons, ← vals_bl t]; cases r; rfl
/-- is it this truth -/
def sameB (b : Bool) : Value → Bool | .bool a => a == b | _ => false
section
variable {X : Cx}
theorem eqs_bl {A : Around} {s : Shared} {bs : List Bool} {b : Bool} : ∀ y, y ∈ (bs.map Value.bool).toArray → SeqAt.EqAt A s y (.bool b) (sameB b y) := fun y hy => by
  have : y ∈ bs.map Value.bool := by simpa using hy
  obtain ⟨a, _, rfl⟩ := List.mem_map.mp this
  exact SeqAt.EqAt.bool_bool a b
theorem count_bl {b : Bool} : ∀ bs : List Bool, (bs.map Value.bool).countP (sameB b) = bs.count b
  | [] => rfl
  | a :: bs => by
    rw [List.map_cons, List.countP_cons, count_bl bs, List.count_cons]
    rfl
theorem mt_count : MtM X "list.count" (fun x vs H Q => ∃ (l : Addr) (bs : List Bool) (b : Bool), x = .ref l ∧ vs = [.bl b] ∧ H l = some (.lst (bs.map V.bl)) ∧ Q (.int (bs.count b : Nat)) H) := by
  intro pins s σ H x vs v us Q I rx rv h
  obtain ⟨l, bs, b, rfl, rfl, hH, q⟩ := h
  cases rx
  obtain ⟨u, rfl, ru⟩ := rv.one
  cases ru
  obtain ⟨z, its, n, r, hl, e⟩ := I.lstM hH
  obtain rfl := vals_bl r
  refine call_meets F.slot_list_count ⟨_, e, rfl⟩ F.entry_list_count (F.args_list_count_2 _ _) (SeqAt.list_countAt l _ n none #[] (.bool b) (sameB b)) ⟨e, eqs_bl, ?_⟩
  rw [show (bs.map Value.bool).toArray.toList = bs.map Value.bool from rfl, count_bl]
  exact ⟨.int (bs.count b : Nat), H, I.tok _, ⟨_, rfl⟩, q⟩
theorem mt_index : MtM X "list.index" (fun x vs H Q => ∃ (l : Addr) (bs : List Bool) (b : Bool) (j : Nat), x = .ref l ∧ vs = [.bl b] ∧ H l = some (.lst (bs.map V.bl)) ∧ bs.length ≤ 1000 ∧ bs[j]? = some b ∧ (∀ m, m < j → bs[m]? ≠ some b) ∧ Q (.int (j : Nat)) H) := by
  intro pins s σ H x vs v us Q I rx rv h
  obtain ⟨l, bs, b, j, rfl, rfl, hH, hlen, hj, hno, q⟩ := h
  cases rx
  obtain ⟨u, rfl, ru⟩ := rv.one
  cases ru
  obtain ⟨z, its, n, r, hl, e⟩ := I.lstM hH
  obtain rfl := vals_bl r
  obtain ⟨hj1, hj2⟩ := List.getElem?_eq_some_iff.mp hj
  refine call_meets F.slot_list_index ⟨_, e, rfl⟩ F.entry_list_index (F.args_list_index_2 _ _) (SeqAt.list_indexAt l _ n none #[] (.bool b) (sameB b) j (by simpa using hj1) (by omega) ?_ ?_) ⟨e, eqs_bl, ?_⟩
  · simp [sameB, hj2]
  · intro m hm hmj
    have hm' : m < bs.length := by simpa using hm
    have := hno m hmj
    rw [List.getElem?_eq_getElem hm'] at this
    simp only [List.getElem_toArray, List.getElem_map, sameB]
    rw [beq_eq_false_iff_ne]
    intro z
    exact this (by rw [z])
  · exact ⟨.int (j : Nat), H, I.tok _, ⟨_, rfl⟩, q⟩
def blsD : List D → Option (List Bool)
  | [] => some []
  | .bl b :: ds => (blsD ds).map (b :: ·)
  | _ :: _ => none
theorem bls_rep {K : PySem.W.Frag} {G : Hp} : ∀ {ds : List D} {bs : List Bool} {xs : List V}, blsD ds = some bs → RepL K G ds xs → xs = bs.map V.bl
  | [], bs, xs, e, r => by cases e; exact r
  | d :: ds, bs, xs, e, ⟨v, r, e1, h, t⟩ => by
    unfold blsD at e
    split at e
    · rename_i z; cases z
    · rename_i b ds' z
      cases z
      obtain ⟨bs', eb, rfl⟩ := Option.map_eq_some_iff.mp e
      cases h
      rw [e1, bls_rep eb t]
      rfl
    · cases e
def countD : D → List D → Option D
  | .lst ds, [.bl b] => (blsD ds).map fun bs => .int (bs.count b : Nat)
  | _, _ => none
def firstD (b : Bool) : List Bool → Option Nat
  | [] => none
  | a :: bs => if a = b then some 0 else (firstD b bs).map (· + 1)
theorem firstD_some {b : Bool} : ∀ {bs : List Bool} {j : Nat}, firstD b bs = some j → bs[j]? = some b ∧ ∀ m, m < j → bs[m]? ≠ some b
  | [], j, e => by cases e
  | a :: bs, j, e => by
    unfold firstD at e
    split at e
    · rename_i h; cases e; exact ⟨by simp [h], fun m hm => by omega⟩
    · rename_i h
      obtain ⟨k, ek, rfl⟩ := Option.map_eq_some_iff.mp e
      obtain ⟨h1, h2⟩ := firstD_some ek
      refine ⟨by simpa using h1, fun m hm => ?_⟩
      cases m with
      | zero => simpa using h
      | succ m => simpa using h2 m (by omega)
def indexD : D → List D → Option D
  | .lst ds, [.bl b] => if ds.length ≤ 1000 then (blsD ds).bind fun bs => (firstD b bs).map fun j => .int (j : Nat) else none
  | _, _ => none
variable {o e : Expr} {fo : Env → Option D} {fs : Env → Option (List D)} {apos cpos : Pos}
theorem pd_count (ho : PEd X o fo) (ha : PAd X [e] fs)
    (hbase : attributeBase o "count" X.env (eval o X.env) = eval o X.env := by rfl)
    (hfew : ((backTo cpos (starEach [e] X.env)).all (fun x => !x.1) && (backToKw cpos (keywordEach [] X.env)).all (fun x => x.1.isSome)
      && decide ([e].length + ([] : List Keyword).length + (if ([] : List Keyword).isEmpty then 0 else 1) < 30)) = true := by rfl)
    (hline : (apos.endLine == cpos.line) = true := by rfl) (hs : starEach [e] X.env = (false, eval e X.env) :: starEach [] X.env := by rfl) (hplain : (backTo cpos (starEach [] X.env)).any (·.1) = false := by rfl) :
    PEd X (.Call (.Attribute o "count" apos) [e] [] cpos) (fun ρ => (fo ρ).bind fun x => (fs ρ).bind (countD x)) :=
  peI (pe_bm PySem.F.plainAttrs_list PySem.F.slot_list_count PySem.F.type_list_count mt_count ho ha hbase hfew hline hs hplain) fun σ H Q zz1 => by
    obtain ⟨G, ρ, d, g, R, ee, q⟩ := zz1
    obtain ⟨x, ex, ee⟩ := bind_some ee
    obtain ⟨as, ea, ee⟩ := bind_some ee
    unfold countD at ee
    split at ee
    · rename_i ds b _
      obtain ⟨bs, eb, rfl⟩ := Option.map_eq_some_iff.mp ee
      refine one_part g R ex fun vx H1 s1 g1 R1 r1 => ?_
      obtain ⟨l, xs, rfl, hl, rl⟩ := r1
      obtain rfl := bls_rep eb rl
      refine ⟨.inl ⟨rfl, _, SqL.of (g1 _ _ hl)⟩, _, ρ, _, g1, R1, ea, fun vs H2 s2 r2 => ?_⟩
      obtain ⟨v, r', e1, e2, e3⟩ := r2
      cases e2
      cases e3
      exact ⟨l, bs, b, rfl, e1, s2 _ _ (g1 _ _ hl), q _ _ (s1.trans s2) rfl⟩
    · cases ee
theorem pd_index (ho : PEd X o fo) (ha : PAd X [e] fs)
    (hbase : attributeBase o "index" X.env (eval o X.env) = eval o X.env := by rfl)
    (hfew : ((backTo cpos (starEach [e] X.env)).all (fun x => !x.1) && (backToKw cpos (keywordEach [] X.env)).all (fun x => x.1.isSome)
      && decide ([e].length + ([] : List Keyword).length + (if ([] : List Keyword).isEmpty then 0 else 1) < 30)) = true := by rfl)
    (hline : (apos.endLine == cpos.line) = true := by rfl) (hs : starEach [e] X.env = (false, eval e X.env) :: starEach [] X.env := by rfl) (hplain : (backTo cpos (starEach [] X.env)).any (·.1) = false := by rfl) :
    PEd X (.Call (.Attribute o "index" apos) [e] [] cpos) (fun ρ => (fo ρ).bind fun x => (fs ρ).bind (indexD x)) :=
  peI (pe_bm PySem.F.plainAttrs_list PySem.F.slot_list_index PySem.F.type_list_index mt_index ho ha hbase hfew hline hs hplain) fun σ H Q zz2 => by
    obtain ⟨G, ρ, d, g, R, ee, q⟩ := zz2
    obtain ⟨x, ex, ee⟩ := bind_some ee
    obtain ⟨as, ea, ee⟩ := bind_some ee
    unfold indexD at ee
    split at ee
    · rename_i ds b _
      split at ee
      · rename_i hlen
        obtain ⟨bs, eb, ee⟩ := bind_some ee
        obtain ⟨j, ej, rfl⟩ := Option.map_eq_some_iff.mp ee
        obtain ⟨f1, f2⟩ := firstD_some ej
        refine one_part g R ex fun vx H1 s1 g1 R1 r1 => ?_
        obtain ⟨l, xs, rfl, hl, rl⟩ := r1
        have hxl := rl.length
        obtain rfl := bls_rep eb rl
        refine ⟨.inl ⟨rfl, _, SqL.of (g1 _ _ hl)⟩, _, ρ, _, g1, R1, ea, fun vs H2 s2 r2 => ?_⟩
        obtain ⟨v, r', e1, e2, e3⟩ := r2
        cases e2
        cases e3
        exact ⟨l, bs, b, j, rfl, e1, s2 _ _ (g1 _ _ hl), by rw [List.length_map] at hxl; omega, f1, f2, q _ _ (s1.trans s2) rfl⟩
      · cases ee
    · cases ee
end
end DL
set_option Elab.async false
set_option linter.all false
set_option maxRecDepth 100000
namespace DL
open PySem PySem.Spec PyProof.Rows L2
def SpIX (K : PySem.W.Frag) (C : Addr) (ns : List Str) (g : List D → Option (Ex (List D))) : Sp := fun vs H Q E => ∃ x dx vs' G ds r, vs = .ref x :: vs' ∧ H x = some (.ins C dx []) ∧ Same G (butL x H) ∧ RepL K G ds vs' ∧ g ds = some r ∧ match r with
  | .ok es => ∀ H' xs, Same (butL x H) H' → H' x = some (.ins C dx (ns.zip xs)) → ns.length = xs.length → RepL K (butL x (ext (noM G) H H')) es xs → Q .non H'
  | .error Ce => ∀ H', Same (butL x H) H' → E (.ref Ce) none H'
structure IniX (P : Program) (w : World) (K : PySem.W.Frag) (mg : Str → Option Value) (base : Heap) (k : Nat) (x : Str) (C : Addr) (ns : List Str) (ps : List Str) (g : List D → Option (Ex (List D))) : Prop where
  ex : ∃ f fd, Mk K C f ∧ FnOk P w K mg base (XL.CX1 P w) k f fd ps (SpIX K C ns g) ∧ mg x = some (.ref C) ∧ Binds K fd ps []
section
variable {X : Cx} {pos p : Pos} {e : Expr} {es : List Expr} {fs : Env → Option (Ex (List D))} {x : Str} {ps : List Str} {k : Nat} {C f : Addr} {fd : FuncData} {sp : Sp}
end
end DL
set_option Elab.async false
set_option linter.all false
set_option maxRecDepth 100000
namespace DL
open PySem PySem.Spec PyProof.Rows L2
section
variable {X : Cx} {e ix : Expr} {fe fi : Env → Option D} {pos : Pos}
variable {ea eb : Expr} {fs : Env → Option (List D)}
end
theorem runFor_ex {ft : D → Env → Option Env} {fb : Env → Option Out} {C : Addr} (I : Nat → Env → Prop) (ok : Nat → Prop) (ds : List D)
    (step : ∀ i d ρ, ds[i]? = some d → I i ρ → (ok i ∧ ∃ ρ', (ft d ρ).bind fb = some (.nx ρ') ∧ I (i + 1) ρ') ∨ (¬ ok i ∧ ∃ ρ', (ft d ρ).bind fb = some (.ex C ρ'))) :
    ∀ (n i : Nat) (ρ : Env), ds.length - i = n → i ≤ ds.length → I i ρ →
      ((∀ j, i ≤ j → j < ds.length → ok j) ∧ ∃ ρ', runFor ft fb (ds.drop i) ρ = some (.nx ρ') ∧ I ds.length ρ') ∨ ((∃ j, i ≤ j ∧ j < ds.length ∧ ¬ ok j) ∧ ∃ ρ', runFor ft fb (ds.drop i) ρ = some (.ex C ρ'))
  | 0, i, ρ, h, hi, p => by
    have e : i = ds.length := by omega
    subst e
    rw [List.drop_length]
    exact .inl ⟨fun j h1 h2 => by omega, ρ, rfl, p⟩
  | n + 1, i, ρ, h, hi, p => by
    have hlt : i < ds.length := by omega
    rw [List.drop_eq_getElem_cons hlt]
    rcases step i ds[i] ρ (by simp [hlt]) p with ⟨hok, ρ', e, p'⟩ | ⟨hno, ρ', e⟩
    · obtain ⟨ρ1, e1, e2⟩ := bind_some e
      have un : runFor ft fb (ds[i] :: ds.drop (i + 1)) ρ = runFor ft fb (ds.drop (i + 1)) ρ' := by
        rw [show runFor ft fb (ds[i] :: ds.drop (i + 1)) ρ = match ft ds[i] ρ with
          | none => none
          | some ρ1 => match fb ρ1 with
            | some (.nx ρ') => runFor ft fb (ds.drop (i + 1)) ρ'
            | some (.ct ρ') => runFor ft fb (ds.drop (i + 1)) ρ'
            | some (.bk ρ') => some (.nx ρ')
            | some (.rt d) => some (.rt d)
            | some (.ex C ρ') => some (.ex C ρ')
            | none => none from rfl, e1]
        dsimp only
        rw [e2]
      rw [un]
      rcases runFor_ex I ok ds step n (i + 1) ρ' (by omega) hlt p' with ⟨h1, h2⟩ | ⟨⟨j, h1, h2, h3⟩, h4⟩
      · refine .inl ⟨fun j hj hl => ?_, h2⟩
        by_cases hij : j = i
        · subst hij; exact hok
        · exact h1 j (by omega) hl
      · exact .inr ⟨⟨j, by omega, h2, h3⟩, h4⟩
    · obtain ⟨ρ1, e1, e2⟩ := bind_some e
      refine .inr ⟨⟨i, Nat.le_refl _, hlt, hno⟩, ρ', ?_⟩
      unfold runFor
      rw [e1]
      dsimp only
      rw [e2]
end DL
set_option Elab.async false
set_option linter.all false
set_option maxRecDepth 100000
namespace DL
open PySem PySem.Spec PyProof.Rows L2
structure CompOk2 (X : Cx) (scope : Scope) (cl : List (Str × Addr)) (x y' : Str) (caps : List Nat) (ys : List Str) : Prop where
  clos : closureFor scope X.env = pure cl
  cell : ∀ y ∈ scope.names, y.2 ≠ .cell
  kind : scope.kind = .function
  names : ∀ y ∈ scope.names, y.2 = .local → scope.names.lookup y.1 = some .local
  tgt : scope.names.lookup x = some .local
  tgt2 : scope.names.lookup y' = some .local
  sub : ∀ p ∈ cl, X.env.cells.lookup p.1 = some p.2
  has : ∀ y ∈ (relabel scope X.env).names, (y.2 = .cell ∨ y.2 = .free) → (cl.lookup y.1).isSome = true
  caps : CapsOk X scope caps ys
  nd : (x :: y' :: ys).Nodup
section
variable {X : Cx} {pins : List (Addr × Obj)} {σ : St} {ρ : Env}
end
section
variable {X : Cx} {pos : Pos} {es : List Expr} {fs : Env → Option (List D)}
end
section
variable {X : Cx} {tg : Expr} {pos p : Pos} {ea : Expr} {fs : Env → Option (List D)}
end
section
variable {X : Cx}
variable {a b c d : Expr} {fa fb fc fd : Env → Option D} {pos : Pos}
theorem pt_chain3 {op op' op2 : CmpOp} {r r' r2 : R2} {ta tb tc td : TE} (ho : OpR X (compareOp op) r) (ho' : OpR X (compareOp op') r') (ho2 : OpR X (compareOp op2) r2) (ha : PE X a ta) (hb : PE X b tb) (hc : PE X c tc) (hd : PE X d td)
    (hm : lastMarks [op, op', op2] [b, c, d] = false := by with_unfolding_all rfl) : PT X (.Compare a [op, op', op2] [b, c, d] pos) (fun σ H Q => ta σ H fun x H1 => tb σ H1 fun y H2 => r x y H2 fun v H3 => ∃ k, v = .bl k ∧
      if k = true then tc σ H3 fun z H4 => r' y z H4 fun v' H5 => ∃ k', v' = .bl k' ∧ if k' = true then td σ H5 fun w H6 => r2 z w H6 fun v2 H7 => ∃ k2, v2 = .bl k2 ∧ Q k2 H7 else Q false H5 else Q false H3) := by
  intro pins s σ H Q I h
  refine isTrue_chain (thn (ha pins s σ H _ I h) fun v s1 ⟨x, H1, I1, r1, q1⟩ => test_link (thn (hb pins s1 σ H1 _ I1 q1) fun u s2 ⟨y, H2, I2, r2', q2⟩ =>
    thn (ho pins s2 σ H2 x y v u _ I2 r1 r2' q2) fun dd s3 ⟨z, H3, I3, r3, k, e, q3⟩ => ?_)) hm
  subst e
  cases r3
  refine wpAny_truthy_bool ?_
  cases k with
  | false =>
    rw [if_neg Bool.false_ne_true] at q3 ⊢
    exact ⟨H3, I3, q3⟩
  | true =>
    rw [if_pos rfl] at q3 ⊢
    refine test_link (thn (hc pins s3 σ H3 _ I3 q3) fun w' s4 ⟨z', H4, I4, r4, q4⟩ => thn (ho' pins s4 σ H4 y z' u w' _ I4 r2' r4 q4) fun d' s5 zr9 => ?_)
    obtain ⟨z2, H5, I5, r5, k2, e2, q5⟩ := zr9
    subst e2
    cases r5
    refine wpAny_truthy_bool ?_
    cases k2 with
    | false =>
      rw [if_neg Bool.false_ne_true] at q5 ⊢
      exact ⟨H5, I5, q5⟩
    | true =>
      rw [if_pos rfl] at q5 ⊢
      refine test_last (thn (hd pins s5 σ H5 _ I5 q5) fun w2 s6 ⟨z3, H6, I6, r6, q6⟩ => thn (ho2 pins s6 σ H6 z' z3 w' w2 _ I6 r4 r6 q6) fun d2 s7 zr10 => ?_)
      obtain ⟨z4, H7, I7, r7, k3, e3, q7⟩ := zr10
      subst e3
      cases r7
      exact wpAny_truthy_bool ⟨H7, I7, q7⟩
theorem pt_d_chain3 {op op' op2 : CmpOp} {o2 o2' o3 : D → D → Option D} (k : CmpR X op o2) (k' : CmpR X op' o2') (k2 : CmpR X op2 o3) (ha : PEd X a fa) (hb : PEd X b fb) (hc : PEd X c fc) (hd : PEd X d fd) (hm : lastMarks [op, op', op2] [b, c, d] = false := by with_unfolding_all rfl) :
    PTd X (.Compare a [op, op', op2] [b, c, d] pos) (fun ρ => (fa ρ).bind fun x => (fb ρ).bind fun y => ((o2 x y).bind toB).bind fun t => if t = true then (fc ρ).bind fun z => ((o2' y z).bind toB).bind fun t' => if t' = true then ((fd ρ).bind fun w => o3 z w).bind toB else some false else some false) :=
  ptI (pt_chain3 k.ok k'.ok k2.ok ha hb hc hd hm) fun σ H Q zz1 => by
    obtain ⟨G, ρ, bo, g, R, e, q⟩ := zz1
    obtain ⟨x, ex, e⟩ := bind_some e
    obtain ⟨y, ey, e⟩ := bind_some e
    obtain ⟨t, et, e⟩ := bind_some e
    obtain ⟨dx, ed, et⟩ := bind_some et
    refine one_part g R ex fun vx H1 s1 g1 R1 r1 => one_part g1 R1 ey fun vy H2 s2 g2 R2 r2 => ?_
    have r1' := Rep.mono (ext_same g1) _ _ r1 (H' := ext (ext G H H1) H1 H2)
    refine k.rep _ _ x y dx vx vy _ g2 r1' r2 ed fun v H3 s3 r3 => ⟨t, toB_rep et r3, ?_⟩
    cases t with
    | false =>
      rw [if_neg Bool.false_ne_true] at e ⊢
      cases e
      exact q H3 ((s1.trans s2).trans s3)
    | true =>
      rw [if_pos rfl] at e ⊢
      obtain ⟨z, ez, e⟩ := bind_some e
      obtain ⟨t', et', e⟩ := bind_some e
      obtain ⟨d', ed', et'⟩ := bind_some et'
      have g3 : Same (ext (ext (ext G H H1) H1 H2) H2 H3) H3 := ext_sub g2 s3
      have m3 := ext_same (H' := H3) g2
      refine one_part g3 (R2.mono m3) ez fun vz H4 s4 g4 R4 r4 => ?_
      refine k'.rep _ _ y z d' vy vz _ g4 (Rep.mono (ext_same g3) _ _ (Rep.mono m3 _ _ r2)) r4 ed' fun v H5 s5 r5 => ⟨t', toB_rep et' r5, ?_⟩
      cases t' with
      | false =>
        rw [if_neg Bool.false_ne_true] at e ⊢
        cases e
        exact q H5 ((((s1.trans s2).trans s3).trans s4).trans s5)
      | true =>
        rw [if_pos rfl] at e ⊢
        obtain ⟨d2, e2, eb⟩ := bind_some e
        obtain ⟨w, ew, e2⟩ := bind_some e2
        have g5 := ext_sub g4 s5
        have m5 := ext_same (H' := H5) g4
        refine one_part g5 (R4.mono m5) ew fun vw H6 s6 g6 R6 r6 => ?_
        exact k2.rep _ _ z w d2 vz vw _ g6 (Rep.mono (ext_same g5) _ _ (Rep.mono m5 _ _ r4)) r6 e2 fun v H7 s7 r7 => ⟨bo, toB_rep eb r7, q H7 ((((((s1.trans s2).trans s3).trans s4).trans s5).trans s6).trans s7)⟩
end
end DL
set_option Elab.async false
set_option linter.all false
set_option maxRecDepth 100000
namespace DL
open PySem PySem.Spec PyProof.Rows L2
section
variable {X : Cx} {pos p : Pos} {e : Expr} {es : List Expr} {fs : Env → Option (Ex (List D))} {x : Str} {ps : List Str} {g : List D → Option D} {k : Nat}
/-- a callee that does not raise; its arguments may -/
theorem px_callF (F : Fn X.prog X.w X.K X.mg X.base k x ps g) (hr : Room k X.A) (ha : PXAd X (e :: es) fs) (hg : Gl X x := by rfl) (hdb : (x == ("__debug__" : Str)) = false := by decide) (he : starEach (e :: es) X.env = (false, eval e X.env) :: starEach es X.env := by rfl) (hpl : (backTo pos (starEach es X.env)).any (·.1) = false := by rfl) :
    PXd X (.Call (.Name x p) (e :: es) [] pos) (fun ρ => exB (fs ρ) fun ds => (g ds).map .ok) := by
  obtain ⟨f, fd, G, hm, hk, hb⟩ := F.ex
  refine peI (pe_call G hr hg hm hk hb .nil (pass0 (X := X)) ha hdb he hpl) fun σ H Q ⟨V, ρ, r, g0, R, ee, q⟩ => ?_
  dsimp only at ee
  cases e1 : fs ρ with
  | none => rw [e1] at ee; cases ee
  | some r1 =>
    rw [e1] at ee
    cases r1 with
    | error C => cases ee; exact ⟨V, ρ, _, g0, R, e1, q⟩
    | ok ds =>
      have ee' : (g ds).map Except.ok = some r := ee
      cases e2 : g ds with
      | none => rw [e2] at ee'; cases ee'
      | some d =>
        rw [e2] at ee'
        cases ee'
        exact ⟨V, ρ, _, g0, R, e1, fun vs H1 s1 h1 => ⟨_, ds, d, ext_sub g0 s1, by rw [List.append_nil]; exact h1, e2, wish1 s1 q⟩⟩
end
end DL
set_option Elab.async false
set_option linter.all false
set_option maxRecDepth 100000
namespace Yp
open PySem L2 DL Mth
instance (n : Nat) (i : Int) : Decidable (lb n i) := inferInstanceAs (Decidable (_ < _))
def gcdG : List D → Option D
  | [.int a, .int b] => if 0 ≤ a ∧ 0 ≤ b then some (.int (Int.gcd a b)) else none
  | _ => none
theorem gcdG_eq {a b : Int} (h : 0 ≤ a) (k : 0 ≤ b) : gcdG [.int a, .int b] = some (.int (Int.gcd a b)) := if_pos ⟨h, k⟩
theorem gcdG_some {ds : List D} {d : D} (h : gcdG ds = some d) : ∃ a b, ds = [.int a, .int b] ∧ 0 ≤ a ∧ 0 ≤ b ∧ d = .int (Int.gcd a b) := by
  unfold gcdG at h
  split at h
  · split at h
    · rename_i q; cases h; exact ⟨_, _, rfl, q.1, q.2, rfl⟩
    · cases h
  · cases h
def partG : List D → Option D
  | [.int t, .int u] => if u ≠ 0 ∧ lb 9000 u then some (P (Rat.divInt t u)) else none
  | _ => none
theorem partG_eq {t u : Int} (h : u ≠ 0) (k : lb 9000 u) : partG [.int t, .int u] = some (P (Rat.divInt t u)) := if_pos ⟨h, k⟩
theorem partG_some {ds : List D} {d : D} (h : partG ds = some d) : ∃ t u, ds = [.int t, .int u] ∧ u ≠ 0 ∧ lb 9000 u ∧ d = P (Rat.divInt t u) := by
  unfold partG at h
  split at h
  · split at h
    · rename_i q; cases h; exact ⟨_, _, rfl, q.1, q.2, rfl⟩
    · cases h
  · cases h
theorem lb_gcd {t u : Int} {n : Nat} (hu : u ≠ 0) (h : lb n u) : lb n (Int.gcd t u : Int) := lb_le h (by
  rw [Int.natAbs_natCast]
  exact Nat.le_of_dvd (by omega) (Int.gcd_dvd_natAbs_right ..))
theorem map_get {α : Type} {f : α → D} {xs : List α} {i : Nat} {d : D} (h : (xs.map f)[i]? = some d) : ∃ x, xs[i]? = some x ∧ d = f x := by
  rw [List.getElem?_map] at h
  cases q : xs[i]? with
  | none => rw [q] at h; cases h
  | some x => rw [q] at h; cases h; exact ⟨x, rfl, rfl⟩
theorem foldl_take {α β : Type} {f : β → α → β} {b : β} {xs : List α} {i : Nat} {x : α} (h : xs[i]? = some x) : (xs.take (i + 1)).foldl f b = f ((xs.take i).foldl f b) x := by
  rw [List.take_succ, h, List.foldl_append]
  rfl
/-- two parts in, one out -/
def op2R (f : Rat → Rat → Rat) (C : Rat → Rat → Prop) : List D → D → Prop := fun ds d => ∃ p q, C p q ∧ ds = [P p, P q] ∧ d = P (f p q)
theorem op2_eq {f : Rat → Rat → Rat} {C : Rat → Rat → Prop} {p q : Rat} (h : C p q) : fnR (op2R f C) [P p, P q] = some (P (f p q)) :=
  fnR_eq ⟨p, q, h, rfl, rfl⟩ fun d' zz1 => by
    obtain ⟨p', q', _, e, e'⟩ := zz1
    simp only [List.cons.injEq, and_true] at e
    rw [e', P_inj e.1, P_inj e.2]
def Small2 (p q : Rat) : Prop := Bd 4000 p ∧ Bd 4000 q
noncomputable def plusG := fnR (op2R (fun p q => p + q) Small2)
noncomputable def lessG := fnR (op2R (fun p q => p - q) Small2)
noncomputable def timesG := fnR (op2R (fun p q => p * q) Small2)
abbrev Pr := Int × Int
def pr (p : Pr) : D := .tup [.int p.1, .int p.2]
@[simp] theorem getE_pr {q : Pr} {r : DL.Env} : getE (some (pr q) :: r) 0 = some (pr q) := rfl
@[simp] theorem ixD_pr0 {q : Pr} : ixD (pr q) (.int 0) = some (.int q.1) := by unfold pr; rw [ixD_tup, atI_00]
@[simp] theorem ixD_pr1 {q : Pr} : ixD (pr q) (.int 1) = some (.int q.2) := by unfold pr; rw [ixD_tup, atI_01]
theorem pr_inj {p q : Pr} (h : pr p = pr q) : p = q := by
  unfold pr at h
  injection h with h
  injection h with h1 h2
  injection h2 with h2 _
  injection h1 with h1
  injection h2 with h2
  exact Prod.ext h1 h2
theorem prs_inj : ∀ {ps qs : List Pr}, ps.map pr = qs.map pr → ps = qs
  | [], [], _ => rfl
  | [], _ :: _, h => by simp at h
  | _ :: _, [], h => by simp at h
  | p :: ps, q :: qs, h => by
    simp only [List.map_cons, List.cons.injEq] at h
    rw [pr_inj h.1, prs_inj h.2]
def val (p : Pr) : Rat := Rat.divInt p.1 p.2
def topP (ps : List Pr) : Int := ps.foldl (fun s p => s * p.1) 1
def undP (ps : List Pr) : Int := ps.foldl (fun s p => s * p.2) 1
def LtOk (ps : List Pr) : Prop := (∀ p ∈ ps, 0 < p.2 ∧ lb 9000 p.1 ∧ lb 9000 p.2) ∧ ∀ n, lb 9000 (topP (ps.take n)) ∧ lb 9000 (undP (ps.take n))
def cell (ns : List Int) (k : Int) : Int := ns.getD k.toNat 0
def cellG : List D → Option D
  | [.scr ns, .int k] => if 0 ≤ k then some (.int (cell ns k)) else none
  | _ => none
theorem cellG_eq {ns : List Int} {k : Int} (h : 0 ≤ k) : cellG [.scr ns, .int k] = some (.int (cell ns k)) := if_pos h
theorem cellG_some {ds : List D} {d : D} (h : cellG ds = some d) : ∃ ns k, ds = [.scr ns, .int k] ∧ 0 ≤ k ∧ d = .int (cell ns k) := by
  unfold cellG at h
  split at h
  · split at h
    · rename_i q; cases h; exact ⟨_, _, rfl, q, rfl⟩
    · cases h
  · cases h
theorem cell_out {ns : List Int} {k : Int} (h : (ns.length : Int) ≤ k) : cell ns k = 0 := by
  unfold cell
  rw [List.getD_eq_getElem?_getD, List.getElem?_eq_none (by omega)]
  rfl
theorem ixD_scr {ns : List Int} {k : Int} (h : 0 ≤ k) (h2 : k < ns.length) : ixD (.scr ns) (.int k) = some (.int (cell ns k)) := by
  show (atI ns k).map D.int = _
  have e : k = ((k.toNat : Nat) : Int) := by omega
  have hl : k.toNat < ns.length := by omega
  have q := atI_nat (xs := ns) (j := k.toNat) (v := ns[k.toNat]) (by simp [hl])
  rw [← e] at q
  rw [q]
  unfold cell
  rw [List.getD_eq_getElem?_getD, List.getElem?_eq_getElem hl]
  rfl
def draw (ns : List Int) (k : Int) : Int := (cell ns (k % 61) + 7919 * k) * (48271 + 2 * k) % 2147483647
def drawG : List D → Option D
  | [.scr ns, .int k] => if 0 ≤ k ∧ k ≤ 100000 then some (.int (draw ns k)) else none
  | _ => none
theorem drawG_eq {ns : List Int} {k : Int} (h : 0 ≤ k) (h2 : k ≤ 100000) : drawG [.scr ns, .int k] = some (.int (draw ns k)) := if_pos ⟨h, h2⟩
theorem drawG_some {ds : List D} {d : D} (h : drawG ds = some d) : ∃ ns k, ds = [.scr ns, .int k] ∧ 0 ≤ k ∧ k ≤ 100000 ∧ d = .int (draw ns k) := by
  unfold drawG at h
  split at h
  · split at h
    · rename_i q; cases h; exact ⟨_, _, rfl, q.1, q.2, rfl⟩
    · cases h
  · cases h
theorem draw_lo (ns : List Int) (k : Int) : 0 ≤ draw ns k := Int.emod_nonneg _ (by decide)
theorem mapO_map {α : Type} {F : D → Option D} (g h : α → D) : ∀ (xs : List α), (∀ x ∈ xs, F (g x) = some (h x)) → mapO F (xs.map g) = some (xs.map h)
  | [], _ => rfl
  | x :: xs, H => by
    simp only [List.map_cons, mapO]
    rw [H x List.mem_cons_self, mapO_map g h xs fun y hy => H y (List.mem_cons_of_mem _ hy)]
    rfl
theorem rng1_eq {n : Int} {m : Nat} (h : n = m) (hm : m ≤ 100000) : rng1D [.int n] = some (rngD 0 m) := by
  show (if -(2 ^ 62) ≤ n ∧ n < 2 ^ 62 then some (rngD 0 n.toNat) else none) = _
  rw [if_pos ⟨by omega, by omega⟩, h, Int.toNat_natCast]
@[simp] theorem rngD_len {lo : Int} {n : Nat} : (rngD lo n).length = n := by simp [rngD]
theorem LtOk.two {b : Nat} {p q : Pr} (h1 : 0 < p.2 ∧ lb b p.1 ∧ lb b p.2) (h2 : 0 < q.2 ∧ lb b q.1 ∧ lb b q.2) (hb : 1 + b + b ≤ 9000) (hb2 : b ≤ 9000) : LtOk [p, q] := by
  refine ⟨fun r hr => ?_, fun n => ?_⟩
  · simp only [List.mem_cons, List.not_mem_nil, or_false] at hr
    rcases hr with rfl | rfl
    · exact ⟨h1.1, lb_mono h1.2.1 hb2, lb_mono h1.2.2 hb2⟩
    · exact ⟨h2.1, lb_mono h2.2.1 hb2, lb_mono h2.2.2 hb2⟩
  · match n with
    | 0 => exact ⟨lb_one (by decide), lb_one (by decide)⟩
    | 1 => exact ⟨lb_mono (lb_mul (lb_one (show 0 < 1 by decide)) h1.2.1) (by omega), lb_mono (lb_mul (lb_one (show 0 < 1 by decide)) h1.2.2) (by omega)⟩
    | n + 2 =>
      have e : [p, q].take (n + 2) = [p, q] := by simp
      rw [e]
      have k1 : lb (1 + b + b) (topP [p, q]) := lb_mul (lb_mul (lb_one (show 0 < 1 by decide)) h1.2.1) h2.2.1
      have k2 : lb (1 + b + b) (undP [p, q]) := lb_mul (lb_mul (lb_one (show 0 < 1 by decide)) h1.2.2) h2.2.2
      exact ⟨lb_mono k1 hb, lb_mono k2 hb⟩
def lawG : List D → Option D
  | [.scr ns] => if ns.length ≤ 63 then some (.bl true) else none
  | _ => none
theorem lawG_some {ds : List D} {d : D} (h : lawG ds = some d) : ∃ ns, ds = [.scr ns] ∧ ns.length ≤ 63 ∧ d = .bl true := by
  unfold lawG at h
  split at h
  · split at h
    · rename_i q; cases h; exact ⟨_, rfl, q, rfl⟩
    · cases h
  · cases h
end Yp
set_option Elab.async false
set_option linter.all false
set_option maxRecDepth 100000
namespace Yp
open PySem L2 DL Mth
def good (p : Pr) : Prop := 1 ≤ p.2 ∧ p.2 ≤ 10000 ∧ 0 ≤ p.1 ∧ p.1 ≤ p.2
def ChOk (ps : List Pr) : Prop := 1 ≤ ps.length ∧ ps.length ≤ 20 ∧ ∀ (i : Nat) p, ps[i]? = some p → good p ∧ (p.1 = p.2 ↔ i + 1 = ps.length)
theorem lb14 {i : Int} (h : 0 ≤ i) (k : i ≤ 10000) : lb 14 i := by unfold lb; omega
theorem good.ok {p : Pr} (h : good p) : 0 < p.2 ∧ lb 14 p.1 ∧ lb 14 p.2 := by
  obtain ⟨h1, h2, h3, h4⟩ := h
  exact ⟨by omega, lb14 h3 (by omega), lb14 (by omega) h2⟩
theorem good.bd {p : Pr} (h : good p) : Bd 14 (val p) := Bd.div (by have := h.1; omega) h.ok.2.1 h.ok.2.2
theorem ChOk.good {ps : List Pr} (h : ChOk ps) : ∀ p ∈ ps, good p := fun p hp => by
  obtain ⟨i, hi⟩ := List.mem_iff_getElem?.mp hp
  exact (h.2.2 i p hi).1
def ckR : List D → D → Prop := fun ds d => ∃ p b, good p ∧ (p.1 = p.2 ↔ b = true) ∧ ds = [pr p, .bl b] ∧ d = .non
noncomputable def ckG := fnR ckR
theorem ckG_eq {p : Pr} {b : Bool} (h : good p) (k : p.1 = p.2 ↔ b = true) : ckG [pr p, .bl b] = some .non := fnR_eq ⟨p, b, h, k, rfl, rfl⟩ fun d' ⟨_, _, _, _, _, e⟩ => e
def cksR : List D → D → Prop := fun ds d => ∃ ps, ChOk ps ∧ ds = [.lst (ps.map pr)] ∧ d = .non
noncomputable def cksG := fnR cksR
theorem cksG_eq {ps : List Pr} (h : ChOk ps) : cksG [.lst (ps.map pr)] = some .non := fnR_eq ⟨ps, h, rfl, rfl⟩ fun d' ⟨_, _, _, e⟩ => e
def tabR : List D → List D → Prop := fun ds es => ∃ ps, ChOk ps ∧ ds = [.lst (ps.map pr)] ∧ es = [.lst ((ps.map val).map P)]
noncomputable def tabG := fnR tabR
theorem tabG_eq {ps : List Pr} (h : ChOk ps) : tabG [.lst (ps.map pr)] = some [.lst ((ps.map val).map P)] :=
  fnR_eq ⟨ps, h, rfl, rfl⟩ fun d' zz1 => by
    obtain ⟨qs', _, e, e'⟩ := zz1
    simp only [List.cons.injEq, and_true, D.lst.injEq] at e
    rw [e', prs_inj e]
/-- a table -/
def tab (C : Addr) (cs : List Rat) : D := .obj C ["chances"] [.lst (cs.map P)]
theorem tab_inj {C : Addr} {cs cs' : List Rat} (h : tab C cs = tab C cs') : cs = cs' := by
  unfold tab at h
  simp only [D.obj.injEq, List.cons.injEq, D.lst.injEq, and_true, true_and] at h
  exact Ps_inj h
@[simp] theorem getE_tab {C : Addr} {q : List Rat} {r : DL.Env} : getE (some (tab C q) :: r) 0 = some (tab C q) := rfl
theorem recv_tab {C : Addr} {q : List Rat} {m : Str} (h : m ≠ "chances") : recvD C m (tab C q) = some (tab C q) := by
  unfold tab recvD
  simp [h]
@[simp] theorem recv_ages {C : Addr} {q : List Rat} : recvD C "ages" (tab C q) = some (tab C q) := recv_tab (by decide +kernel)
@[simp] theorem recv_check_age {C : Addr} {q : List Rat} : recvD C "check_age" (tab C q) = some (tab C q) := recv_tab (by decide +kernel)
@[simp] theorem recv_lives {C : Addr} {q : List Rat} : recvD C "lives" (tab C q) = some (tab C q) := recv_tab (by decide +kernel)
theorem lfs_Ps : ∀ qs : List Rat, D.lfs (qs.map P) = true
  | [] => rfl
  | q :: qs => by
    simp only [List.map_cons, D.lfs, lfs_Ps qs, Bool.and_true]
    rfl
@[simp] theorem fld_tab {C : Addr} {q : List Rat} : fldD C "chances" (tab C q) = some (.lst (q.map P)) := by
  unfold tab fldD
  simp
def CsOk (cs : List Rat) : Prop := cs.length ≤ 20 ∧ ∀ c ∈ cs, Bd 14 c
def agesR (C : Addr) : List D → D → Prop := fun ds d => ∃ cs, ds = [tab C cs] ∧ d = .int cs.length
noncomputable def agesG (C : Addr) := fnR (agesR C)
theorem agesG_eq {C : Addr} {cs : List Rat} : agesG C [tab C cs] = some (.int cs.length) := fnR_eq ⟨cs, rfl, rfl⟩ fun d' zz2 => by
  obtain ⟨_, e, e'⟩ := zz2
  simp only [List.cons.injEq, and_true] at e
  rw [e', tab_inj e]
def prodQ (qs : List Rat) : Rat := qs.foldl (· * ·) 1
def livesQ (cs : List Rat) (a y : Nat) : Rat := if cs.length ≤ a + y then 0 else prodQ (((cs.drop a).take y).map (1 - ·))
theorem prodQ_succ {qs : List Rat} {i : Nat} {q : Rat} (h : qs[i]? = some q) : prodQ (qs.take (i + 1)) = prodQ (qs.take i) * q := foldl_take h
theorem prodQ_bd {b : Nat} : ∀ (qs : List Rat) (s : Rat) (a : Nat), Bd a s → (∀ q ∈ qs, Bd b q) → Bd (a + qs.length * b) (qs.foldl (· * ·) s)
  | [], s, a, h, _ => by simpa using h
  | p :: ps, s, a, h, k => by
    simp only [List.foldl_cons]
    refine (prodQ_bd ps (s * p) (a + b) (h.mul (k p List.mem_cons_self)) fun q hq => k q (List.mem_cons_of_mem _ hq)).mono ?_
    simp only [List.length_cons, Nat.succ_mul]
    omega
theorem one_sub_bd {c : Rat} (h : Bd 14 c) : Bd 16 (1 - c) := ((Bd.one (n := 1) (by decide)).sub h).mono (by decide)
theorem cut_nat {α : Type} (xs : List D) (a y : Nat) : cutD xs (some (a : Int)) (some ((a : Int) + (y : Int))) = (xs.drop (min a xs.length)).take (min (a + y) xs.length - min a xs.length) := by
  unfold cutD
  rw [HT.sIx_nat, show (a : Int) + (y : Int) = ((a + y : Nat) : Int) by omega, HT.sIx_nat]
def sel1 (m : Int) : Int := if m = 7 then 20 else if m = 6 then 3 else if m < 3 then 6 else 5
def sel2 (m : Int) : Int := if m = 7 then 2 else if m = 6 then 10000 else if m = 5 then 7 else if 3 ≤ m then 100 else if 1 ≤ m then 12 else 6
theorem sel1_ix {m : Int} (h : 0 ≤ m) (k : m < 8) : ixD (.lst [.int 6, .int 6, .int 6, .int 5, .int 5, .int 5, .int 3, .int 20]) (.int m) = some (.int (sel1 m)) := by
  rcases (show m = 0 ∨ m = 1 ∨ m = 2 ∨ m = 3 ∨ m = 4 ∨ m = 5 ∨ m = 6 ∨ m = 7 by omega) with rfl | rfl | rfl | rfl | rfl | rfl | rfl | rfl <;> rfl
theorem sel2_ix {m : Int} (h : 0 ≤ m) (k : m < 8) : ixD (.lst [.int 6, .int 12, .int 12, .int 100, .int 100, .int 7, .int 10000, .int 2]) (.int m) = some (.int (sel2 m)) := by
  rcases (show m = 0 ∨ m = 1 ∨ m = 2 ∨ m = 3 ∨ m = 4 ∨ m = 5 ∨ m = 6 ∨ m = 7 by omega) with rfl | rfl | rfl | rfl | rfl | rfl | rfl | rfl <;> rfl
theorem sel1_ok (m : Int) : 0 < sel1 m ∧ sel1 m ≤ 20 := by unfold sel1; split <;> (try split) <;> (try split) <;> omega
theorem sel2_ok (m : Int) : 0 < sel2 m ∧ sel2 m ≤ 10000 := by unfold sel2; repeat' split
                                                              all_goals omega
def modeV (ns : List Int) : Int := draw ns 3 % 8
def manyV (ns : List Int) : Nat := (1 + draw ns 1 % sel1 (modeV ns)).toNat
def undV (ns : List Int) (k : Nat) : Int := 1 + draw ns (10 + (k : Int)) % sel2 (modeV ns)
def rawV (ns : List Int) (k : Nat) : Pr := (draw ns (31 + (k : Int)) % undV ns k, undV ns k)
def chancesV (ns : List Int) : List Pr := (List.range (manyV ns - 1)).map (rawV ns) ++ [(undV ns (manyV ns - 1), undV ns (manyV ns - 1))]
theorem modeV_ok (ns : List Int) : 0 ≤ modeV ns ∧ modeV ns < 8 := ⟨Int.emod_nonneg _ (by decide), Int.emod_lt_of_pos _ (by decide)⟩
theorem manyV_ok (ns : List Int) : 1 ≤ manyV ns ∧ (manyV ns : Int) = 1 + draw ns 1 % sel1 (modeV ns) ∧ manyV ns ≤ 20 := by
  have h := sel1_ok (modeV ns)
  have h1 := Int.emod_nonneg (draw ns 1) (show sel1 (modeV ns) ≠ 0 by omega)
  have h2 := Int.emod_lt_of_pos (draw ns 1) h.1
  unfold manyV
  omega
theorem undV_ok (ns : List Int) (k : Nat) : 1 ≤ undV ns k ∧ undV ns k ≤ 10000 := by
  have h := sel2_ok (modeV ns)
  have h1 := Int.emod_nonneg (draw ns (10 + (k : Int))) (show sel2 (modeV ns) ≠ 0 by omega)
  have h2 := Int.emod_lt_of_pos (draw ns (10 + (k : Int))) h.1
  unfold undV
  omega
theorem chancesV_len (ns : List Int) : (chancesV ns).length = manyV ns := by
  have := (manyV_ok ns).1
  unfold chancesV
  simp
  omega
theorem chancesV_ok (ns : List Int) : ChOk (chancesV ns) := by
  have hm := manyV_ok ns
  refine ⟨by rw [chancesV_len]; omega, by rw [chancesV_len]; omega, fun i p hp => ?_⟩
  rw [chancesV_len]
  unfold chancesV at hp
  by_cases hi : i < manyV ns - 1
  · rw [List.getElem?_append_left (by simpa using hi), List.getElem?_map, List.getElem?_range hi] at hp
    cases hp
    have hu := undV_ok ns i
    have h1 := Int.emod_nonneg (draw ns (31 + (i : Int))) (show undV ns i ≠ 0 by omega)
    have h2 := Int.emod_lt_of_pos (draw ns (31 + (i : Int))) (show 0 < undV ns i by omega)
    unfold rawV good
    dsimp only
    omega
  · rw [List.getElem?_append_right (by simpa using hi)] at hp
    have hu := undV_ok ns (manyV ns - 1)
    simp only [List.length_map, List.length_range] at hp
    have hz : i - (manyV ns - 1) = 0 := by
      cases q : i - (manyV ns - 1) with
      | zero => rfl
      | succ n => rw [q] at hp; simp at hp
    rw [hz] at hp
    simp at hp
    subst hp
    unfold good
    dsimp only
    omega
def chancesG : List D → Option D
  | [.scr ns] => if ns.length ≤ 63 then some (.lst ((chancesV ns).map pr)) else none
  | _ => none
theorem chancesG_eq {ns : List Int} (h : ns.length ≤ 63) : chancesG [.scr ns] = some (.lst ((chancesV ns).map pr)) := if_pos h
theorem chancesG_some {ds : List D} {d : D} (h : chancesG ds = some d) : ∃ ns, ds = [.scr ns] ∧ ns.length ≤ 63 ∧ d = .lst ((chancesV ns).map pr) := by
  unfold chancesG at h
  split at h
  · split at h
    · rename_i q; cases h; exact ⟨_, rfl, q, rfl⟩
    · cases h
  · cases h
theorem cut_last {xs : List D} {x : D} : cutD (xs ++ [x]) none (some (-1)) = xs := by
  unfold cutD
  have h1 : HT.sIx (xs ++ [x]).length 0 none = 0 := rfl
  have h2 : HT.sIx (xs ++ [x]).length (xs ++ [x]).length (some (-1)) = xs.length := by
    unfold HT.sIx
    simp
    try omega
  rw [h1, h2]
  simp
end Yp
set_option Elab.async false
set_option linter.all false
set_option maxRecDepth 100000
namespace Yp
open PySem L2 DL Mth
def rateOk (p : Pr) : Prop := 1 ≤ p.1 ∧ p.1 ≤ p.2 ∧ p.2 ≤ 10000
instance (p : Pr) : Decidable (rateOk p) := inferInstanceAs (Decidable (_ ∧ _ ∧ _))
def rundV (ns : List Int) : Int := if draw ns 5 % 8 = 1 ∧ draw ns 3 % 8 < 3 then 1 + draw ns 4 % 10000 else 1 + draw ns 4 % 20
def rateV (ns : List Int) : Pr := (1 + draw ns 6 % rundV ns, rundV ns)
theorem rundV_ok (ns : List Int) : 1 ≤ rundV ns ∧ rundV ns ≤ 10000 := by
  have h1 := Int.emod_nonneg (draw ns 4) (show (10000 : Int) ≠ 0 by decide)
  have h2 := Int.emod_lt_of_pos (draw ns 4) (show (0 : Int) < 10000 by decide)
  have h3 := Int.emod_nonneg (draw ns 4) (show (20 : Int) ≠ 0 by decide)
  have h4 := Int.emod_lt_of_pos (draw ns 4) (show (0 : Int) < 20 by decide)
  unfold rundV
  split <;> omega
theorem rateV_ok (ns : List Int) : rateOk (rateV ns) := by
  obtain ⟨h1, h2⟩ := rundV_ok ns
  have h3 := Int.emod_nonneg (draw ns 6) (show rundV ns ≠ 0 by omega)
  have h4 := Int.emod_lt_of_pos (draw ns 6) (show 0 < rundV ns by omega)
  refine ⟨?_, ?_, h2⟩ <;> simp only [rateV] <;> omega
def rateG : List D → Option D
  | [.scr ns] => if ns.length ≤ 63 then some (pr (rateV ns)) else none
  | _ => none
theorem rateG_eq {ns : List Int} (h : ns.length ≤ 63) : rateG [.scr ns] = some (pr (rateV ns)) := if_pos h
theorem rateG_some {ds : List D} {d : D} (h : rateG ds = some d) : ∃ ns, ds = [.scr ns] ∧ ns.length ≤ 63 ∧ d = pr (rateV ns) := by
  unfold rateG at h
  split at h
  · split at h
    · rename_i q; cases h; exact ⟨_, rfl, q, rfl⟩
    · cases h
  · cases h
end Yp
set_option Elab.async false
set_option linter.all false
set_option maxRecDepth 100000
namespace Yp
open PySem L2 DL Mth
@[simp] theorem exB_ok {α β : Type} {a : α} {f : α → Option (Ex β)} : exB (some (.ok a)) f = f a := rfl
@[simp] theorem exB_err {α β : Type} {C : Addr} {f : α → Option (Ex β)} : exB (some (.error C)) f = some (.error C) := rfl
@[simp] theorem exF_ok {ρ : DL.Env} {f : D → Out} {d : D} : exF ρ f (.ok d) = f d := rfl
@[simp] theorem exF_err {ρ : DL.Env} {f : D → Out} {C : Addr} : exF ρ f (.error C) = .ex C ρ := rfl
@[simp] theorem seqO_ex {C : Addr} {ρ : DL.Env} {g : DL.Env → Option Out} : seqO (some (.ex C ρ)) g = some (.ex C ρ) := rfl
@[simp] theorem retX_rt {d : D} : retX (.rt d) = some (.ok d) := rfl
@[simp] theorem retX_nx {ρ : DL.Env} : retX (.nx ρ) = some (.ok .non) := rfl
@[simp] theorem retX_ex {C : Addr} {ρ : DL.Env} : retX (.ex C ρ) = some (.error C) := rfl
@[simp] theorem getE_exc {C : Addr} {r : DL.Env} : getE (some (.exc C) :: r) 0 = some (.exc C) := rfl
theorem for_postX {ft : D → DL.Env → Option DL.Env} {fb : DL.Env → Option Out} {k : DL.Env → Option Out} {ds : List D} {ρ : DL.Env} {r : Ex D} (I : Nat → DL.Env → Prop) (h0 : I 0 ρ) (step : ∀ i d ρ, ds[i]? = some d → I i ρ → ∃ ρ', (ft d ρ).bind fb = some (.nx ρ') ∧ I (i + 1) ρ')
    (hk : ∀ ρ', I ds.length ρ' → (k ρ').bind retX = some r) : (seqO (runFor ft fb ds ρ) k).bind retX = some r := by
  obtain ⟨ρ', e, p⟩ := for_run I h0 step
  rw [e]
  exact hk ρ' p
/-- the five: BadTable, BadRate, BadPledge, NoYear, BadCount -/
structure Exs where
  t : Addr
  r : Addr
  p : Addr
  n : Addr
  c : Addr
def Exs.l (x : Exs) : List Addr := [x.t, x.r, x.p, x.n, x.c]
def Exs.isx (x : Exs) (T : Addr) : Addr → Option Bool := fun C => if C ∈ x.l then some (decide (C = T)) else none
def Exs.any (x : Exs) : Addr → Option Bool := fun C => if C ∈ x.l then some true else none
def Exs.mt (x : Exs) : Addr → Bool := fun C => decide (C ∈ x.l)
structure ExsOk (K : PySem.W.Frag) (x : Exs) (CP : Addr) : Prop where
  nd : x.l.Nodup
  ok : ∀ C ∈ x.l, ExcOk K C
  is : ∀ C ∈ x.l, ∀ T ∈ x.l, PySem.W.kitOne K (.ref C) (.ref T) = some (decide (C = T))
  pe : ∀ C ∈ x.l, PySem.W.kitOne K (.ref C) (.ref CP) = some true
  ve : ∀ C ∈ x.l, PySem.W.kitOne K (.ref C) (.type "ValueError") = some true
  mt : ∀ C ∈ x.l, PySem.W.exmOne K (.ref C) (.ref CP) = some true
section
variable {K : PySem.W.Frag} {x : Exs} {CP : Addr}
theorem ExsOk.ib (O : ExsOk K x CP) {T : Addr} (h : T ∈ x.l) : IbOk K (.ref T) (x.isx T) := fun C b e => by
  unfold Exs.isx at e
  split at e
  · rename_i hc; cases e; exact ⟨O.ok C hc, O.is C hc T h⟩
  · cases e
theorem ExsOk.ip (O : ExsOk K x CP) : IbOk K (.ref CP) x.any := fun C b e => by
  unfold Exs.any at e
  split at e
  · rename_i hc; cases e; exact ⟨O.ok C hc, O.pe C hc⟩
  · cases e
theorem ExsOk.iv (O : ExsOk K x CP) : IbOk K (.type "ValueError") x.any := fun C b e => by
  unfold Exs.any at e
  split at e
  · rename_i hc; cases e; exact ⟨O.ok C hc, O.ve C hc⟩
  · cases e
theorem ExsOk.mts (O : ExsOk K x CP) : ∀ C, x.mt C = true → PySem.W.exmOne K (.ref C) (.ref CP) = some true := fun C h => O.mt C (of_decide_eq_true h)
end
theorem Exs.ht (x : Exs) : x.t ∈ x.l := by simp [Exs.l]
theorem Exs.hr (x : Exs) : x.r ∈ x.l := by simp [Exs.l]
theorem Exs.hp (x : Exs) : x.p ∈ x.l := by simp [Exs.l]
theorem Exs.hn (x : Exs) : x.n ∈ x.l := by simp [Exs.l]
theorem Exs.hc (x : Exs) : x.c ∈ x.l := by simp [Exs.l]
/-- which of the five it is -/
def aloneR (x : Exs) : List D → D → Prop := fun ds d => ∃ C k, x.l[k]? = some C ∧ x.l.Nodup ∧ ds = [.exc C] ∧ d = .int (k : Nat)
noncomputable def aloneG (x : Exs) := fnR (aloneR x)
theorem aloneG_eq {x : Exs} {C : Addr} {k : Nat} (nd : x.l.Nodup) (h : x.l[k]? = some C) : aloneG x [.exc C] = some (.int (k : Nat)) :=
  fnR_eq ⟨C, k, h, nd, rfl, rfl⟩ fun d' zz1 => by
    obtain ⟨C', k', h', _, e, e'⟩ := zz1
    simp only [List.cons.injEq, and_true, D.exc.injEq] at e
    subst e
    obtain ⟨a1, a2⟩ := List.getElem?_eq_some_iff.mp h
    obtain ⟨b1, b2⟩ := List.getElem?_eq_some_iff.mp h'
    have : k' = k := (List.getElem_inj nd).mp (b2.trans a2.symm)
    rw [e', this]
theorem isxD_is {x : Exs} {C T : Addr} (h : C ∈ x.l) : isxD (x.isx T) (.exc C) = some (.bl (decide (C = T))) := by
  show ((x.isx T) C).map D.bl = _
  unfold Exs.isx
  rw [if_pos h]
  rfl
theorem isxD_any {x : Exs} {C : Addr} (h : C ∈ x.l) : isxD x.any (.exc C) = some (.bl true) := by
  show (x.any C).map D.bl = _
  unfold Exs.any
  rw [if_pos h]
  rfl
def ckrR (x : Exs) : List D → Ex D → Prop := fun ds r => ∃ p, ds = [pr p] ∧ r = if rateOk p then .ok .non else .error x.r
noncomputable def ckrX (x : Exs) := fnR (ckrR x)
theorem ckrX_eq {x : Exs} {p : Pr} : ckrX x [pr p] = some (if rateOk p then .ok .non else .error x.r) :=
  fnR_eq ⟨p, rfl, rfl⟩ fun d' zz2 => by
    obtain ⟨p', e, e'⟩ := zz2
    simp only [List.cons.injEq, and_true] at e
    rw [e', pr_inj e]
def ckyX (x : Exs) : List D → Option (Ex D)
  | [.int y] => some (if 0 ≤ y then .ok .non else .error x.n)
  | _ => none
theorem ckyX_some {x : Exs} {ds : List D} {r : Ex D} (h : ckyX x ds = some r) : ∃ y, ds = [.int y] ∧ r = if 0 ≤ y then .ok .non else .error x.n := by
  unfold ckyX at h
  split at h
  · cases h; exact ⟨_, rfl, rfl⟩
  · cases h
end Yp
namespace Yp
open PySem L2 DL Mth
structure Exc6 (K : PySem.W.Frag) (C : Addr) : Prop where
  cls : PySem.W.excIn K C mroV "ValueError.__new__" = true
  mb : PySem.W.mroIn K C (.type "BaseException") = some true
  ga : PySem.W.findIn K (.ref C) "__getattribute__" = some (some (.builtin "BaseException.__getattribute__"))
  gh : PySem.W.findIn K (.ref C) "__getattr__" = some none
  ca : PySem.W.findIn K (.ref C) "__class__" = some (some (.builtin "object.__class__"))
  mo : PySem.W.mroIn K C (.type "object") = some true
theorem exm_of {K : PySem.W.Frag} {C CP : Addr} (h1 : PySem.W.kitOne K (.ref CP) (.type "BaseException") = some true) (h2 : PySem.W.kitOne K (.ref C) (.ref CP) = some true) (ne : C ≠ CP) : PySem.W.exmOne K (.ref C) (.ref CP) = some true := by
  unfold PySem.W.kitOne at h1 h2
  rw [if_neg (by simp)] at h1
  rw [if_neg (by simpa using ne)] at h2
  have h3 : PySem.W.subIn K (.ref CP) (.type "BaseException") = some true := by
    unfold PySem.W.kitCls at h1
    dsimp only at h1
    split at h1
    · exact h1
    · cases h1
  unfold PySem.W.exmOne
  rw [if_pos (by rw [h3]; rfl)]
  exact h2
theorem ExsOk.of {K : PySem.W.Frag} {x : Exs} {CP : Addr} (nd2 : (CP :: x.l).Nodup) (o1 : Exc6 K x.t) (o2 : Exc6 K x.r) (o3 : Exc6 K x.p) (o4 : Exc6 K x.n) (o5 : Exc6 K x.c)
    (cg : PySem.W.specialIn K (.builtin "object.__class__") "__get__" = some (some (.builtin "getset_descriptor.__get__"))) (tk : PySem.W.takesIn K (.builtin "object.__class__") = some true)
    (is : ∀ C ∈ x.l, ∀ T ∈ x.l, C ≠ T → PySem.W.kitOne K (.ref C) (.ref T) = some false) (pe : ∀ C ∈ x.l, PySem.W.kitOne K (.ref C) (.ref CP) = some true) (ve : ∀ C ∈ x.l, PySem.W.kitOne K (.ref C) (.type "ValueError") = some true)
    (pb : PySem.W.kitOne K (.ref CP) (.type "BaseException") = some true) : ExsOk K x CP := by
  have nd := (List.nodup_cons.mp nd2).2
  have mt : ∀ C ∈ x.l, PySem.W.exmOne K (.ref C) (.ref CP) = some true := fun C hC => exm_of pb (pe C hC) fun z => (List.nodup_cons.mp nd2).1 (z ▸ hC)
  have m : ∀ {C : Addr}, Exc6 K C → ExcOk K C := fun h => ⟨h.cls, h.ga, h.mb, h.gh, h.ca, cg, tk, h.mo⟩
  refine ⟨nd, fun C hC => ?_, fun C hC T hT => ?_, pe, ve, mt⟩
  · simp only [Exs.l, List.mem_cons, List.not_mem_nil, or_false] at hC
    rcases hC with h | h | h | h | h <;> subst h
    · exact m o1
    · exact m o2
    · exact m o3
    · exact m o4
    · exact m o5
  · by_cases h : C = T
    · subst h
      rw [decide_eq_true rfl]
      unfold PySem.W.kitOne
      rw [if_pos (by simp)]
    · rw [is C hC T hT h, decide_eq_false h]
end Yp
namespace Yp
open PySem L2 DL Mth
theorem addD_ll {xs ys : List D} : addD (.lst xs) (.lst ys) = if xs.length + ys.length ≤ 1000 then some (.lst (xs ++ ys)) else none := rfl
theorem countD_l {ds : List D} {b : Bool} : countD (.lst ds) [.bl b] = (blsD ds).map fun bs => .int (bs.count b : Nat) := rfl
theorem indexD_l {ds : List D} {b : Bool} : indexD (.lst ds) [.bl b] = if ds.length ≤ 1000 then (blsD ds).bind fun bs => (firstD b bs).map fun j => .int (j : Nat) else none := rfl
end Yp
namespace Yp
open PySem L2 DL Mth
end Yp
set_option Elab.async false
set_option linter.all false
set_option maxRecDepth 100000
namespace Yp
open PySem L2 DL Mth
def okOr (c : Prop) (C : Addr) {α : Type} (a : α) (r : Ex α) : Prop := (c ∧ r = .ok a) ∨ (¬ c ∧ r = .error C)
theorem okOr_u {c : Prop} {C : Addr} {α : Type} {a : α} {r r' : Ex α} (h : okOr c C a r) (k : okOr c C a r') : r' = r := by
  rcases h with ⟨h1, rfl⟩ | ⟨h1, rfl⟩ <;> rcases k with ⟨k1, rfl⟩ | ⟨k1, rfl⟩
  · rfl
  · exact absurd h1 k1
  · exact absurd k1 h1
  · rfl
def ckaR2 (x : Exs) (C : Addr) : List D → Ex D → Prop := fun ds r => ∃ (cs : List Rat) (a : Int), ds = [tab C cs, .int a] ∧ okOr (0 ≤ a ∧ a < cs.length) x.n D.non r
noncomputable def ckaX (x : Exs) (C : Addr) := fnR (ckaR2 x C)
theorem ckaX_is {x : Exs} {C : Addr} {cs : List Rat} {a : Int} {r : Ex D} (h : okOr (0 ≤ a ∧ a < cs.length) x.n D.non r) : ckaX x C [tab C cs, .int a] = some r :=
  fnR_eq ⟨cs, a, rfl, h⟩ fun r' zz4 => by
    obtain ⟨cs', a', e, k⟩ := zz4
    simp only [List.cons.injEq, and_true, D.int.injEq] at e
    obtain ⟨e1, e2⟩ := e
    obtain rfl := tab_inj e1
    subst e2
    exact okOr_u h k
end Yp
set_option Elab.async false
set_option linter.all false
set_option maxRecDepth 100000
namespace Yp
open PySem L2 DL Mth
def Fr (N M : Nat) (q : Rat) : Prop := 0 < N ∧ ∃ t : Int, q = Rat.divInt t N ∧ t.natAbs ≤ M * N
theorem Fr.neg {N M : Nat} {p : Rat} (h : Fr N M p) : Fr N M (-p) := by
  obtain ⟨h0, t, rfl, ht⟩ := h
  exact ⟨h0, -t, by rw [← Rat.neg_divInt], by rw [Int.natAbs_neg]; exact ht⟩
theorem Fr.zero {N M : Nat} (h : 0 < N) : Fr N M 0 := ⟨h, 0, by rw [Rat.zero_divInt], by simp⟩
theorem Fr.self {q : Rat} (h1 : 0 ≤ q.num) (h2 : q.num ≤ q.den) : Fr q.den 1 q := ⟨q.den_pos, q.num, (self_div q).symm, by omega⟩
theorem Fr.den {N M : Nat} {q : Rat} (h : Fr N M q) : q.den ∣ N := by
  obtain ⟨h0, t, rfl, ht⟩ := h
  rw [Rat.den_divInt, if_neg (by omega)]
  refine ⟨Int.gcd N t, ?_⟩
  rw [Int.natAbs_natCast]
  rw [Nat.div_mul_cancel]
  have := Int.gcd_dvd_natAbs_left (N : Int) t
  simpa using this
theorem rate_val {p : Pr} (h : rateOk p) : 0 < (val p).num ∧ (val p).num ≤ (val p).den ∧ (val p).den ≤ 10000 := by
  obtain ⟨h1, h2, h3⟩ := h
  have hpos : 0 < p.2 := by omega
  have z := part_pos (t := p.1) (u := p.2) hpos
  have hg : (0 : Int) < (Int.gcd p.1 p.2 : Int) := by have := gcd_pos (t := p.1) (u := p.2) (by omega); omega
  have e : val p = Rat.divInt p.1 p.2 := rfl
  have hd := den_le (t := p.1) (u := p.2) (by omega)
  have d1 : (Int.gcd p.1 p.2 : Int) ∣ p.1 := Int.gcd_dvd_left ..
  have d2 : (Int.gcd p.1 p.2 : Int) ∣ p.2 := Int.gcd_dvd_right ..
  obtain ⟨x, hx⟩ := d1
  obtain ⟨y, hy⟩ := d2
  have n1 : (val p).num = x := by
    rw [e, ← z.1]
    generalize (Int.gcd p.1 p.2 : Int) = g at *
    rw [hx, Int.fdiv_eq_ediv_of_nonneg _ (by omega), Int.mul_ediv_cancel_left _ (by omega)]
  have n2 : ((val p).den : Int) = y := by
    rw [e, ← z.2]
    generalize (Int.gcd p.1 p.2 : Int) = g at *
    rw [hy, Int.fdiv_eq_ediv_of_nonneg _ (by omega), Int.mul_ediv_cancel_left _ (by omega)]
  refine ⟨?_, ?_, ?_⟩
  · rw [n1]
    generalize (Int.gcd p.1 p.2 : Int) = g at *
    have h1' : 1 ≤ g * x := by omega
    exact Int.pos_of_mul_pos_right h1' hg
  · rw [n1, n2]
    generalize (Int.gcd p.1 p.2 : Int) = g at *
    have h2' : g * x ≤ g * y := by omega
    exact Int.le_of_mul_le_mul_left h2' hg
  · rw [e]; omega
structure TOk (cs : List Rat) : Prop where
  ok : CsOk cs
  lo : ∀ c ∈ cs, 0 ≤ c.num
  hi : ∀ c ∈ cs, c.num ≤ c.den
  some : 1 ≤ cs.length
  last : cs.getD (cs.length - 1) 0 = 1
  early : ∀ i, i + 1 < cs.length → cs.getD i 0 ≠ 1
theorem good_val {p : Pr} (h : good p) : 0 ≤ (val p).num ∧ (val p).num ≤ (val p).den := by
  obtain ⟨h1, h2, h3, h4⟩ := h
  by_cases hz : p.1 = 0
  · have : val p = 0 := by unfold val; rw [hz, Rat.zero_divInt]
    rw [this]
    decide
  · have := rate_val (p := p) ⟨by omega, h4, h2⟩
    omega
theorem val_one {p : Pr} (h : good p) : val p = 1 ↔ p.1 = p.2 := by
  obtain ⟨h1, h2, h3, h4⟩ := h
  have hz : p.2 ≠ 0 := by omega
  constructor
  · intro e
    have e' : Rat.divInt p.1 p.2 = Rat.divInt 1 1 := e
    rw [Rat.divInt_eq_divInt_iff hz (by decide)] at e'
    omega
  · intro e
    unfold val
    rw [e, Rat.divInt_self' hz]
theorem TOk.of {ps : List Pr} (h : ChOk ps) : TOk (ps.map val) where
  ok := ⟨by simpa using h.2.1, fun c hc => by obtain ⟨p, hp, rfl⟩ := List.mem_map.mp hc; exact (h.good p hp).bd⟩
  lo := fun c hc => by obtain ⟨p, hp, rfl⟩ := List.mem_map.mp hc; exact (good_val (h.good p hp)).1
  hi := fun c hc => by obtain ⟨p, hp, rfl⟩ := List.mem_map.mp hc; exact (good_val (h.good p hp)).2
  some := by simpa using h.1
  last := by
    have h1 := h.1
    have hl : ps.length - 1 < ps.length := by omega
    obtain ⟨hg, he⟩ := h.2.2 (ps.length - 1) ps[ps.length - 1] (by simp [hl])
    rw [List.getD_eq_getElem?_getD, List.length_map, List.getElem?_map, List.getElem?_eq_getElem hl]
    exact (val_one hg).mpr (he.mpr (by omega))
  early := fun i hi => by
    rw [List.length_map] at hi
    have hl : i < ps.length := by omega
    obtain ⟨hg, he⟩ := h.2.2 i ps[i] (by simp [hl])
    rw [List.getD_eq_getElem?_getD, List.getElem?_map, List.getElem?_eq_getElem hl]
    exact fun z => absurd (he.mp ((val_one hg).mp z)) (by omega)
abbrev Rw := Int × Int × Int
def RwOk (r : Rw) : Prop := (0 ≤ r.1 ∧ r.1 ≤ 1000000) ∧ (0 ≤ r.2.1 ∧ r.2.1 ≤ 1000000) ∧ 0 ≤ r.2.2 ∧ r.2.2 ≤ 1000000
structure RsOk (rs : List Rw) : Prop where
  len : rs.length ≤ 20
  row : ∀ r ∈ rs, RwOk r
section
variable {cs : List Rat} {a : Nat} {rs : List Rw}
end
theorem Fr.over {N M : Nat} {p v : Rat} (h : Fr N M p) (hv : 0 < v.num) : Fr (N * v.num.toNat) (M * v.den) (p / v) := by
  obtain ⟨h0, t, rfl, ht⟩ := h
  obtain ⟨n, hn⟩ : ∃ n : Nat, v.num = n := ⟨v.num.toNat, by omega⟩
  have hn0 : 0 < n := by omega
  rw [hn, Int.toNat_natCast]
  refine ⟨Nat.mul_pos h0 hn0, t * v.den, ?_, ?_⟩
  · rw [Rat.div_def, Rat.inv_def, Rat.divInt_mul_divInt, hn, Int.natCast_mul]
  · rw [Int.natAbs_mul, Int.natAbs_natCast]
    have h1 := Nat.mul_le_mul_right v.den ht
    have h2 : M * N * v.den ≤ M * N * v.den * n := Nat.le_mul_of_pos_right _ hn0
    have e : M * v.den * (N * n) = M * N * v.den * n := by ac_rfl
    omega
section
variable {cs : List Rat} {a : Nat} {r : Rw} {rs : List Rw}
end
--D
--E
end Yp
set_option Elab.async false
set_option linter.all false
set_option maxRecDepth 100000
namespace Yp
open PySem L2 DL Mth
def rw3 (r : Rw) : D := .tup [.int r.1, .int r.2.1, .int r.2.2]
@[simp] theorem getE_rw3 {q : Rw} {r : DL.Env} : getE (some (rw3 q) :: r) 0 = some (rw3 q) := rfl
@[simp] theorem atI_02 {a b c : D} {r : List D} : atI (a :: b :: c :: r) 2 = some c := atI_nat (xs := a :: b :: c :: r) (j := 2) rfl
@[simp] theorem ixD_rw0 {q : Rw} : ixD (rw3 q) (.int 0) = some (.int q.1) := by unfold rw3; rw [ixD_tup, atI_00]
@[simp] theorem ixD_rw1 {q : Rw} : ixD (rw3 q) (.int 1) = some (.int q.2.1) := by unfold rw3; rw [ixD_tup, atI_01]
@[simp] theorem ixD_rw2 {q : Rw} : ixD (rw3 q) (.int 2) = some (.int q.2.2) := by unfold rw3; rw [ixD_tup, atI_02]
end Yp
namespace Yp
open PySem L2 DL Mth
end Yp
namespace Yp
open PySem L2 DL Mth
end Yp
set_option Elab.async false
set_option linter.all false
set_option maxRecDepth 100000
namespace Yp
open PySem L2 DL Mth
structure Goes (cs : List Rat) (a : Nat) (rs : List Rw) : Prop where
  t : TOk cs
  s : RsOk rs
  h : a + rs.length ≤ cs.length
  h1 : 1 ≤ rs.length
def bad1 (cs : List Rat) (a y : Int) : Prop := ¬ (0 ≤ a ∧ a < (cs.length : Int)) ∨ y < 0
def livesBR (x : Exs) (C : Addr) : List D → Ex D → Prop := fun ds r => ∃ (cs : List Rat) (a y : Int), CsOk cs ∧ ds = [tab C cs, .int a, .int y] ∧ ((bad1 cs a y ∧ r = .error x.n) ∨ (¬ bad1 cs a y ∧ r = .ok (P (livesQ cs a.toNat y.toNat))))
noncomputable def livesB (x : Exs) (C : Addr) := fnR (livesBR x C)
theorem livesB_no {x : Exs} {C : Addr} {cs : List Rat} {a y : Int} (h : CsOk cs) (b : bad1 cs a y) : livesB x C [tab C cs, .int a, .int y] = some (.error x.n) :=
  fnR_eq ⟨cs, a, y, h, rfl, .inl ⟨b, rfl⟩⟩ fun r' zz3 => by
    obtain ⟨cs', a', y', _, e, k⟩ := zz3
    simp only [List.cons.injEq, and_true, D.int.injEq] at e
    obtain ⟨e1, rfl, rfl⟩ := e
    obtain rfl := tab_inj e1
    rcases k with ⟨_, e⟩ | ⟨k, _⟩
    · exact e
    · exact absurd b k
theorem livesB_ok {x : Exs} {C : Addr} {cs : List Rat} {a y : Int} (h : CsOk cs) (b : ¬ bad1 cs a y) : livesB x C [tab C cs, .int a, .int y] = some (.ok (P (livesQ cs a.toNat y.toNat))) :=
  fnR_eq ⟨cs, a, y, h, rfl, .inr ⟨b, rfl⟩⟩ fun r' zz4 => by
    obtain ⟨cs', a', y', _, e, k⟩ := zz4
    simp only [List.cons.injEq, and_true, D.int.injEq] at e
    obtain ⟨e1, rfl, rfl⟩ := e
    obtain rfl := tab_inj e1
    rcases k with ⟨k, _⟩ | ⟨_, e⟩
    · exact absurd k b
    · exact e
def twoR (x : Exs) (C : Addr) : List D → Ex D → Prop := fun ds r => ∃ (cs : List Rat) (a b y : Int), CsOk cs ∧ (bad1 cs a y ∨ bad1 cs b y) ∧ ds = [tab C cs, .int a, .int b, .int y] ∧ r = .error x.n
noncomputable def twoX (x : Exs) (C : Addr) := fnR (twoR x C)
theorem twoX_eq {x : Exs} {C : Addr} {cs : List Rat} {a b y : Int} (h : CsOk cs) (k : bad1 cs a y ∨ bad1 cs b y) : twoX x C [tab C cs, .int a, .int b, .int y] = some (.error x.n) :=
  fnR_eq ⟨cs, a, b, y, h, k, rfl, rfl⟩ fun r' ⟨_, _, _, _, _, _, _, e⟩ => e
/-- BadRate ahead of NoYear -/
def rOrN (x : Exs) (p : Pr) (b : Prop) (r : Ex D) : Prop := (¬ rateOk p ∧ r = .error x.r) ∨ (rateOk p ∧ b ∧ r = .error x.n)
theorem rOrN_u {x : Exs} {p : Pr} {b : Prop} {r r' : Ex D} (h : rOrN x p b r) (k : rOrN x p b r') : r' = r := by
  rcases h with ⟨h1, rfl⟩ | ⟨h1, _, rfl⟩ <;> rcases k with ⟨k1, rfl⟩ | ⟨k1, _, rfl⟩
  · rfl
  · exact absurd k1 h1
  · exact absurd h1 k1
  · rfl
theorem ints_inj : ∀ {as bs : List Int}, as.map D.int = bs.map D.int → as = bs
  | [], [], _ => rfl
  | [], _ :: _, h => by simp at h
  | _ :: _, [], h => by simp at h
  | p :: ps, q :: qs, h => by
    simp only [List.map_cons, List.cons.injEq, D.int.injEq] at h
    rw [h.1, ints_inj h.2]
def cravXR (x : Exs) (C : Addr) : List D → Ex D → Prop := fun ds r => ∃ (cs : List Rat) (p : Pr) (as : List Int) (y : Int), ds = [tab C cs, pr p, .lst (as.map D.int), .int y] ∧ rOrN x p ((∃ a ∈ as, ¬ (0 ≤ a ∧ a < (cs.length : Int))) ∨ y < 0) r
noncomputable def cravX (x : Exs) (C : Addr) := fnR (cravXR x C)
theorem cravX_is {x : Exs} {C : Addr} {cs : List Rat} {p : Pr} {as : List Int} {y : Int} {r : Ex D} (h : rOrN x p ((∃ a ∈ as, ¬ (0 ≤ a ∧ a < (cs.length : Int))) ∨ y < 0) r) : cravX x C [tab C cs, pr p, .lst (as.map D.int), .int y] = some r :=
  fnR_eq ⟨cs, p, as, y, rfl, h⟩ fun r' zz5 => by
    obtain ⟨cs', p', as', y', e, k⟩ := zz5
    simp only [List.cons.injEq, and_true, D.int.injEq, D.lst.injEq] at e
    obtain ⟨e1, e2, e3, rfl⟩ := e
    obtain rfl := tab_inj e1
    obtain rfl := pr_inj e2
    obtain rfl := ints_inj e3
    exact rOrN_u h k
def paid1R (x : Exs) (C : Addr) : List D → Ex D → Prop := fun ds r => ∃ (cs : List Rat) (p : Pr) (a y : Int), ds = [tab C cs, pr p, .int a, .int y] ∧ rOrN x p (bad1 cs a y) r
noncomputable def paid1X (x : Exs) (C : Addr) := fnR (paid1R x C)
theorem paid1X_is {x : Exs} {C : Addr} {cs : List Rat} {p : Pr} {a y : Int} {r : Ex D} (h : rOrN x p (bad1 cs a y) r) : paid1X x C [tab C cs, pr p, .int a, .int y] = some r :=
  fnR_eq ⟨cs, p, a, y, rfl, h⟩ fun r' zz6 => by
    obtain ⟨cs', p', a', y', e, k⟩ := zz6
    simp only [List.cons.injEq, and_true, D.int.injEq] at e
    obtain ⟨e1, e2, rfl, rfl⟩ := e
    obtain rfl := tab_inj e1
    obtain rfl := pr_inj e2
    exact rOrN_u h k
def paid2R (x : Exs) (C : Addr) : List D → Ex D → Prop := fun ds r => ∃ (cs : List Rat) (p : Pr) (a b y : Int), ds = [tab C cs, pr p, .int a, .int b, .int y] ∧ rOrN x p (bad1 cs a y ∨ bad1 cs b y) r
noncomputable def paid2X (x : Exs) (C : Addr) := fnR (paid2R x C)
theorem paid2X_is {x : Exs} {C : Addr} {cs : List Rat} {p : Pr} {a b y : Int} {r : Ex D} (h : rOrN x p (bad1 cs a y ∨ bad1 cs b y) r) : paid2X x C [tab C cs, pr p, .int a, .int b, .int y] = some r :=
  fnR_eq ⟨cs, p, a, b, y, rfl, h⟩ fun r' zz7 => by
    obtain ⟨cs', p', a', b', y', e, k⟩ := zz7
    simp only [List.cons.injEq, and_true, D.int.injEq] at e
    obtain ⟨e1, e2, rfl, rfl, rfl⟩ := e
    obtain rfl := tab_inj e1
    obtain rfl := pr_inj e2
    exact rOrN_u h k
def due16 (k : Int) (p : Pr) : Int := if 2 ≤ k ∧ ¬ rateOk p then 1 else 3
def bad16 (cs : List Rat) (k : Int) (a b y : Int) : Prop := if k = 4 then bad1 cs a y else if k = 5 then bad1 cs b y else (bad1 cs a y ∨ bad1 cs b y)
def ref16R (x : Exs) (C : Addr) : List D → D → Prop := fun ds d => ∃ (k : Int) (cs : List Rat) (p : Pr) (a b y : Int), (x.l.Nodup ∧ CsOk cs ∧ 0 ≤ k ∧ k ≤ 5) ∧ bad16 cs k a b y ∧ ds = [.int k, tab C cs, pr p, .int a, .int b, .int y] ∧ d = .int (due16 k p)
noncomputable def ref16G (x : Exs) (C : Addr) := fnR (ref16R x C)
theorem ref16G_eq {x : Exs} {C : Addr} {k : Int} {cs : List Rat} {p : Pr} {a b y : Int} (nd : x.l.Nodup) (h : CsOk cs) (k0 : 0 ≤ k) (k5 : k ≤ 5) (hb : bad16 cs k a b y) : ref16G x C [.int k, tab C cs, pr p, .int a, .int b, .int y] = some (.int (due16 k p)) :=
  fnR_eq ⟨k, cs, p, a, b, y, ⟨nd, h, k0, k5⟩, hb, rfl, rfl⟩ fun r' zz8 => by
    obtain ⟨k', _, p', _, _, _, _, _, e, e'⟩ := zz8
    simp only [List.cons.injEq, and_true, D.int.injEq] at e
    obtain ⟨rfl, _, e2, _⟩ := e
    obtain rfl := pr_inj e2
    exact e'
theorem for_thenX {ft : D → DL.Env → Option DL.Env} {fb : DL.Env → Option Out} {C : Addr} {ds : List D} {ρ : DL.Env} {k : DL.Env → Option Out} {r : Ex D} (I : Nat → DL.Env → Prop) (ok : Nat → Prop) (h0 : I 0 ρ)
    (step : ∀ i d ρ, ds[i]? = some d → I i ρ → (ok i ∧ ∃ ρ', (ft d ρ).bind fb = some (.nx ρ') ∧ I (i + 1) ρ') ∨ (¬ ok i ∧ ∃ ρ', (ft d ρ).bind fb = some (.ex C ρ')))
    (hk : ∀ ρ', (∀ j, j < ds.length → ok j) → I ds.length ρ' → (k ρ').bind retX = some r) (hn : (∃ j, j < ds.length ∧ ¬ ok j) → r = .error C) : (seqO (runFor ft fb ds ρ) k).bind retX = some r := by
  have q := runFor_ex (C := C) I ok ds step ds.length 0 ρ rfl (Nat.zero_le _) h0
  rw [List.drop_zero] at q
  rcases q with ⟨h1, ρ', e, p⟩ | ⟨⟨j, _, h2, h3⟩, ρ', e⟩
  · rw [e]; exact hk ρ' (fun j hj => h1 j (Nat.zero_le _) hj) p
  · rw [e, hn ⟨j, h2, h3⟩]; rfl
end Yp
set_option Elab.async false
set_option linter.all false
set_option maxRecDepth 100000
set_option maxHeartbeats 4000000
namespace K16
open PySem L2 DL Mth Yp
def top (i : Nat) : Stmt := PySem.Challenge.pw_yearpledge_k16_couples_refused.main.body.getD i (.Pass ⟨0, 0, 0, 0⟩)
structure Nob (mg : Str → Option Value) : Prop where
  len : mg "len" = none
  abs : mg "abs" = none
  list : mg "list" = none
  range : mg "range" = none
  isinstance : mg "isinstance" = none
  int : mg "int" = none
  bool : mg "bool" = none
  enumerate : mg "enumerate" = none
  min : mg "min" = none
  reversed : mg "reversed" = none
  ValueError : mg "ValueError" = none
theorem lenS {n : Nat} {us : List Value} (h : us.length = n + 1) : ∃ a r, us = a :: r ∧ r.length = n := by
  cases us with
  | nil => simp at h
  | cons a r => exact ⟨a, r, rfl, by simpa using h⟩
theorem len0 {us : List Value} (h : us.length = 0) : us = [] := List.eq_nil_of_length_eq_zero h
theorem len1 {us : List Value} (h : us.length = 1) : ∃ a1, us = [a1] := by
  obtain ⟨a1, r, rfl, h9⟩ := lenS h
  obtain rfl := len0 h9
  exact ⟨a1, rfl⟩
theorem len2 {us : List Value} (h : us.length = 2) : ∃ a1 a2, us = [a1, a2] := by
  obtain ⟨a1, r, rfl, h9⟩ := lenS h
  obtain ⟨a2, rfl⟩ := len1 h9
  exact ⟨a1, a2, rfl⟩
theorem len3 {us : List Value} (h : us.length = 3) : ∃ a1 a2 a3, us = [a1, a2, a3] := by
  obtain ⟨a1, r, rfl, h9⟩ := lenS h
  obtain ⟨a2, a3, rfl⟩ := len2 h9
  exact ⟨a1, a2, a3, rfl⟩
theorem len4 {us : List Value} (h : us.length = 4) : ∃ a1 a2 a3 a4, us = [a1, a2, a3, a4] := by
  obtain ⟨a1, r, rfl, h9⟩ := lenS h
  obtain ⟨a2, a3, a4, rfl⟩ := len3 h9
  exact ⟨a1, a2, a3, a4, rfl⟩
theorem len5 {us : List Value} (h : us.length = 5) : ∃ a1 a2 a3 a4 a5, us = [a1, a2, a3, a4, a5] := by
  obtain ⟨a1, r, rfl, h9⟩ := lenS h
  obtain ⟨a2, a3, a4, a5, rfl⟩ := len4 h9
  exact ⟨a1, a2, a3, a4, a5, rfl⟩
theorem len6 {us : List Value} (h : us.length = 6) : ∃ a1 a2 a3 a4 a5 a6, us = [a1, a2, a3, a4, a5, a6] := by
  obtain ⟨a1, r, rfl, h9⟩ := lenS h
  obtain ⟨a2, a3, a4, a5, a6, rfl⟩ := len5 h9
  exact ⟨a1, a2, a3, a4, a5, a6, rfl⟩
structure ClTable (K : PySem.W.Frag) (C : Addr) : Prop where
  cl : Cls K C
  n_chances : NoAttr K C "chances"
section
variable {P' : Program} {w : World} {K : PySem.W.Frag} {mg : Str → Option Value} {base : Heap} {f : Addr} {fd : FuncData} {xs : Exs} {CP : Addr} {CTable : Addr}
abbrev s_greatest_shared : Stmt := top 4
theorem sc_greatest_shared : FnScope ["one", "other", "rest"] ["one", "other"] (defScope s_greatest_shared) := ⟨rfl, rfl, rfl, by decide +kernel, rfl, by decide +kernel, by decide +kernel⟩
theorem fn_greatest_shared (F : Fun K "greatest_shared" "greatest_shared" s_greatest_shared f fd) (hm : mg "greatest_shared" = some (.ref f)) (hb : Binds K fd ["one", "other"] []) : Fn P' w K mg base 1 "greatest_shared" ["one", "other"] gcdG := by
  have sc := sc_greatest_shared
  refine Fn.of F sc hm hb (fun ds d h => by obtain ⟨a, b, rfl, _⟩ := gcdG_some h; rfl) fun cdv A outer s H E hr => ?_
  have hu := hr.units
  refine ⟨_, (pssd_cons (psd_while (fuelI 1) (pt_d_cmp (c_ne hu) (pd_var 1) pd_int) (pssd_cons (psd_set 2 sc.nd (pd_mod (pd_var 0) (pd_var 1)))
    (pssd_cons (psd_set 0 sc.nd (pd_var 1))
    (pssd_one (psd_set 1 sc.nd (pd_var 2))))))
    (pssd_one (psd_ret (pd_var 0)))), ?_⟩
  intro ds d h
  obtain ⟨a, b, rfl, ha, hb, rfl⟩ := gcdG_some h
  refine while_gcd_post (fun a b o => [some (.int a), some (.int b), o]) (a := a) (b := b) none hb (fun a b o => ?_) (fun a b o hz => ⟨some (.int (a.fmod b)), ?_⟩) fun o' g e1 e2 => ?_
  · simp -implicitDefEqProofs [-List.getD_eq_getElem?_getD]
  · simp -implicitDefEqProofs [-List.getD_eq_getElem?_getD, hz]
  · have := e2 ha
    simp -implicitDefEqProofs [-List.getD_eq_getElem?_getD]
    omega
abbrev s_part : Stmt := top 5
theorem sc_part : FnScope ["top", "under", "shared"] ["top", "under"] (defScope s_part) := ⟨rfl, rfl, rfl, by decide +kernel, rfl, by decide +kernel, by decide +kernel⟩
theorem fn_part (F : Fun K "part" "part" s_part f fd) (hm : mg "part" = some (.ref f)) (hb : Binds K fd ["top", "under"] []) (B : Nob mg) (f_greatest_shared : Fn P' w K mg base 1 "greatest_shared" ["one", "other"] gcdG) : Fn P' w K mg base 2 "part" ["top", "under"] partG := by
  have sc := sc_part
  refine Fn.of F sc hm hb (fun ds d h => by obtain ⟨a, b, rfl, _⟩ := partG_some h; rfl) fun cdv A outer s H E hr => ?_
  have hu := hr.units
  refine ⟨_, (pssd_cons (psd_set 2 sc.nd (pd_call f_greatest_shared (hr.mono (by decide)) (pad_cons (pd_abs B.abs (pad_cons (pd_var 0) pad_nil)) (pad_cons (pd_abs B.abs (pad_cons (pd_var 1) pad_nil)) pad_nil))))
    (pssd_cons (psd_if (pt_d_cmp c_lt (pd_var 1) pd_int) (pssd_one (psd_set 2 sc.nd (pd_neg (pd_var 2)))) pssd_nil)
    (pssd_one (psd_ret (pd_tup (pad_cons (pd_fdiv (pd_var 0) (pd_var 2)) (pad_cons (pd_fdiv (pd_var 1) (pd_var 2)) pad_nil))))))), ?_⟩
  intro ds d h
  obtain ⟨t, u, rfl, hz, hl, rfl⟩ := partG_some h
  have h1 : 0 ≤ (if t < 0 then -t else t) := by split <;> omega
  have h2 : 0 ≤ (if u < 0 then -u else u) := by split <;> omega
  have eg : Int.gcd (if t < 0 then -t else t) (if u < 0 then -u else u) = Int.gcd t u := by
    split <;> split <;> simp -implicitDefEqProofs [-List.getD_eq_getElem?_getD]
  have hg := gcd_pos (t := t) hz
  have hg9 : lb 9000 (Int.gcd t u : Int) := lb_gcd hz hl
  have hG : gcdG [.int (if t < 0 then -t else t), .int (if u < 0 then -u else u)] = some (.int (Int.gcd t u)) := by rw [gcdG_eq h1 h2, eg]
  have hgn : (Int.gcd t u : Int) ≠ 0 := by omega
  have hgn' : -(Int.gcd t u : Int) ≠ 0 := by omega
  have hl1 : (Int.gcd t u : Int).natAbs.log2 < 9000 := lb_log hg9 (Nat.le_refl _) (by decide)
  have hl2 : (-(Int.gcd t u : Int)).natAbs.log2 < 9000 := by rw [Int.natAbs_neg]; exact hl1
  simp -implicitDefEqProofs [-List.getD_eq_getElem?_getD, startD, hG]
  by_cases hu0 : u < 0
  · have z := part_neg (t := t) hu0
    simp -implicitDefEqProofs [-List.getD_eq_getElem?_getD, hu0, fdivD_int hgn' hl2, z.1, z.2, P]
  · have z := part_pos (t := t) (u := u) (by omega)
    simp -implicitDefEqProofs [-List.getD_eq_getElem?_getD, hu0, fdivD_int hgn hl1, z.1, z.2, P]
abbrev s_plus : Stmt := top 6
theorem sc_plus : FnScope ["one", "other"] ["one", "other"] (defScope s_plus) := ⟨rfl, rfl, rfl, by decide +kernel, rfl, by decide +kernel, by decide +kernel⟩
theorem fn_plus (F : Fun K "plus" "plus" s_plus f fd) (hm : mg "plus" = some (.ref f)) (hb : Binds K fd ["one", "other"] []) (f_part : Fn P' w K mg base 2 "part" ["top", "under"] partG) : Fn P' w K mg base 3 "plus" ["one", "other"] plusG := by
  have sc := sc_plus
  refine Fn.of F sc hm hb (fun ds d h => by obtain ⟨p, q, _, rfl, _⟩ := fnR_some h; rfl) fun cdv A outer s H E hr => ?_
  have hu := hr.units
  refine ⟨_, (pssd_one (psd_ret (pd_call f_part (hr.mono (by decide)) (pad_cons (pd_add (pd_mul (pd_ix (pd_var 0) pd_int) (pd_ix (pd_var 1) pd_int)) (pd_mul (pd_ix (pd_var 1) pd_int) (pd_ix (pd_var 0) pd_int))) (pad_cons (pd_mul (pd_ix (pd_var 0) pd_int) (pd_ix (pd_var 1) pd_int)) pad_nil))))), ?_⟩
  intro ds d h
  obtain ⟨p, q, ⟨hp, hq⟩, rfl, rfl⟩ := fnR_some h
  have m1 : IntMulOk p.num q.den := mulOk hp.1 hq.2 (by decide) (by decide)
  have m2 : IntMulOk q.num p.den := mulOk hq.1 hp.2 (by decide) (by decide)
  have m3 : IntMulOk p.den q.den := mulOk hp.2 hq.2 (by decide) (by decide)
  have hp' := partG_eq (t := p.num * q.den + q.num * p.den) (u := p.den * q.den) (Int.mul_ne_zero (den_ne p) (den_ne q)) (lb_mono (lb_mul hp.2 hq.2) (by decide))
  rw [add_div] at hp'
  simp -implicitDefEqProofs [-List.getD_eq_getElem?_getD, startD, mulD_int m1, mulD_int m2, mulD_int m3, hp']
abbrev s_less : Stmt := top 7
theorem sc_less : FnScope ["one", "other"] ["one", "other"] (defScope s_less) := ⟨rfl, rfl, rfl, by decide +kernel, rfl, by decide +kernel, by decide +kernel⟩
theorem fn_less (F : Fun K "less" "less" s_less f fd) (hm : mg "less" = some (.ref f)) (hb : Binds K fd ["one", "other"] []) (f_part : Fn P' w K mg base 2 "part" ["top", "under"] partG) : Fn P' w K mg base 3 "less" ["one", "other"] lessG := by
  have sc := sc_less
  refine Fn.of F sc hm hb (fun ds d h => by obtain ⟨p, q, _, rfl, _⟩ := fnR_some h; rfl) fun cdv A outer s H E hr => ?_
  have hu := hr.units
  refine ⟨_, (pssd_one (psd_ret (pd_call f_part (hr.mono (by decide)) (pad_cons (pd_sub (pd_mul (pd_ix (pd_var 0) pd_int) (pd_ix (pd_var 1) pd_int)) (pd_mul (pd_ix (pd_var 1) pd_int) (pd_ix (pd_var 0) pd_int))) (pad_cons (pd_mul (pd_ix (pd_var 0) pd_int) (pd_ix (pd_var 1) pd_int)) pad_nil))))), ?_⟩
  intro ds d h
  obtain ⟨p, q, ⟨hp, hq⟩, rfl, rfl⟩ := fnR_some h
  have m1 : IntMulOk p.num q.den := mulOk hp.1 hq.2 (by decide) (by decide)
  have m2 : IntMulOk q.num p.den := mulOk hq.1 hp.2 (by decide) (by decide)
  have m3 : IntMulOk p.den q.den := mulOk hp.2 hq.2 (by decide) (by decide)
  have hp' := partG_eq (t := p.num * q.den - q.num * p.den) (u := p.den * q.den) (Int.mul_ne_zero (den_ne p) (den_ne q)) (lb_mono (lb_mul hp.2 hq.2) (by decide))
  rw [sub_div] at hp'
  simp -implicitDefEqProofs [-List.getD_eq_getElem?_getD, startD, mulD_int m1, mulD_int m2, mulD_int m3, hp']
abbrev s_times : Stmt := top 8
theorem sc_times : FnScope ["one", "other"] ["one", "other"] (defScope s_times) := ⟨rfl, rfl, rfl, by decide +kernel, rfl, by decide +kernel, by decide +kernel⟩
theorem fn_times (F : Fun K "times" "times" s_times f fd) (hm : mg "times" = some (.ref f)) (hb : Binds K fd ["one", "other"] []) (f_part : Fn P' w K mg base 2 "part" ["top", "under"] partG) : Fn P' w K mg base 3 "times" ["one", "other"] timesG := by
  have sc := sc_times
  refine Fn.of F sc hm hb (fun ds d h => by obtain ⟨p, q, _, rfl, _⟩ := fnR_some h; rfl) fun cdv A outer s H E hr => ?_
  have hu := hr.units
  refine ⟨_, (pssd_one (psd_ret (pd_call f_part (hr.mono (by decide)) (pad_cons (pd_mul (pd_ix (pd_var 0) pd_int) (pd_ix (pd_var 1) pd_int)) (pad_cons (pd_mul (pd_ix (pd_var 0) pd_int) (pd_ix (pd_var 1) pd_int)) pad_nil))))), ?_⟩
  intro ds d h
  obtain ⟨p, q, ⟨hp, hq⟩, rfl, rfl⟩ := fnR_some h
  have m1 : IntMulOk p.num q.num := mulOk hp.1 hq.1 (by decide) (by decide)
  have m2 : IntMulOk p.den q.den := mulOk hp.2 hq.2 (by decide) (by decide)
  have hp' := partG_eq (t := p.num * q.num) (u := p.den * q.den) (Int.mul_ne_zero (den_ne p) (den_ne q)) (lb_mono (lb_mul hp.2 hq.2) (by decide))
  rw [mul_div] at hp'
  simp -implicitDefEqProofs [-List.getD_eq_getElem?_getD, startD, mulD_int m1, mulD_int m2, hp']
abbrev s_check_chance : Stmt := top 19
theorem sc_check_chance : FnScope ["chance", "is_last", "top", "under"] ["chance", "is_last"] (defScope s_check_chance) := ⟨rfl, rfl, rfl, by decide +kernel, rfl, by decide +kernel, by decide +kernel⟩
theorem fn_check_chance (F : Fun K "check_chance" "check_chance" s_check_chance f fd) (hm : mg "check_chance" = some (.ref f)) (hb : Binds K fd ["chance", "is_last"] []) (c_MOST_UNDER : Cst mg K "MOST_UNDER" (.int 10000)) : Fn P' w K mg base 1 "check_chance" ["chance", "is_last"] ckG := by
  have sc := sc_check_chance
  refine Fn.of F sc hm hb (fun ds d h => by obtain ⟨p, b, _, _, rfl, _⟩ := fnR_some h; rfl) fun cdv A outer s H E hr => ?_
  have hu := hr.units
  refine ⟨_, (pssd_cons (psd_set 2 sc.nd (pd_ix (pd_var 0) pd_int))
    (pssd_cons (psd_set 3 sc.nd (pd_ix (pd_var 0) pd_int))
    (pssd_cons (psd_if (pt_d_not (pt_d_chain c_le c_le pd_int (pd_var 3) (pd_cst c_MOST_UNDER))) (pssd_one psd_never) pssd_nil)
    (pssd_cons (psd_if (pt_d_not (pt_d_chain c_le c_le pd_int (pd_var 2) (pd_var 3))) (pssd_one psd_never) pssd_nil)
    (pssd_cons (psd_if (pt_d_w (pw_d_and (pt_d_val (pd_var 1)) (pw_d_and1 (pt_d_cmp (c_ne hu) (pd_var 2) (pd_var 3))))) (pssd_one psd_never) pssd_nil)
    (pssd_one (psd_if (pt_d_w (pw_d_and (pt_d_not (pt_d_val (pd_var 1))) (pw_d_and1 (pt_d_cmp (c_eq hu) (pd_var 2) (pd_var 3))))) (pssd_one psd_never) pssd_nil))))))), ?_⟩
  intro ds d h
  obtain ⟨p, b, ⟨h1, h2, h3, h4⟩, hk, rfl, rfl⟩ := fnR_some h
  cases b with
  | true =>
    have he : p.1 = p.2 := hk.mpr rfl
    have h5 : 0 ≤ p.2 := by omega
    simp -implicitDefEqProofs [-List.getD_eq_getElem?_getD, startD, h1, h2, h5, he]
  | false =>
    have he : ¬ p.1 = p.2 := fun z => by have := hk.mp z; cases this
    simp -implicitDefEqProofs [-List.getD_eq_getElem?_getD, startD, h1, h2, h3, h4, he]
abbrev s_check_chances : Stmt := top 20
theorem sc_check_chances : FnScope ["chances", "many", "age", "chance"] ["chances"] (defScope s_check_chances) := ⟨rfl, rfl, rfl, by decide +kernel, rfl, by decide +kernel, by decide +kernel⟩
theorem fn_check_chances (F : Fun K "check_chances" "check_chances" s_check_chances f fd) (hm : mg "check_chances" = some (.ref f)) (hb : Binds K fd ["chances"] []) (B : Nob mg) (f_check_chance : Fn P' w K mg base 1 "check_chance" ["chance", "is_last"] ckG) (c_MOST_AGES : Cst mg K "MOST_AGES" (.int 20)) : Fn P' w K mg base 2 "check_chances" ["chances"] cksG := by
  have sc := sc_check_chances
  refine Fn.of F sc hm hb (fun ds d h => by obtain ⟨ps, _, rfl, _⟩ := fnR_some h; rfl) fun cdv A outer s H E hr => ?_
  have hu := hr.units
  refine ⟨_, (pssd_cons (psd_set 1 sc.nd (pd_len B.len (pad_cons (pd_var 0) pad_nil)))
    (pssd_cons (psd_if (pt_d_not (pt_d_chain c_le c_le pd_int (pd_var 1) (pd_cst c_MOST_AGES))) (pssd_one psd_never) pssd_nil)
    (pssd_one (psd_for (pid_enum B.enumerate (pad_cons (pd_var 0) pad_nil)) (pgd_pair 2 3 sc.nd) (pssd_one (psd_expr (pd_call f_check_chance (hr.mono (by decide)) (pad_cons (pd_var 3) (pad_cons (pd_cmp (c_eq hu) (pd_var 2) (pd_sub (pd_var 1) pd_int)) pad_nil))))))))), ?_⟩
  intro ds d h
  obtain ⟨ps, ok, rfl, rfl⟩ := fnR_some h
  have l1 : (1 : Int) ≤ (ps.length : Int) := by have := ok.1; omega
  have l2 : (ps.length : Int) ≤ 20 := by have := ok.2.1; omega
  simp -implicitDefEqProofs [-List.getD_eq_getElem?_getD, startD, l1, l2, enumG]
  refine for_last (fun i ρ => ∃ o o', ρ = [some (.lst (ps.map pr)), some (.int ps.length), o, o']) ⟨none, none, rfl⟩ (fun i d ρ hd zq1 => ?_)
  obtain ⟨o, o', e⟩ := zq1
  subst e
  obtain ⟨x, ex, rfl⟩ := enumG_get (ds := ps.map pr) (by simpa using hd)
  obtain ⟨p, ep, rfl⟩ := map_get ex
  obtain ⟨hg, hl⟩ := ok.2.2 i p ep
  have hc : ckG [pr p, .bl (decide ((i : Int) = ps.length - 1))] = some .non := ckG_eq hg (by rw [hl, decide_eq_true_eq]; omega)
  refine ⟨_, ?_, some (.int i), some (pr p), rfl⟩
  simp -implicitDefEqProofs [-List.getD_eq_getElem?_getD, hc]
abbrev s_check_rate : Stmt := top 21
theorem sc_check_rate : FnScope ["rate"] ["rate"] (defScope s_check_rate) := ⟨rfl, rfl, rfl, by decide +kernel, rfl, by decide +kernel, by decide +kernel⟩
theorem fn_check_rate (F : Fun K "check_rate" "check_rate" s_check_rate f fd) (hm : mg "check_rate" = some (.ref f)) (hb : Binds K fd ["rate"] []) (c_MOST_UNDER : Cst mg K "MOST_UNDER" (.int 10000)) (xo : ExsOk K xs CP) (q_BadRate : mg "BadRate" = some (.ref xs.r)) : FnX P' w K mg base 1 "check_rate" ["rate"] (ckrX xs) := by
  have sc := sc_check_rate
  refine FnX.of F sc hm hb (fun ds d h => by obtain ⟨p, rfl, _⟩ := fnR_some h; rfl) fun cdv A outer s H E hr => ?_
  have hu := hr.units
  refine ⟨_, (pssd_one (psd_if (pt_d_not (pt_d_chain3 c_le c_le c_le pd_int (pd_ix (pd_var 0) pd_int) (pd_ix (pd_var 0) pd_int) (pd_cst c_MOST_UNDER))) (pssd_one (psd_raise (xo.ok _ xs.hr).cls q_BadRate (pad_cons pd_str pad_nil) hr.hd)) pssd_nil)), ?_⟩
  intro ds d h
  obtain ⟨p, rfl, rfl⟩ := fnR_some h
  by_cases h1 : 1 ≤ p.1 <;> by_cases h2 : p.1 ≤ p.2 <;> by_cases h3 : p.2 ≤ 10000 <;> simp -implicitDefEqProofs [-List.getD_eq_getElem?_getD, startD, rateOk, h1, h2, h3]
abbrev s_check_years : Stmt := top 22
theorem sc_check_years : FnScope ["years"] ["years"] (defScope s_check_years) := ⟨rfl, rfl, rfl, by decide +kernel, rfl, by decide +kernel, by decide +kernel⟩
theorem fn_check_years (F : Fun K "check_years" "check_years" s_check_years f fd) (hm : mg "check_years" = some (.ref f)) (hb : Binds K fd ["years"] []) (xo : ExsOk K xs CP) (q_NoYear : mg "NoYear" = some (.ref xs.n)) : FnX P' w K mg base 1 "check_years" ["years"] (ckyX xs) := by
  have sc := sc_check_years
  refine FnX.of F sc hm hb (fun ds d h => by obtain ⟨y, rfl, _⟩ := ckyX_some h; rfl) fun cdv A outer s H E hr => ?_
  have hu := hr.units
  refine ⟨_, (pssd_one (psd_if (pt_d_cmp c_lt (pd_var 0) pd_int) (pssd_one (psd_raise (xo.ok _ xs.hn).cls q_NoYear (pad_cons pd_str pad_nil) hr.hd)) pssd_nil)), ?_⟩
  intro ds d h
  obtain ⟨y, rfl, rfl⟩ := ckyX_some h
  by_cases hy : 0 ≤ y
  · have hy' : ¬ y < 0 := by omega
    simp -implicitDefEqProofs [-List.getD_eq_getElem?_getD, startD, hy, hy']
  · have hy' : y < 0 := by omega
    simp -implicitDefEqProofs [-List.getD_eq_getElem?_getD, startD, hy, hy']
abbrev s_Table___init__ : Stmt := inClass (top 23) 0
theorem sc_Table___init__ : FnScope ["self", "chances"] ["self", "chances"] (defScope s_Table___init__) := ⟨rfl, rfl, rfl, by decide +kernel, rfl, by decide +kernel, by decide +kernel⟩
theorem in_Table (F : Fun K "__init__" "Table.__init__" s_Table___init__ f fd) (T_Table : ClTable K CTable) (f_part : Fn P' w K mg base 2 "part" ["top", "under"] partG) (f_check_chances : Fn P' w K mg base 2 "check_chances" ["chances"] cksG) : FnOk P' w K mg base CX0 3 f fd ["self", "chances"] (SpI K CTable ["chances"] tabG) := by
  have sc := sc_Table___init__
  refine F.ok sc (fun vs H Q E h => ?_) (fun cdv A outer s H vs Q E hr h => ?_)
  · obtain ⟨x, dx, vs', G, ds, es, rfl, _, _, r, eg, _⟩ := h
    obtain ⟨ps, _, rfl, _⟩ := fnR_some eg
    rw [List.length_cons, ← r.length]
    rfl
  obtain ⟨x, dx, vs', G, ds, es, rfl, hx, g, r, eg, q⟩ := h
  obtain ⟨ps, ok, rfl, rfl⟩ := fnR_some eg
  obtain ⟨v, r', rfl, rv, rfl⟩ := r
  have hu := hr.units
  have gH : Same G H := fun b o z => by
    have := g b o z
    unfold butL at this
    split at this
    · cases this
    · exact this
  have hxG : G x = none := by
    cases z : G x with
    | none => rfl
    | some o =>
      have := g x o z
      unfold butL at this
      rw [if_pos rfl] at this
      cases this
  have R : ∀ {G'}, Same G G' → RepSt K G' [some (.ref x), some v] [none, some (.lst (ps.map pr))] := fun {G'} m i d e => by
    match i, e with
    | 0, e => cases e
    | 1, e =>
      have e' : d = .lst (ps.map pr) := by simpa using e.symm
      subst e'
      exact ⟨v, rfl, Rep.mono m _ _ rv⟩
    | i + 2, e => simp -implicitDefEqProofs [-List.getD_eq_getElem?_getD, getE] at e
  refine ⟨_, pss_cons (ps_expr (pd_call f_check_chances (hr.mono (by decide)) (pad_cons (pd_var 1) pad_nil)))
    (pss_one (ps_fld (pv 0) (pf_comp (caps_ok [] [] trivial) (pid_list (pd_var 1)) (fun C s₂ H₂ fp => pd_call f_part (hr.mono (by decide)) (pad_cons (pd_ix (pd_var 0) pd_int) (pad_cons (pd_ix (pd_var 0) pd_int) pad_nil)))) rfl)), ?_⟩
  refine ⟨G, _, .non, gH, R (Same.refl G), by simp -implicitDefEqProofs [-List.getD_eq_getElem?_getD, cksG_eq ok], fun v1 H1 s1 _ => ?_⟩
  have hl : ps.length ≤ 1000 := by have := ok.2.1; omega
  refine ⟨G, _, (ps.map val).map P, gH.trans s1, R (Same.refl G), ?_, fun l H2 xs s2 hln hl2 rl => ?_⟩
  · simp -implicitDefEqProofs [-List.getD_eq_getElem?_getD]
    rw [mapO_map pr (fun p => P (val p)) ps ?hp]
    case hp =>
      intro p hp
      have hg := ok.good p hp
      simp -implicitDefEqProofs [-List.getD_eq_getElem?_getD, partG_eq (t := p.1) (u := p.2) (by have := hg.1; omega) (lb_mono hg.ok.2.2 (by decide)), val]
    simp -implicitDefEqProofs [-List.getD_eq_getElem?_getD, hl]
  · have s12 := s1.trans s2
    have lx : l ≠ x := fun z => by rw [z, s1 _ _ hx] at hln; cases hln
    refine ⟨.ref x, rfl, x, CTable, dx, [], rfl, s12 _ _ hx, T_Table.cl, T_Table.n_chances, (by show 0 < 1000; decide), ?_⟩
    refine q _ [.ref l] (fun b o z => ?_) upd_same rfl ⟨.ref l, [], rfl, ⟨l, xs, rfl, ?_, RepL.mono (fun b o z => ?_) _ _ (repl_noM _ _ (lfs_Ps _) rl)⟩, rfl⟩
    · unfold butL at z
      split at z
      · cases z
      · rename_i hb
        rw [upd_ne hb]
        exact s12 _ _ z
    · unfold butL
      rw [if_neg lx, ext_none (s1.free hln), upd_ne lx]
      exact hl2
    · obtain ⟨z1, zk⟩ := noM_of z
      unfold butL at z1
      split at z1
      · cases z1
      · rename_i hbl
        have z2 := ext_sub (gH.trans s1) s2 _ _ z1
        have hbx : b ≠ x := fun w => by
          rw [w, s12 _ _ hx] at z2
          rcases zk with ⟨ys, rfl⟩ | ⟨ob, ys, rfl⟩ <;> cases z2
        unfold butL
        rw [if_neg hbx]
        cases q0 : H b with
        | none =>
          rw [ext_none q0, upd_ne hbx]
          exact z2
        | some w0 =>
          rw [ext_some q0]
          rw [ext_some (s1 _ _ q0)] at z1
          exact noM_at z1 zk
abbrev s_Table_ages : Stmt := inClass (top 23) 1
theorem sc_Table_ages : FnScope ["self"] ["self"] (defScope s_Table_ages) := ⟨rfl, rfl, rfl, by decide +kernel, rfl, by decide +kernel, by decide +kernel⟩
theorem mt_ages (F : Fun K "ages" "Table.ages" s_Table_ages f fd) (hm : Meth K CTable "ages" f) (hb : Binds K fd ["self"] []) (B : Nob mg) (T_Table : ClTable K CTable) : Mt P' w K mg base 1 CTable "ages" ["self"] (agesG CTable) := by
  have sc := sc_Table_ages
  refine Mt.of F sc hm hb (fun ds d h => by obtain ⟨cs, rfl, _⟩ := fnR_some h; rfl) fun cdv A outer s H E hr => ?_
  have hu := hr.units
  refine ⟨_, (pssd_one (psd_ret (pd_len B.len (pad_cons (pd_fld T_Table.cl T_Table.n_chances (pd_var 0)) pad_nil)))), ?_⟩
  intro ds d h
  obtain ⟨cs, rfl, rfl⟩ := fnR_some h
  simp -implicitDefEqProofs [-List.getD_eq_getElem?_getD, startD]
abbrev s_Table_check_age : Stmt := inClass (top 23) 2
theorem sc_Table_check_age : FnScope ["self", "age"] ["self", "age"] (defScope s_Table_check_age) := ⟨rfl, rfl, rfl, by decide +kernel, rfl, by decide +kernel, by decide +kernel⟩
theorem mt_check_age (F : Fun K "check_age" "Table.check_age" s_Table_check_age f fd) (hm : Meth K CTable "check_age" f) (hb : Binds K fd ["self", "age"] []) (T_Table : ClTable K CTable) (m_ages : Mt P' w K mg base 1 CTable "ages" ["self"] (agesG CTable)) (xo : ExsOk K xs CP) (q_NoYear : mg "NoYear" = some (.ref xs.n)) : MtX P' w K mg base 2 CTable "check_age" ["self", "age"] (ckaX xs CTable) := by
  have sc := sc_Table_check_age
  refine MtX.of F sc hm hb (fun ds d h => by obtain ⟨cs, a, rfl, _⟩ := fnR_some h; rfl) fun cdv A outer s H E hr => ?_
  have hu := hr.units
  refine ⟨_, (pssd_one (psd_if (pt_d_not (pt_d_chain c_le c_lt pd_int (pd_var 1) (pd_meth0 T_Table.cl m_ages (hr.mono (by decide)) (pd_var 0)))) (pssd_one (psd_raise (xo.ok _ xs.hn).cls q_NoYear (pad_cons pd_str pad_nil) hr.hd)) pssd_nil)), ?_⟩
  intro ds d h
  obtain ⟨cs, a, rfl, hr⟩ := fnR_some h
  by_cases h1 : 0 ≤ a
  · by_cases h2 : a < (cs.length : Int)
    · rcases hr with ⟨_, rfl⟩ | ⟨hk, rfl⟩
      · simp -implicitDefEqProofs [-List.getD_eq_getElem?_getD, startD, agesG_eq, h1, h2]
      · exact absurd ⟨h1, h2⟩ hk
    · rcases hr with ⟨hk, rfl⟩ | ⟨_, rfl⟩
      · exact absurd hk.2 h2
      · simp -implicitDefEqProofs [-List.getD_eq_getElem?_getD, startD, agesG_eq, h1, h2]
  · rcases hr with ⟨hk, rfl⟩ | ⟨_, rfl⟩
    · exact absurd hk.1 h1
    · simp -implicitDefEqProofs [-List.getD_eq_getElem?_getD, startD, agesG_eq, h1]
abbrev s_Table_lives : Stmt := inClass (top 23) 4
theorem sc_Table_lives : FnScope ["self", "age", "years", "chance", "dying"] ["self", "age", "years"] (defScope s_Table_lives) := ⟨rfl, rfl, rfl, by decide +kernel, rfl, by decide +kernel, by decide +kernel⟩
theorem mt_lives (F : Fun K "lives" "Table.lives" s_Table_lives f fd) (hm : Meth K CTable "lives" f) (hb : Binds K fd ["self", "age", "years"] []) (T_Table : ClTable K CTable) (f_less : Fn P' w K mg base 3 "less" ["one", "other"] lessG) (f_times : Fn P' w K mg base 3 "times" ["one", "other"] timesG) (f_check_years : FnX P' w K mg base 1 "check_years" ["years"] (ckyX xs)) (m_ages : Mt P' w K mg base 1 CTable "ages" ["self"] (agesG CTable)) (m_check_age : MtX P' w K mg base 2 CTable "check_age" ["self", "age"] (ckaX xs CTable)) (c_NOUGHT : Cst mg K "NOUGHT" (P 0)) (c_ONE : Cst mg K "ONE" (P 1)) : MtX P' w K mg base 4 CTable "lives" ["self", "age", "years"] (livesB xs CTable) := by
  have sc := sc_Table_lives
  refine MtX.of F sc hm hb (fun ds d h => by obtain ⟨_, _, _, _, rfl, _⟩ := fnR_some h; rfl) fun cdv A outer s H E hr => ?_
  have hu := hr.units
  refine ⟨_, (pssd_cons (psd_exprX (px_meth T_Table.cl m_check_age (hr.mono (by decide)) (pd_var 0) (pxa_of (pad_cons (pd_var 1) pad_nil))))
    (pssd_cons (psd_exprX (px_call f_check_years (hr.mono (by decide)) (pxa_of (pad_cons (pd_var 2) pad_nil))))
    (pssd_cons (psd_if (pt_d_cmp c_ge (pd_add (pd_var 1) (pd_var 2)) (pd_meth0 T_Table.cl m_ages (hr.mono (by decide)) (pd_var 0))) (pssd_one (psd_ret (pd_cst c_NOUGHT))) pssd_nil)
    (pssd_cons (psd_set 3 sc.nd (pd_cst c_ONE))
    (pssd_cons (psd_for (pid_list (pd_slice (pd_fld T_Table.cl T_Table.n_chances (pd_var 0)) (po_d_some (pd_var 1)) (po_d_some (pd_add (pd_var 1) (pd_var 2))))) (pgd_name 4 sc.nd) (pssd_one (psd_set 3 sc.nd (pd_call f_times (hr.mono (by decide)) (pad_cons (pd_var 3) (pad_cons (pd_call f_less (hr.mono (by decide)) (pad_cons (pd_cst c_ONE) (pad_cons (pd_var 4) pad_nil))) pad_nil))))) (hp := PassesOwn.leaving))
    (pssd_one (psd_ret (pd_var 3)))))))), ?_⟩
  intro ds d h
  obtain ⟨cs, a, y, ok, rfl, hd⟩ := fnR_some h
  rcases hd with ⟨bad, rfl⟩ | ⟨nb, rfl⟩
  · by_cases hin : 0 ≤ a ∧ a < (cs.length : Int)
    · have hk := ckaX_is (x := xs) (C := CTable) (cs := cs) (a := a) (.inl ⟨hin, rfl⟩)
      have hy : ¬ 0 ≤ y := by
        rcases bad with z | z
        · exact absurd hin z
        · omega
      have hc : ckyX xs [.int y] = some (.error xs.n) := by
        show some (if 0 ≤ y then _ else _) = _
        rw [if_neg hy]
      simp -implicitDefEqProofs [-List.getD_eq_getElem?_getD, startD, hk, hc]
    · have hk := ckaX_is (x := xs) (C := CTable) (cs := cs) (a := a) (.inr ⟨hin, rfl⟩)
      simp -implicitDefEqProofs [-List.getD_eq_getElem?_getD, startD, hk]
  · have ha0 : 0 ≤ a := by unfold bad1 at nb; omega
    have hy0 : 0 ≤ y := by unfold bad1 at nb; omega
    have hal : a < (cs.length : Int) := by unfold bad1 at nb; omega
    obtain ⟨a, rfl⟩ : ∃ m : Nat, a = m := ⟨a.toNat, by omega⟩
    obtain ⟨y, rfl⟩ : ∃ m : Nat, y = m := ⟨y.toNat, by omega⟩
    rw [Int.toNat_natCast, Int.toNat_natCast]
    have ha : a < cs.length := by omega
    have hk := ckaX_is (x := xs) (C := CTable) (cs := cs) (a := (a : Int)) (.inl ⟨⟨ha0, hal⟩, rfl⟩)
    have hy : ckyX xs [.int (y : Int)] = some (.ok .non) := by
      show some (if 0 ≤ (y : Int) then _ else _) = _
      rw [if_pos hy0]
    by_cases hl : cs.length ≤ a + y
    · have hl' : (cs.length : Int) ≤ (a : Int) + (y : Int) := by omega
      simp -implicitDefEqProofs [-List.getD_eq_getElem?_getD, startD, hk, hy, agesG_eq, hl', livesQ, hl]
    · have hl' : ¬ (cs.length : Int) ≤ (a : Int) + (y : Int) := by omega
      simp -implicitDefEqProofs [-List.getD_eq_getElem?_getD, startD, hk, hy, agesG_eq, hl', toI, sliceD]
      have ecut : cutD (cs.map P) (some (a : Int)) (some ((a : Int) + (y : Int))) = ((cs.drop a).take y).map P := by
        rw [cut_nat (α := Nat), List.length_map, show min a cs.length = a by omega, show min (a + y) cs.length - a = y by omega, ← List.map_drop, ← List.map_take]
      rw [ecut]
      generalize hqs : (cs.drop a).take y = qs
      have bq : ∀ q ∈ qs, Bd 14 q := fun q hq => by rw [← hqs] at hq; exact ok.2 q (List.mem_of_mem_drop (List.mem_of_mem_take hq))
      have lq : qs.length ≤ 20 := by rw [← hqs]; simp -implicitDefEqProofs [-List.getD_eq_getElem?_getD]; have := ok.1; omega
      have bp : ∀ n, Bd 330 (prodQ ((qs.map (1 - ·)).take n)) := fun n => by
        have z := prodQ_bd (b := 16) ((qs.map (1 - ·)).take n) 1 1 (Bd.one (by decide)) fun q hq => by
          obtain ⟨c, hc, rfl⟩ := List.mem_map.mp (List.mem_of_mem_take hq)
          exact one_sub_bd (bq c hc)
        refine z.mono ?_
        have : ((qs.map (1 - ·)).take n).length ≤ 20 := by simp -implicitDefEqProofs [-List.getD_eq_getElem?_getD]; omega
        have := Nat.mul_le_mul_right 16 this
        omega
      have eP : livesQ cs a y = prodQ (qs.map (1 - ·)) := by unfold livesQ; rw [if_neg hl, hqs]
      refine for_postX (fun i ρ => ∃ o, ρ = [some (tab CTable cs), some (.int a), some (.int y), some (P (prodQ ((qs.map (1 - ·)).take i))), o]) ⟨none, rfl⟩ (fun i d ρ hd zq1 => ?_) (fun ρ' zq2 => ?_)
      · obtain ⟨o, e⟩ := zq1
        subst e
        obtain ⟨c, ec, rfl⟩ := map_get hd
        have hb := bq c (List.mem_of_getElem? ec)
        have hls : lessG [P 1, P c] = some (P (1 - c)) := op2_eq ⟨Bd.one (by decide), hb.mono (by decide)⟩
        have htm : timesG [P (prodQ ((qs.map (1 - ·)).take i)), P (1 - c)] = some (P (prodQ ((qs.map (1 - ·)).take (i + 1)))) := by
          rw [prodQ_succ (qs := qs.map (1 - ·)) (q := 1 - c) (by rw [List.getElem?_map, ec]; rfl)]
          exact op2_eq ⟨(bp i).mono (by decide), (one_sub_bd hb).mono (by decide)⟩
        refine ⟨_, ?_, some (P c), rfl⟩
        simp -implicitDefEqProofs [-List.getD_eq_getElem?_getD, hls, htm]
      · obtain ⟨o, e⟩ := zq2
        subst e
        have et : (qs.map (1 - ·)).take qs.length = qs.map (1 - ·) := List.take_of_length_le (by simp -implicitDefEqProofs [-List.getD_eq_getElem?_getD])
        simp -implicitDefEqProofs [-List.getD_eq_getElem?_getD, et, eP]
abbrev s_both_live : Stmt := top 27
theorem sc_both_live : FnScope ["table", "one", "other", "years"] ["table", "one", "other", "years"] (defScope s_both_live) := ⟨rfl, rfl, rfl, by decide +kernel, rfl, by decide +kernel, by decide +kernel⟩
theorem fn_both_live (F : Fun K "both_live" "both_live" s_both_live f fd) (hm : mg "both_live" = some (.ref f)) (hb : Binds K fd ["table", "one", "other", "years"] []) (T_Table : ClTable K CTable) (f_times : Fn P' w K mg base 3 "times" ["one", "other"] timesG) (m_lives : MtX P' w K mg base 4 CTable "lives" ["self", "age", "years"] (livesB xs CTable)) : FnX P' w K mg base 5 "both_live" ["table", "one", "other", "years"] (twoX xs CTable) := by
  have sc := sc_both_live
  refine FnX.of F sc hm hb (fun ds d h => by obtain ⟨_, _, _, _, _, _, rfl, _⟩ := fnR_some h; rfl) fun cdv A outer s H E hr => ?_
  have hu := hr.units
  refine ⟨_, (pssd_one (psd_retX (px_callF f_times (hr.mono (by decide)) (pxa_cons (px_meth T_Table.cl m_lives (hr.mono (by decide)) (pd_var 0) (pxa_of (pad_cons (pd_var 1) (pad_cons (pd_var 3) pad_nil)))) (pxa_cons (px_meth T_Table.cl m_lives (hr.mono (by decide)) (pd_var 0) (pxa_of (pad_cons (pd_var 2) (pad_cons (pd_var 3) pad_nil)))) (pxa_of pad_nil)))))), ?_⟩
  intro ds d h
  obtain ⟨cs, a, b, y, ok, bad, rfl, rfl⟩ := fnR_some h
  by_cases b1 : bad1 cs a y
  · have h1 := livesB_no (x := xs) (C := CTable) ok b1
    simp -implicitDefEqProofs [-List.getD_eq_getElem?_getD, startD, h1]
  · have h1 := livesB_ok (x := xs) (C := CTable) ok b1
    have h2 := livesB_no (x := xs) (C := CTable) ok (bad.resolve_left b1)
    simp -implicitDefEqProofs [-List.getD_eq_getElem?_getD, startD, h1, h2]
abbrev s_either_lives : Stmt := top 28
theorem sc_either_lives : FnScope ["table", "one", "other", "years", "apart"] ["table", "one", "other", "years"] (defScope s_either_lives) := ⟨rfl, rfl, rfl, by decide +kernel, rfl, by decide +kernel, by decide +kernel⟩
theorem fn_either_lives (F : Fun K "either_lives" "either_lives" s_either_lives f fd) (hm : mg "either_lives" = some (.ref f)) (hb : Binds K fd ["table", "one", "other", "years"] []) (T_Table : ClTable K CTable) (f_plus : Fn P' w K mg base 3 "plus" ["one", "other"] plusG) (m_lives : MtX P' w K mg base 4 CTable "lives" ["self", "age", "years"] (livesB xs CTable)) : FnX P' w K mg base 5 "either_lives" ["table", "one", "other", "years"] (twoX xs CTable) := by
  have sc := sc_either_lives
  refine FnX.of F sc hm hb (fun ds d h => by obtain ⟨_, _, _, _, _, _, rfl, _⟩ := fnR_some h; rfl) fun cdv A outer s H E hr => ?_
  have hu := hr.units
  refine ⟨_, (pssd_cons (psd_setX 4 sc.nd (px_callF f_plus (hr.mono (by decide)) (pxa_cons (px_meth T_Table.cl m_lives (hr.mono (by decide)) (pd_var 0) (pxa_of (pad_cons (pd_var 1) (pad_cons (pd_var 3) pad_nil)))) (pxa_cons (px_meth T_Table.cl m_lives (hr.mono (by decide)) (pd_var 0) (pxa_of (pad_cons (pd_var 2) (pad_cons (pd_var 3) pad_nil)))) (pxa_of pad_nil)))))
    (pssd_one psd_never)), ?_⟩
  intro ds d h
  obtain ⟨cs, a, b, y, ok, bad, rfl, rfl⟩ := fnR_some h
  by_cases b1 : bad1 cs a y
  · have h1 := livesB_no (x := xs) (C := CTable) ok b1
    simp -implicitDefEqProofs [-List.getD_eq_getElem?_getD, startD, h1]
  · have h1 := livesB_ok (x := xs) (C := CTable) ok b1
    have h2 := livesB_no (x := xs) (C := CTable) ok (bad.resolve_left b1)
    simp -implicitDefEqProofs [-List.getD_eq_getElem?_getD, startD, h1, h2]
abbrev s_check_rate_ages_years : Stmt := top 29
theorem sc_check_rate_ages_years : FnScope ["table", "rate", "ages", "years", "age"] ["table", "rate", "ages", "years"] (defScope s_check_rate_ages_years) := ⟨rfl, rfl, rfl, by decide +kernel, rfl, by decide +kernel, by decide +kernel⟩
theorem fn_check_rate_ages_years (F : Fun K "check_rate_ages_years" "check_rate_ages_years" s_check_rate_ages_years f fd) (hm : mg "check_rate_ages_years" = some (.ref f)) (hb : Binds K fd ["table", "rate", "ages", "years"] []) (T_Table : ClTable K CTable) (f_check_rate : FnX P' w K mg base 1 "check_rate" ["rate"] (ckrX xs)) (f_check_years : FnX P' w K mg base 1 "check_years" ["years"] (ckyX xs)) (m_check_age : MtX P' w K mg base 2 CTable "check_age" ["self", "age"] (ckaX xs CTable)) : FnX P' w K mg base 3 "check_rate_ages_years" ["table", "rate", "ages", "years"] (cravX xs CTable) := by
  have sc := sc_check_rate_ages_years
  refine FnX.of F sc hm hb (fun ds d h => by obtain ⟨_, _, _, _, rfl, _⟩ := fnR_some h; rfl) fun cdv A outer s H E hr => ?_
  have hu := hr.units
  refine ⟨_, (pssd_cons (psd_exprX (px_call f_check_rate (hr.mono (by decide)) (pxa_of (pad_cons (pd_var 1) pad_nil))))
    (pssd_cons (psd_for (pid_list (pd_var 2)) (pgd_name 4 sc.nd) (pssd_one (psd_exprX (px_meth T_Table.cl m_check_age (hr.mono (by decide)) (pd_var 0) (pxa_of (pad_cons (pd_var 4) pad_nil))))) (hp := PassesOwn.leaving))
    (pssd_one (psd_exprX (px_call f_check_years (hr.mono (by decide)) (pxa_of (pad_cons (pd_var 3) pad_nil))))))), ?_⟩
  intro ds d h
  obtain ⟨cs, p, as, y, rfl, hd⟩ := fnR_some h
  have hk := ckrX_eq (x := xs) (p := p)
  rcases hd with ⟨nr, rfl⟩ | ⟨hr0, bad, rfl⟩
  · rw [if_neg nr] at hk
    simp -implicitDefEqProofs [-List.getD_eq_getElem?_getD, startD, hk]
  · rw [if_pos hr0] at hk
    simp -implicitDefEqProofs [-List.getD_eq_getElem?_getD, startD, hk]
    refine for_thenX (C := xs.n) (fun i ρ => ∃ o, ρ = [some (tab CTable cs), some (pr p), some (.lst (as.map D.int)), some (.int y), o]) (fun i => ∀ a, as[i]? = some a → 0 ≤ a ∧ a < (cs.length : Int)) ⟨none, rfl⟩ (fun i d ρ hd zq1 => ?_) (fun ρ' hall zq2 => ?_) (fun _ => rfl)
    · obtain ⟨o, e⟩ := zq1
      subst e
      obtain ⟨a, ea, rfl⟩ := map_get hd
      by_cases hin : 0 ≤ a ∧ a < (cs.length : Int)
      · have hc := ckaX_is (x := xs) (C := CTable) (cs := cs) (a := a) (.inl ⟨hin, rfl⟩)
        refine .inl ⟨fun a' e' => by rw [ea] at e'; cases e'; exact hin, _, ?_, some (.int a), rfl⟩
        simp -implicitDefEqProofs [-List.getD_eq_getElem?_getD, hc]
      · have hc := ckaX_is (x := xs) (C := CTable) (cs := cs) (a := a) (.inr ⟨hin, rfl⟩)
        refine .inr ⟨fun z => hin (z a ea), [some (tab CTable cs), some (pr p), some (.lst (as.map D.int)), some (.int y), some (.int a)], ?_⟩
        simp -implicitDefEqProofs [-List.getD_eq_getElem?_getD, hc]
    · obtain ⟨o, e⟩ := zq2
      subst e
      have hy : ¬ 0 ≤ y := by
        rcases bad with ⟨a, hm, hno⟩ | z
        · obtain ⟨j, hj⟩ := List.mem_iff_getElem?.mp hm
          have hjl : j < as.length := (List.getElem?_eq_some_iff.mp hj).1
          exact absurd (hall j (by simpa using hjl) a hj) hno
        · omega
      have hc : ckyX xs [.int y] = some (.error xs.n) := by
        show some (if 0 ≤ y then _ else _) = _
        rw [if_neg hy]
      simp -implicitDefEqProofs [-List.getD_eq_getElem?_getD, hc]
abbrev s_paid : Stmt := top 31
theorem sc_paid : FnScope ["table", "rate", "age", "years"] ["table", "rate", "age", "years"] (defScope s_paid) := ⟨rfl, rfl, rfl, by decide +kernel, rfl, by decide +kernel, by decide +kernel⟩
theorem fn_paid (F : Fun K "paid" "paid" s_paid f fd) (hm : mg "paid" = some (.ref f)) (hb : Binds K fd ["table", "rate", "age", "years"] []) (f_check_rate_ages_years : FnX P' w K mg base 3 "check_rate_ages_years" ["table", "rate", "ages", "years"] (cravX xs CTable)) : FnX P' w K mg base 4 "paid" ["table", "rate", "age", "years"] (paid1X xs CTable) := by
  have sc := sc_paid
  refine FnX.of F sc hm hb (fun ds d h => by obtain ⟨_, _, _, _, rfl, _⟩ := fnR_some h; rfl) fun cdv A outer s H E hr => ?_
  have hu := hr.units
  refine ⟨_, (pssd_cons (psd_exprX (px_call f_check_rate_ages_years (hr.mono (by decide)) (pxa_of (pad_cons (pd_var 0) (pad_cons (pd_var 1) (pad_cons (pd_lst (pad_cons (pd_var 2) pad_nil)) (pad_cons (pd_var 3) pad_nil)))))))
    (pssd_one psd_never)), ?_⟩
  intro ds d h
  obtain ⟨cs, p, a, y, rfl, hd⟩ := fnR_some h
  have hd' : rOrN xs p ((∃ z ∈ [a], ¬ (0 ≤ z ∧ z < (cs.length : Int))) ∨ y < 0) d := by
    rcases hd with hd | ⟨h1, h2, h3⟩
    · exact .inl hd
    · exact .inr ⟨h1, h2.imp (fun z => ⟨a, by simp, z⟩) id, h3⟩
  have hc := cravX_is (x := xs) (C := CTable) hd'
  simp -implicitDefEqProofs only [List.map_cons, List.map_nil] at hc
  rcases hd with ⟨_, rfl⟩ | ⟨_, _, rfl⟩ <;> simp -implicitDefEqProofs [-List.getD_eq_getElem?_getD, startD, capD, hc]
abbrev s_paid_both : Stmt := top 32
theorem sc_paid_both : FnScope ["table", "rate", "one", "other", "years"] ["table", "rate", "one", "other", "years"] (defScope s_paid_both) := ⟨rfl, rfl, rfl, by decide +kernel, rfl, by decide +kernel, by decide +kernel⟩
theorem fn_paid_both (F : Fun K "paid_both" "paid_both" s_paid_both f fd) (hm : mg "paid_both" = some (.ref f)) (hb : Binds K fd ["table", "rate", "one", "other", "years"] []) (f_check_rate_ages_years : FnX P' w K mg base 3 "check_rate_ages_years" ["table", "rate", "ages", "years"] (cravX xs CTable)) : FnX P' w K mg base 4 "paid_both" ["table", "rate", "one", "other", "years"] (paid2X xs CTable) := by
  have sc := sc_paid_both
  refine FnX.of F sc hm hb (fun ds d h => by obtain ⟨_, _, _, _, _, rfl, _⟩ := fnR_some h; rfl) fun cdv A outer s H E hr => ?_
  have hu := hr.units
  refine ⟨_, (pssd_cons (psd_exprX (px_call f_check_rate_ages_years (hr.mono (by decide)) (pxa_of (pad_cons (pd_var 0) (pad_cons (pd_var 1) (pad_cons (pd_lst (pad_cons (pd_var 2) (pad_cons (pd_var 3) pad_nil))) (pad_cons (pd_var 4) pad_nil)))))))
    (pssd_one psd_never)), ?_⟩
  intro ds d h
  obtain ⟨cs, p, a, b, y, rfl, hd⟩ := fnR_some h
  have hd' : rOrN xs p ((∃ z ∈ [a, b], ¬ (0 ≤ z ∧ z < (cs.length : Int))) ∨ y < 0) d := by
    rcases hd with hd | ⟨h1, h2, h3⟩
    · exact .inl hd
    · refine .inr ⟨h1, ?_, h3⟩
      rcases h2 with (z | z) | (z | z)
      · exact .inl ⟨a, by simp, z⟩
      · exact .inr z
      · exact .inl ⟨b, by simp, z⟩
      · exact .inr z
  have hc := cravX_is (x := xs) (C := CTable) hd'
  simp -implicitDefEqProofs only [List.map_cons, List.map_nil] at hc
  rcases hd with ⟨_, rfl⟩ | ⟨_, _, rfl⟩ <;> simp -implicitDefEqProofs [-List.getD_eq_getElem?_getD, startD, capD, hc]
abbrev s_paid_either : Stmt := top 33
theorem sc_paid_either : FnScope ["table", "rate", "one", "other", "years"] ["table", "rate", "one", "other", "years"] (defScope s_paid_either) := ⟨rfl, rfl, rfl, by decide +kernel, rfl, by decide +kernel, by decide +kernel⟩
theorem fn_paid_either (F : Fun K "paid_either" "paid_either" s_paid_either f fd) (hm : mg "paid_either" = some (.ref f)) (hb : Binds K fd ["table", "rate", "one", "other", "years"] []) (f_check_rate_ages_years : FnX P' w K mg base 3 "check_rate_ages_years" ["table", "rate", "ages", "years"] (cravX xs CTable)) : FnX P' w K mg base 4 "paid_either" ["table", "rate", "one", "other", "years"] (paid2X xs CTable) := by
  have sc := sc_paid_either
  refine FnX.of F sc hm hb (fun ds d h => by obtain ⟨_, _, _, _, _, rfl, _⟩ := fnR_some h; rfl) fun cdv A outer s H E hr => ?_
  have hu := hr.units
  refine ⟨_, (pssd_cons (psd_exprX (px_call f_check_rate_ages_years (hr.mono (by decide)) (pxa_of (pad_cons (pd_var 0) (pad_cons (pd_var 1) (pad_cons (pd_lst (pad_cons (pd_var 2) (pad_cons (pd_var 3) pad_nil))) (pad_cons (pd_var 4) pad_nil)))))))
    (pssd_one psd_never)), ?_⟩
  intro ds d h
  obtain ⟨cs, p, a, b, y, rfl, hd⟩ := fnR_some h
  have hd' : rOrN xs p ((∃ z ∈ [a, b], ¬ (0 ≤ z ∧ z < (cs.length : Int))) ∨ y < 0) d := by
    rcases hd with hd | ⟨h1, h2, h3⟩
    · exact .inl hd
    · refine .inr ⟨h1, ?_, h3⟩
      rcases h2 with (z | z) | (z | z)
      · exact .inl ⟨a, by simp, z⟩
      · exact .inr z
      · exact .inl ⟨b, by simp, z⟩
      · exact .inr z
  have hc := cravX_is (x := xs) (C := CTable) hd'
  simp -implicitDefEqProofs only [List.map_cons, List.map_nil] at hc
  rcases hd with ⟨_, rfl⟩ | ⟨_, _, rfl⟩ <;> simp -implicitDefEqProofs [-List.getD_eq_getElem?_getD, startD, capD, hc]
abbrev s_law_cell_at : Stmt := top 35
theorem sc_law_cell_at : FnScope ["script", "k"] ["script", "k"] (defScope s_law_cell_at) := ⟨rfl, rfl, rfl, by decide +kernel, rfl, by decide +kernel, by decide +kernel⟩
theorem fn_law_cell_at (F : Fun K "_law_cell_at" "_law_cell_at" s_law_cell_at f fd) (hm : mg "_law_cell_at" = some (.ref f)) (hb : Binds K fd ["script", "k"] []) (B : Nob mg) : Fn P' w K mg base 1 "_law_cell_at" ["script", "k"] cellG := by
  have sc := sc_law_cell_at
  refine Fn.of F sc hm hb (fun ds d h => by obtain ⟨ns, k, rfl, _⟩ := cellG_some h; rfl) fun cdv A outer s H E hr => ?_
  have hu := hr.units
  refine ⟨_, (pssd_cons (psd_if (pt_d_cmp c_lt (pd_var 1) (pd_len B.len (pad_cons (pd_var 0) pad_nil))) (pssd_one (psd_ret (pd_ix (pd_var 0) (pd_var 1)))) pssd_nil)
    (pssd_one (psd_ret pd_int))), ?_⟩
  intro ds d h
  obtain ⟨ns, k, rfl, hk, rfl⟩ := cellG_some h
  by_cases hl : k < ns.length
  · simp -implicitDefEqProofs [-List.getD_eq_getElem?_getD, startD, hl, ixD_scr hk hl]
  · simp -implicitDefEqProofs [-List.getD_eq_getElem?_getD, startD, hl, cell_out (show (ns.length : Int) ≤ k by omega)]
abbrev s_law_draw : Stmt := top 36
theorem sc_law_draw : FnScope ["script", "k"] ["script", "k"] (defScope s_law_draw) := ⟨rfl, rfl, rfl, by decide +kernel, rfl, by decide +kernel, by decide +kernel⟩
theorem fn_law_draw (F : Fun K "_law_draw" "_law_draw" s_law_draw f fd) (hm : mg "_law_draw" = some (.ref f)) (hb : Binds K fd ["script", "k"] []) (f_law_cell_at : Fn P' w K mg base 1 "_law_cell_at" ["script", "k"] cellG) : Fn P' w K mg base 2 "_law_draw" ["script", "k"] drawG := by
  have sc := sc_law_draw
  refine Fn.of F sc hm hb (fun ds d h => by obtain ⟨ns, k, rfl, _⟩ := drawG_some h; rfl) fun cdv A outer s H E hr => ?_
  have hu := hr.units
  refine ⟨_, (pssd_one (psd_ret (pd_mod (pd_mul (pd_add (pd_call f_law_cell_at (hr.mono (by decide)) (pad_cons (pd_var 0) (pad_cons (pd_mod (pd_var 1) pd_int) pad_nil))) (pd_mul pd_int (pd_var 1))) (pd_add pd_int (pd_mul pd_int (pd_var 1)))) pd_int))), ?_⟩
  intro ds d h
  obtain ⟨ns, k, rfl, hk, hk2, rfl⟩ := drawG_some h
  have e1 : k.fmod 61 = k % 61 := Int.fmod_eq_emod_of_nonneg _ (by decide)
  have hc := cellG_eq (ns := ns) (k := k % 61) (Int.emod_nonneg _ (by decide))
  have m1 : IntMulOk 7919 k := mulOk_l (by decide)
  have m2 : IntMulOk 2 k := mulOk_l (by decide)
  have m3 : IntMulOk (cell ns (k % 61) + 7919 * k) (48271 + 2 * k) := mulOk_r (by unfold lb; omega)
  have e2 : ((cell ns (k % 61) + 7919 * k) * (48271 + 2 * k)).fmod 2147483647 = draw ns k := Int.fmod_eq_emod_of_nonneg _ (by decide)
  simp -implicitDefEqProofs [-List.getD_eq_getElem?_getD, startD, e1, hc, mulD_int m1, mulD_int m2, mulD_int m3, e2]
abbrev s_law_chances : Stmt := top 42
theorem sc_law_chances : FnScope ["script", "mode", "many", "chances", "k", "under"] ["script"] (defScope s_law_chances) := ⟨rfl, rfl, rfl, by decide +kernel, rfl, by decide +kernel, by decide +kernel⟩
theorem fn_law_chances (F : Fun K "_law_chances" "_law_chances" s_law_chances f fd) (hm : mg "_law_chances" = some (.ref f)) (hb : Binds K fd ["script"] []) (B : Nob mg) (f_law_draw : Fn P' w K mg base 2 "_law_draw" ["script", "k"] drawG) : Fn P' w K mg base 3 "_law_chances" ["script"] chancesG := by
  have sc := sc_law_chances
  refine Fn.of F sc hm hb (fun ds d h => by obtain ⟨ns, rfl, _⟩ := chancesG_some h; rfl) fun cdv A outer s H E hr => ?_
  have hu := hr.units
  refine ⟨_, (pssd_cons (psd_set 1 sc.nd (pd_mod (pd_call f_law_draw (hr.mono (by decide)) (pad_cons (pd_var 0) (pad_cons pd_int pad_nil))) pd_int))
    (pssd_cons (psd_set 2 sc.nd (pd_add pd_int (pd_mod (pd_call f_law_draw (hr.mono (by decide)) (pad_cons (pd_var 0) (pad_cons pd_int pad_nil))) (pd_ix (pd_lst (pad_cons pd_int (pad_cons pd_int (pad_cons pd_int (pad_cons pd_int (pad_cons pd_int (pad_cons pd_int (pad_cons pd_int (pad_cons pd_int pad_nil))))))))) (pd_var 1)))))
    (pssd_cons (psd_own 3 sc.nd (pf_lst pad_nil))
    (pssd_cons (psd_for (pid_range1 B.range (pad_cons (pd_var 2) pad_nil)) (pgd_name 4 sc.nd) (pssd_cons (psd_set 5 sc.nd (pd_add pd_int (pd_mod (pd_call f_law_draw (hr.mono (by decide)) (pad_cons (pd_var 0) (pad_cons (pd_add pd_int (pd_var 4)) pad_nil))) (pd_ix (pd_lst (pad_cons pd_int (pad_cons pd_int (pad_cons pd_int (pad_cons pd_int (pad_cons pd_int (pad_cons pd_int (pad_cons pd_int (pad_cons pd_int pad_nil))))))))) (pd_var 1)))))
    (pssd_one (psd_append 3 (pd_tup (pad_cons (pd_mod (pd_call f_law_draw (hr.mono (by decide)) (pad_cons (pd_var 0) (pad_cons (pd_add pd_int (pd_var 4)) pad_nil))) (pd_var 5)) (pad_cons (pd_var 5) pad_nil)))))))
    (pssd_freeze 3 (pssd_one (psd_ret (pd_add (pd_slice (pd_var 3) po_d_none (po_d_some (pd_neg pd_int))) (pd_lst (pad_cons (pd_tup (pad_cons (pd_ix (pd_ix (pd_var 3) (pd_neg pd_int)) pd_int) (pad_cons (pd_ix (pd_ix (pd_var 3) (pd_neg pd_int)) pd_int) pad_nil))) pad_nil)))))))))), ?_⟩
  intro ds d h
  obtain ⟨ns, rfl, hns, rfl⟩ := chancesG_some h
  have d3 := drawG_eq (ns := ns) (k := 3) (by decide) (by decide)
  have d1 := drawG_eq (ns := ns) (k := 1) (by decide) (by decide)
  have f8 : ∀ a : Int, a.fmod 8 = a % 8 := fun a => Int.fmod_eq_emod_of_nonneg _ (by decide)
  obtain ⟨m0, m1⟩ := modeV_ok ns
  have x1 := sel1_ix m0 m1
  have x2 := sel2_ix m0 m1
  have s1 := sel1_ok (modeV ns)
  have s2 := sel2_ok (modeV ns)
  have hs1 : sel1 (modeV ns) ≠ 0 := by omega
  have hs2 : sel2 (modeV ns) ≠ 0 := by omega
  have g1 : ∀ a : Int, a.fmod (sel1 (modeV ns)) = a % sel1 (modeV ns) := fun a => Int.fmod_eq_emod_of_nonneg _ (by omega)
  have g2 : ∀ a : Int, a.fmod (sel2 (modeV ns)) = a % sel2 (modeV ns) := fun a => Int.fmod_eq_emod_of_nonneg _ (by omega)
  obtain ⟨h1, h2, h3⟩ := manyV_ok ns
  have hR := rng1_eq h2.symm (by omega)
  have em : draw ns 3 % 8 = modeV ns := rfl
  simp -implicitDefEqProofs [-List.getD_eq_getElem?_getD, startD, d3, d1, f8, em, capD, x1, g1, hs1, ← h2]
  rw [show rng1D [.int (manyV ns : Int)] = some (rngD 0 (manyV ns)) from rng1_eq rfl (by omega)]
  simp -implicitDefEqProofs [-List.getD_eq_getElem?_getD]
  refine for_post (fun i ρ => ∃ o o', ρ = [some (.scr ns), some (.int (modeV ns)), some (.int (manyV ns)), some (.own ((List.range i).map fun k => pr (rawV ns k))), o, o']) ⟨none, none, rfl⟩ (fun i d ρ hd zq1 => ?_) (fun ρ' zq2 => ?_)
  · obtain ⟨o, o', e⟩ := zq1
    subst e
    unfold rngD at hd
    obtain ⟨j, ej, rfl⟩ := map_get hd
    have hi : i < manyV ns := by
      have := (List.getElem?_eq_some_iff.mp ej).1
      simpa using this
    rw [List.getElem?_range hi] at ej
    cases ej
    have dA := drawG_eq (ns := ns) (k := 10 + (i : Int)) (by omega) (by omega)
    have dB := drawG_eq (ns := ns) (k := 31 + (i : Int)) (by omega) (by omega)
    have hu := undV_ok ns i
    have hu0 : undV ns i ≠ 0 := by omega
    have eu : 1 + draw ns (10 + (i : Int)) % sel2 (modeV ns) = undV ns i := rfl
    have g3 : ∀ a : Int, a.fmod (undV ns i) = a % undV ns i := fun a => Int.fmod_eq_emod_of_nonneg _ (by omega)
    have hlen : i < 1000 := by omega
    refine ⟨_, ?_, some (.int (0 + (i : Int))), some (.int (undV ns i)), rfl⟩
    simp -implicitDefEqProofs [-List.getD_eq_getElem?_getD, dA, dB, capD, x2, g2, hs2, eu, hu0, g3, hlen, List.range_succ, rawV, pr]
  · obtain ⟨o, o', e⟩ := zq2
    subst e
    rw [rngD_len]
    obtain ⟨n, en⟩ : ∃ n, manyV ns = n + 1 := ⟨manyV ns - 1, by omega⟩
    have eL : (List.range (manyV ns)).map (fun k => pr (rawV ns k)) = (List.range n).map (fun k => pr (rawV ns k)) ++ [pr (rawV ns n)] := by rw [en, List.range_succ, List.map_append]; rfl
    have eC : (chancesV ns).map pr = (List.range n).map (fun k => pr (rawV ns k)) ++ [.tup [.int (undV ns n), .int (undV ns n)]] := by
      unfold chancesV
      rw [en, Nat.add_sub_cancel, List.map_append, List.map_map]
      rfl
    have hn : n + 1 ≤ 1000 := by omega
    have q1 : ixD (pr (rawV ns n)) (.int 1) = some (.int (undV ns n)) := ixD_pr1
    rw [eL, eC]
    simp -implicitDefEqProofs [-List.getD_eq_getElem?_getD, freezeE, toI, sliceD, cut_last, atI_last, q1, addD, hn]
abbrev s_law_rate : Stmt := top 43
theorem sc_law_rate : FnScope ["script", "under"] ["script"] (defScope s_law_rate) := ⟨rfl, rfl, rfl, by decide +kernel, rfl, by decide +kernel, by decide +kernel⟩
theorem fn_law_rate (F : Fun K "_law_rate" "_law_rate" s_law_rate f fd) (hm : mg "_law_rate" = some (.ref f)) (hb : Binds K fd ["script"] []) (f_law_draw : Fn P' w K mg base 2 "_law_draw" ["script", "k"] drawG) : Fn P' w K mg base 3 "_law_rate" ["script"] rateG := by
  have sc := sc_law_rate
  refine Fn.of F sc hm hb (fun ds d h => by obtain ⟨ns, rfl, _⟩ := rateG_some h; rfl) fun cdv A outer s H E hr => ?_
  have hu := hr.units
  refine ⟨_, (pssd_cons (psd_set 1 sc.nd (pd_add pd_int (pd_mod (pd_call f_law_draw (hr.mono (by decide)) (pad_cons (pd_var 0) (pad_cons pd_int pad_nil))) pd_int)))
    (pssd_cons (psd_if (pt_d_w (pw_d_and (pt_d_cmp (c_eq hu) (pd_mod (pd_call f_law_draw (hr.mono (by decide)) (pad_cons (pd_var 0) (pad_cons pd_int pad_nil))) pd_int) pd_int) (pw_d_and1 (pt_d_cmp c_lt (pd_mod (pd_call f_law_draw (hr.mono (by decide)) (pad_cons (pd_var 0) (pad_cons pd_int pad_nil))) pd_int) pd_int)))) (pssd_one (psd_set 1 sc.nd (pd_add pd_int (pd_mod (pd_call f_law_draw (hr.mono (by decide)) (pad_cons (pd_var 0) (pad_cons pd_int pad_nil))) pd_int)))) pssd_nil)
    (pssd_one (psd_ret (pd_tup (pad_cons (pd_add pd_int (pd_mod (pd_call f_law_draw (hr.mono (by decide)) (pad_cons (pd_var 0) (pad_cons pd_int pad_nil))) (pd_var 1))) (pad_cons (pd_var 1) pad_nil))))))), ?_⟩
  intro ds d h
  obtain ⟨ns, rfl, hns, rfl⟩ := rateG_some h
  have d3 := drawG_eq (ns := ns) (k := 3) (by decide) (by decide)
  have d4 := drawG_eq (ns := ns) (k := 4) (by decide) (by decide)
  have d5 := drawG_eq (ns := ns) (k := 5) (by decide) (by decide)
  have d6 := drawG_eq (ns := ns) (k := 6) (by decide) (by decide)
  have f8 : ∀ a : Int, a.fmod 8 = a % 8 := fun a => Int.fmod_eq_emod_of_nonneg _ (by decide)
  have f20 : ∀ a : Int, a.fmod 20 = a % 20 := fun a => Int.fmod_eq_emod_of_nonneg _ (by decide)
  have f4 : ∀ a : Int, a.fmod 10000 = a % 10000 := fun a => Int.fmod_eq_emod_of_nonneg _ (by decide)
  have hu := rundV_ok ns
  have fu : ∀ a : Int, a.fmod (rundV ns) = a % rundV ns := fun a => Int.fmod_eq_emod_of_nonneg _ (by omega)
  have hu0 : rundV ns ≠ 0 := by omega
  by_cases c1 : draw ns 5 % 8 = 1 <;> by_cases c2 : draw ns 3 % 8 < 3
  · have eu : rundV ns = 1 + draw ns 4 % 10000 := if_pos ⟨c1, c2⟩
    simp -implicitDefEqProofs [-List.getD_eq_getElem?_getD, startD, d3, d4, d5, d6, f8, f20, f4, c1, c2, ← eu, fu, hu0, rateV, pr]
  · have eu : rundV ns = 1 + draw ns 4 % 20 := if_neg fun z => c2 z.2
    simp -implicitDefEqProofs [-List.getD_eq_getElem?_getD, startD, d3, d4, d5, d6, f8, f20, f4, c1, c2, ← eu, fu, hu0, rateV, pr]
  · have eu : rundV ns = 1 + draw ns 4 % 20 := if_neg fun z => c1 z.1
    simp -implicitDefEqProofs [-List.getD_eq_getElem?_getD, startD, d3, d4, d5, d6, f8, f20, f4, c1, c2, ← eu, fu, hu0, rateV, pr]
  · have eu : rundV ns = 1 + draw ns 4 % 20 := if_neg fun z => c1 z.1
    simp -implicitDefEqProofs [-List.getD_eq_getElem?_getD, startD, d3, d4, d5, d6, f8, f20, f4, c1, c2, ← eu, fu, hu0, rateV, pr]
abbrev s_law_alone : Stmt := top 44
theorem sc_law_alone : FnScope ["e", "found"] ["e"] (defScope s_law_alone) := ⟨rfl, rfl, rfl, by decide +kernel, rfl, by decide +kernel, by decide +kernel⟩
theorem fn_law_alone (F : Fun K "_law_alone" "_law_alone" s_law_alone f fd) (hm : mg "_law_alone" = some (.ref f)) (hb : Binds K fd ["e"] []) (B : Nob mg) (xo : ExsOk K xs CP) (q_BadCount : mg "BadCount" = some (.ref xs.c)) (q_BadPledge : mg "BadPledge" = some (.ref xs.p)) (q_BadRate : mg "BadRate" = some (.ref xs.r)) (q_BadTable : mg "BadTable" = some (.ref xs.t)) (q_NoYear : mg "NoYear" = some (.ref xs.n)) (q_PledgeError : mg "PledgeError" = some (.ref CP)) : Fn P' w K mg base 1 "_law_alone" ["e"] (aloneG xs) := by
  have sc := sc_law_alone
  refine Fn.of F sc hm hb (fun ds d h => by obtain ⟨C, k, _, _, rfl, _⟩ := fnR_some h; rfl) fun cdv A outer s H E hr => ?_
  have hu := hr.units
  refine ⟨_, (pssd_cons (psd_set 1 sc.nd (pd_lst (pad_cons (pd_isx B.isinstance q_BadTable (xo.ib xs.ht) (pd_var 0)) (pad_cons (pd_isx B.isinstance q_BadRate (xo.ib xs.hr) (pd_var 0)) (pad_cons (pd_isx B.isinstance q_BadPledge (xo.ib xs.hp) (pd_var 0)) (pad_cons (pd_isx B.isinstance q_NoYear (xo.ib xs.hn) (pd_var 0)) pad_nil))))))
    (pssd_cons (psd_set 1 sc.nd (pd_add (pd_var 1) (pd_lst (pad_cons (pd_isx B.isinstance q_BadCount (xo.ib xs.hc) (pd_var 0)) pad_nil))))
    (pssd_cons (psd_if (pt_d_w (pw_d_or (pt_d_not (pt_d_val (pd_isx B.isinstance q_PledgeError xo.ip (pd_var 0)))) (pw_d_or (pt_d_not (pt_d_val (pd_isxB B.isinstance B.ValueError PyProof.Rows.Boot.«ValueError» xo.iv (pd_var 0)))) (pw_d_or1 (pt_d_cmp (c_ne hu) (pd_count (pd_var 1) (pad_cons pd_bl pad_nil)) pd_int))))) (pssd_one (psd_ret (pd_neg pd_int))) pssd_nil)
    (pssd_one (psd_ret (pd_index (pd_var 1) (pad_cons pd_bl pad_nil))))))), ?_⟩
  intro ds d h
  obtain ⟨C, k, hk, nd, rfl, rfl⟩ := fnR_some h
  have hC : C ∈ xs.l := List.mem_of_getElem? hk
  simp -implicitDefEqProofs only [Exs.l, List.nodup_cons, List.mem_cons, List.not_mem_nil, or_false, not_or, not_false_eq_true, List.nodup_nil, and_true] at nd
  obtain ⟨⟨n1, n2, n3, n4⟩, ⟨n5, n6, n7⟩, ⟨n8, n9⟩, n0⟩ := nd
  have hl : k < 5 := (List.getElem?_eq_some_iff.mp hk).1
  have m1 := Ne.symm n1
  have m2 := Ne.symm n2
  have m3 := Ne.symm n3
  have m4 := Ne.symm n4
  have m5 := Ne.symm n5
  have m6 := Ne.symm n6
  have m7 := Ne.symm n7
  have m8 := Ne.symm n8
  have m9 := Ne.symm n9
  have m0 := Ne.symm n0
  have hk' : [xs.t, xs.r, xs.p, xs.n, xs.c][k]? = some C := hk
  rcases k with _ | _ | _ | _ | _ | k
  case succ.succ.succ.succ.succ => omega
  all_goals
    simp -implicitDefEqProofs [-List.getD_eq_getElem?_getD] at hk'
    subst hk'
    simp -implicitDefEqProofs [-List.getD_eq_getElem?_getD, startD, isxD_is hC, isxD_any hC, capD, addD_ll, countD_l, indexD_l, blsD, firstD, n1, n2, n3, n4, n5, n6, n7, n8, n9, n0, m1, m2, m3, m4, m5, m6, m7, m8, m9, m0]
abbrev s_law_refused : Stmt := top 45
theorem sc_law_refused : FnScope ["call", "table", "rate", "one", "other", "years", "found", "e"] ["call", "table", "rate", "one", "other", "years"] (defScope s_law_refused) := ⟨rfl, rfl, rfl, by decide +kernel, rfl, by decide +kernel, by decide +kernel⟩
theorem fn_law_refused (F : Fun K "_law_refused" "_law_refused" s_law_refused f fd) (hm : mg "_law_refused" = some (.ref f)) (hb : Binds K fd ["call", "table", "rate", "one", "other", "years"] []) (f_both_live : FnX P' w K mg base 5 "both_live" ["table", "one", "other", "years"] (twoX xs CTable)) (f_either_lives : FnX P' w K mg base 5 "either_lives" ["table", "one", "other", "years"] (twoX xs CTable)) (f_paid : FnX P' w K mg base 4 "paid" ["table", "rate", "age", "years"] (paid1X xs CTable)) (f_paid_both : FnX P' w K mg base 4 "paid_both" ["table", "rate", "one", "other", "years"] (paid2X xs CTable)) (f_paid_either : FnX P' w K mg base 4 "paid_either" ["table", "rate", "one", "other", "years"] (paid2X xs CTable)) (f_law_alone : Fn P' w K mg base 1 "_law_alone" ["e"] (aloneG xs)) (xo : ExsOk K xs CP) (q_PledgeError : mg "PledgeError" = some (.ref CP)) : Fn P' w K mg base 6 "_law_refused" ["call", "table", "rate", "one", "other", "years"] (ref16G xs CTable) := by
  have sc := sc_law_refused
  refine Fn.of F sc hm hb (fun ds d h => by obtain ⟨_, _, _, _, _, _, _, _, rfl, _⟩ := fnR_some h; rfl) fun cdv A outer s H E hr => ?_
  have hu := hr.units
  refine ⟨_, (pssd_cons (psd_set 6 sc.nd pd_non)
    (pssd_cons (psd_try 7 xs.mt sc.nd xo.mts q_PledgeError (fun pn xe => (pssd_cons (psd_if (pt_d_cmp (c_eq hu) (pd_var 0) pd_int) (pssd_one (psd_exprX (px_call f_both_live (hr.mono (by decide)) (pxa_of (pad_cons (pd_var 1) (pad_cons (pd_var 3) (pad_cons (pd_var 4) (pad_cons (pd_var 5) pad_nil)))))))) pssd_nil)
    (pssd_cons (psd_if (pt_d_cmp (c_eq hu) (pd_var 0) pd_int) (pssd_one (psd_exprX (px_call f_either_lives (hr.mono (by decide)) (pxa_of (pad_cons (pd_var 1) (pad_cons (pd_var 3) (pad_cons (pd_var 4) (pad_cons (pd_var 5) pad_nil)))))))) pssd_nil)
    (pssd_cons (psd_if (pt_d_cmp (c_eq hu) (pd_var 0) pd_int) (pssd_one (psd_exprX (px_call f_paid_both (hr.mono (by decide)) (pxa_of (pad_cons (pd_var 1) (pad_cons (pd_var 2) (pad_cons (pd_var 3) (pad_cons (pd_var 4) (pad_cons (pd_var 5) pad_nil))))))))) pssd_nil)
    (pssd_cons (psd_if (pt_d_cmp (c_eq hu) (pd_var 0) pd_int) (pssd_one (psd_exprX (px_call f_paid_either (hr.mono (by decide)) (pxa_of (pad_cons (pd_var 1) (pad_cons (pd_var 2) (pad_cons (pd_var 3) (pad_cons (pd_var 4) (pad_cons (pd_var 5) pad_nil))))))))) pssd_nil)
    (pssd_cons (psd_if (pt_d_cmp (c_eq hu) (pd_var 0) pd_int) (pssd_one (psd_exprX (px_call f_paid (hr.mono (by decide)) (pxa_of (pad_cons (pd_var 1) (pad_cons (pd_var 2) (pad_cons (pd_var 3) (pad_cons (pd_var 5) pad_nil)))))))) pssd_nil)
    (pssd_one (psd_if (pt_d_cmp (c_eq hu) (pd_var 0) pd_int) (pssd_one (psd_exprX (px_call f_paid (hr.mono (by decide)) (pxa_of (pad_cons (pd_var 1) (pad_cons (pd_var 2) (pad_cons (pd_var 4) (pad_cons (pd_var 5) pad_nil)))))))) pssd_nil)))))))) (fun A xe => (pssd_one (psd_set 6 sc.nd (pd_var 7)))))
    (pssd_one (psd_ret (pd_call f_law_alone (hr.mono (by decide)) (pad_cons (pd_var 6) pad_nil)))))), ?_⟩
  intro ds d h
  obtain ⟨k, cs, p, a, b, y, ⟨nd, ok, k0, k5⟩, bad, rfl, rfl⟩ := fnR_some h
  have al3 := aloneG_eq nd (show xs.l[3]? = some xs.n from rfl)
  have al1 := aloneG_eq nd (show xs.l[1]? = some xs.r from rfl)
  have hm3 : xs.mt xs.n = true := decide_eq_true xs.hn
  have hm1 : xs.mt xs.r = true := decide_eq_true xs.hr
  unfold bad16 at bad
  rcases (show k = 0 ∨ k = 1 ∨ k = 2 ∨ k = 3 ∨ k = 4 ∨ k = 5 by omega) with rfl | rfl | rfl | rfl | rfl | rfl
  · have hx := twoX_eq (x := xs) (C := CTable) ok (by simpa using bad)
    simp -implicitDefEqProofs [-List.getD_eq_getElem?_getD, startD, hx, tryO, hm3, al3, due16]
  · have hx := twoX_eq (x := xs) (C := CTable) ok (by simpa using bad)
    simp -implicitDefEqProofs [-List.getD_eq_getElem?_getD, startD, hx, tryO, hm3, al3, due16]
  · by_cases hr0 : rateOk p
    · have hx := paid2X_is (x := xs) (C := CTable) (p := p) (.inr ⟨hr0, by simpa using bad, rfl⟩)
      simp -implicitDefEqProofs [-List.getD_eq_getElem?_getD, startD, hx, tryO, hm3, al3, due16, hr0]
    · have hx := paid2X_is (x := xs) (C := CTable) (p := p) (cs := cs) (a := a) (b := b) (y := y) (.inl ⟨hr0, rfl⟩)
      simp -implicitDefEqProofs [-List.getD_eq_getElem?_getD, startD, hx, tryO, hm1, al1, due16, hr0]
  · by_cases hr0 : rateOk p
    · have hx := paid2X_is (x := xs) (C := CTable) (p := p) (.inr ⟨hr0, by simpa using bad, rfl⟩)
      simp -implicitDefEqProofs [-List.getD_eq_getElem?_getD, startD, hx, tryO, hm3, al3, due16, hr0]
    · have hx := paid2X_is (x := xs) (C := CTable) (p := p) (cs := cs) (a := a) (b := b) (y := y) (.inl ⟨hr0, rfl⟩)
      simp -implicitDefEqProofs [-List.getD_eq_getElem?_getD, startD, hx, tryO, hm1, al1, due16, hr0]
  · by_cases hr0 : rateOk p
    · have hx := paid1X_is (x := xs) (C := CTable) (p := p) (.inr ⟨hr0, by simpa using bad, rfl⟩)
      simp -implicitDefEqProofs [-List.getD_eq_getElem?_getD, startD, hx, tryO, hm3, al3, due16, hr0]
    · have hx := paid1X_is (x := xs) (C := CTable) (p := p) (cs := cs) (a := a) (y := y) (.inl ⟨hr0, rfl⟩)
      simp -implicitDefEqProofs [-List.getD_eq_getElem?_getD, startD, hx, tryO, hm1, al1, due16, hr0]
  · by_cases hr0 : rateOk p
    · have hx := paid1X_is (x := xs) (C := CTable) (p := p) (.inr ⟨hr0, by simpa using bad, rfl⟩)
      simp -implicitDefEqProofs [-List.getD_eq_getElem?_getD, startD, hx, tryO, hm3, al3, due16, hr0]
    · have hx := paid1X_is (x := xs) (C := CTable) (p := p) (cs := cs) (a := b) (y := y) (.inl ⟨hr0, rfl⟩)
      simp -implicitDefEqProofs [-List.getD_eq_getElem?_getD, startD, hx, tryO, hm1, al1, due16, hr0]
abbrev s_law : Stmt := top 46
theorem sc_law : FnScope ["script", "chances", "table", "rate", "cell", "good", "bad", "years", "call", "due", "cases", "case"] ["script"] (defScope s_law) := ⟨rfl, rfl, rfl, by decide +kernel, rfl, by decide +kernel, by decide +kernel⟩
theorem ok_law (F : Fun K "law" "law" s_law f fd) (B : Nob mg) (T_Table : ClTable K CTable) (i_Table : Ini P' w K mg base 3 "Table" CTable ["chances"] ["self", "chances"] tabG) (f_law_draw : Fn P' w K mg base 2 "_law_draw" ["script", "k"] drawG) (f_law_chances : Fn P' w K mg base 3 "_law_chances" ["script"] chancesG) (f_law_rate : Fn P' w K mg base 3 "_law_rate" ["script"] rateG) (f_law_refused : Fn P' w K mg base 6 "_law_refused" ["call", "table", "rate", "one", "other", "years"] (ref16G xs CTable)) (xo : ExsOk K xs CP) : FnOk P' w K mg base CX0 7 f fd ["script"] (SpD K lawG) := by
  have sc := sc_law
  refine Fn.ok1 F sc (fun ds d h => by obtain ⟨ns, rfl, _⟩ := lawG_some h; rfl) fun cdv A outer s H E hr => ?_
  have hu := hr.units
  refine ⟨_, (pssd_cons (psd_set 1 sc.nd (pd_call f_law_chances (hr.mono (by decide)) (pad_cons (pd_var 0) pad_nil)))
    (pssd_cons (psd_set 2 sc.nd (pd_of_pr (pr_make i_Table (hr.mono (by decide)) (pad_cons (pd_list B.list (pad_cons (pd_var 1) pad_nil)) pad_nil))))
    (pssd_cons (psd_set 3 sc.nd (pd_call f_law_rate (hr.mono (by decide)) (pad_cons (pd_var 0) pad_nil)))
    (pssd_cons (psd_set 4 sc.nd (pd_call f_law_draw (hr.mono (by decide)) (pad_cons (pd_var 0) (pad_cons pd_int pad_nil))))
    (pssd_cons (psd_if (pt_d_cmp (c_eq hu) (pd_mod (pd_var 4) pd_int) pd_int) (pssd_one (psd_set 3 sc.nd (pd_ix (pd_lst (pad_cons (pd_tup (pad_cons pd_int (pad_cons pd_int pad_nil))) (pad_cons (pd_tup (pad_cons pd_int (pad_cons pd_int pad_nil))) (pad_cons (pd_tup (pad_cons pd_int (pad_cons pd_int pad_nil))) pad_nil)))) (pd_mod (pd_fdiv (pd_var 4) pd_int) pd_int)))) pssd_nil)
    (pssd_cons (psd_set 5 sc.nd (pd_mod (pd_fdiv (pd_var 4) pd_int) (pd_len B.len (pad_cons (pd_var 1) pad_nil))))
    (pssd_cons (psd_set 6 sc.nd (pd_ix (pd_lst (pad_cons (pd_sub (pd_neg pd_int) (pd_mod (pd_fdiv (pd_var 4) pd_int) pd_int)) (pad_cons (pd_add (pd_len B.len (pad_cons (pd_var 1) pad_nil)) (pd_mod (pd_fdiv (pd_var 4) pd_int) (pd_pow pd_int pd_int))) pad_nil))) (pd_mod (pd_fdiv (pd_var 4) pd_int) pd_int)))
    (pssd_cons (psd_set 7 sc.nd (pd_mod (pd_fdiv (pd_var 4) pd_int) (pd_add (pd_len B.len (pad_cons (pd_var 1) pad_nil)) pd_int)))
    (pssd_cons (psd_for (pid_range1 B.range (pad_cons pd_int pad_nil)) (pgd_name 8 sc.nd) (pssd_cons (psd_set 9 sc.nd pd_int)
    (pssd_cons (psd_if (pt_d_w (pw_d_and (pt_d_cmp (c_eq hu) (pd_mod (pd_var 4) pd_int) pd_int) (pw_d_and1 (pt_d_cmp c_gt (pd_var 8) pd_int)))) (pssd_one (psd_set 9 sc.nd pd_int)) pssd_nil)
    (pssd_cons (psd_own 10 sc.nd (pf_lst (pad_cons (pd_tup (pad_cons (pd_var 5) (pad_cons (pd_var 5) (pad_cons (pd_sub (pd_neg pd_int) (pd_mod (pd_fdiv (pd_var 4) pd_int) pd_int)) pad_nil)))) pad_nil)))
    (pssd_cons (psd_if (pt_d_cmp (c_ne hu) (pd_var 8) pd_int) (pssd_one (psd_append 10 (pd_tup (pad_cons (pd_var 6) (pad_cons (pd_var 5) (pad_cons (pd_var 7) pad_nil)))))) pssd_nil)
    (pssd_cons (psd_if (pt_d_cmp (c_ne hu) (pd_var 8) pd_int) (pssd_one (psd_append 10 (pd_tup (pad_cons (pd_var 5) (pad_cons (pd_var 6) (pad_cons (pd_var 7) pad_nil)))))) pssd_nil)
    (pssd_freeze 10 (pssd_one (psd_for (pid_list (pd_var 10)) (pgd_name 11 sc.nd) (pssd_one (psd_if (pt_d_cmp (c_ne hu) (pd_call f_law_refused (hr.mono (by decide)) (pad_cons (pd_var 8) (pad_cons (pd_var 2) (pad_cons (pd_var 3) (pad_cons (pd_ix (pd_var 11) pd_int) (pad_cons (pd_ix (pd_var 11) pd_int) (pad_cons (pd_ix (pd_var 11) pd_int) pad_nil))))))) (pd_var 9)) (pssd_one (psd_ret pd_bl)) pssd_nil)))))))))))
    (pssd_one (psd_ret pd_bl))))))))))), ?_⟩
  intro ds d h
  obtain ⟨ns, rfl, hns, rfl⟩ := lawG_some h
  have hch := chancesG_eq hns
  have ok := chancesV_ok ns
  generalize chancesV ns = ps at *
  have hl1 : 1 ≤ ps.length := ok.1
  have hl20 : ps.length ≤ 20 := ok.2.1
  have ht := TOk.of ok
  have htab := tabG_eq ok
  have hcl : (ps.map val).length = ps.length := by simp -implicitDefEqProofs [-List.getD_eq_getElem?_getD]
  have hT : D.obj CTable ["chances"] [.lst ((ps.map val).map P)] = tab CTable (ps.map val) := rfl
  have hT' : D.obj CTable ["chances"] [.lst (List.map (P ∘ val) ps)] = tab CTable (ps.map val) := by rw [← List.map_map]; rfl
  have nd := xo.nd
  have hrt := rateG_eq hns
  have hr0 := rateV_ok ns
  generalize rateV ns = p at *
  have d91 := drawG_eq (ns := ns) (k := 91) (by decide) (by decide)
  have c0 := draw_lo ns 91
  generalize draw ns 91 = c at *
  have w4 : ∀ a : Int, modD (.int a) (.int 4) = some (.int (a % 4)) := fun a => by rw [modD_int (by decide), Int.fmod_eq_emod_of_nonneg _ (by decide)]
  have w3 : ∀ a : Int, modD (.int a) (.int 3) = some (.int (a % 3)) := fun a => by rw [modD_int (by decide), Int.fmod_eq_emod_of_nonneg _ (by decide)]
  have w2 : ∀ a : Int, modD (.int a) (.int 2) = some (.int (a % 2)) := fun a => by rw [modD_int (by decide), Int.fmod_eq_emod_of_nonneg _ (by decide)]
  have w99 : ∀ a : Int, modD (.int a) (.int 99) = some (.int (a % 99)) := fun a => by rw [modD_int (by decide), Int.fmod_eq_emod_of_nonneg _ (by decide)]
  have w6 : ∀ a : Int, modD (.int a) (.int 1000000) = some (.int (a % 1000000)) := fun a => by rw [modD_int (by decide), Int.fmod_eq_emod_of_nonneg _ (by decide)]
  have wl : ∀ a : Int, modD (.int a) (.int (ps.length : Int)) = some (.int (a % (ps.length : Int))) := fun a => by rw [modD_int (by omega), Int.fmod_eq_emod_of_nonneg _ (by omega)]
  have wl3 : ∀ a : Int, modD (.int a) (.int ((ps.length : Int) + 3)) = some (.int (a % ((ps.length : Int) + 3))) := fun a => by rw [modD_int (by omega), Int.fmod_eq_emod_of_nonneg _ (by omega)]
  have v4 : ∀ a : Int, fdivD (.int a) (.int 4) = some (.int (a / 4)) := fun a => by rw [fdivD_int (by decide) (by decide), Int.fdiv_eq_ediv_of_nonneg _ (by decide)]
  have v12 : ∀ a : Int, fdivD (.int a) (.int 12) = some (.int (a / 12)) := fun a => by rw [fdivD_int (by decide) (by decide), Int.fdiv_eq_ediv_of_nonneg _ (by decide)]
  have v300 : ∀ a : Int, fdivD (.int a) (.int 300) = some (.int (a / 300)) := fun a => by rw [fdivD_int (by decide) (by decide), Int.fdiv_eq_ediv_of_nonneg _ (by decide)]
  have v13 : ∀ a : Int, fdivD (.int a) (.int 13) = some (.int (a / 13)) := fun a => by rw [fdivD_int (by decide) (by decide), Int.fdiv_eq_ediv_of_nonneg _ (by decide)]
  have v29 : ∀ a : Int, fdivD (.int a) (.int 29) = some (.int (a / 29)) := fun a => by rw [fdivD_int (by decide) (by decide), Int.fdiv_eq_ediv_of_nonneg _ (by decide)]
  have p6 : powD (.int 10) (.int 6) = some (.int 1000000) := powD_int (by decide)
  have a99 := Int.emod_nonneg (c / 300) (show (99 : Int) ≠ 0 by decide)
  have a6 := Int.emod_nonneg (c / 300) (show (1000000 : Int) ≠ 0 by decide)
  have gd1 := Int.emod_nonneg (c / 12) (show (ps.length : Int) ≠ 0 by omega)
  have gd2 := Int.emod_lt_of_pos (c / 12) (show (0 : Int) < (ps.length : Int) by omega)
  obtain ⟨b, eb, hb⟩ : ∃ b : Int, atI [D.int (-1 - c / 300 % 99), D.int ((ps.length : Int) + c / 300 % 1000000)] (c / 13 % 2) = some (D.int b) ∧ ¬ (0 ≤ b ∧ b < (ps.length : Int)) := by
    have b3 := Int.emod_nonneg (c / 13) (show (2 : Int) ≠ 0 by decide)
    have b4 := Int.emod_lt_of_pos (c / 13) (show (0 : Int) < 2 by decide)
    rcases (show c / 13 % 2 = 0 ∨ c / 13 % 2 = 1 by omega) with e | e <;> rw [e]
    · exact ⟨_, atI_00, by omega⟩
    · exact ⟨_, atI_01, by omega⟩
  have yr := Int.emod_nonneg (c / 29) (show (ps.length : Int) + 3 ≠ 0 by omega)
  have hR6 : rng1D [.int 6] = some (rngD 0 6) := rng1_eq (m := 6) rfl (by decide)
  obtain ⟨q3, eq3, hq3⟩ : ∃ q : Pr, atI [D.tup [.int 0, .int 1], D.tup [.int 2, .int 1], D.tup [.int 1, .int 10001]] (c / 4 % 3) = some (pr q) ∧ ¬ rateOk q := by
    have b3 := Int.emod_nonneg (c / 4) (show (3 : Int) ≠ 0 by decide)
    have b4 := Int.emod_lt_of_pos (c / 4) (show (0 : Int) < 3 by decide)
    rcases (show c / 4 % 3 = 0 ∨ c / 4 % 3 = 1 ∨ c / 4 % 3 = 2 by omega) with e | e | e <;> rw [e]
    · exact ⟨(0, 1), atI_00, by decide⟩
    · exact ⟨(2, 1), atI_01, by decide⟩
    · exact ⟨(1, 10001), atI_02, by decide⟩
  by_cases cA : c % 4 = 1
  · simp -implicitDefEqProofs [-List.getD_eq_getElem?_getD, startD, hch, htab, hT, hT', hrt, d91, w4, w3, w2, w99, w6, wl, wl3, v4, v12, v300, v13, v29, p6, cA, eb, eq3, hR6, capD]
    refine for_post (fun i ρ => ∃ o1 o2 o3 o4, ρ = [some (.scr ns), some (.lst (ps.map pr)), some (tab CTable (ps.map val)), some (pr q3), some (.int c), some (.int (c / 12 % (ps.length : Int))), some (.int b), some (.int (c / 29 % ((ps.length : Int) + 3))), o1, o2, o3, o4]) ⟨none, none, none, none, rfl⟩ (fun i d ρ hd zq1 => ?_) (fun ρ' zq2 => ?_)
    · obtain ⟨o1, o2, o3, o4, e⟩ := zq1
      subst e
      unfold rngD at hd
      obtain ⟨j, ej, rfl⟩ := map_get hd
      have hi : i < 6 := by
        have := (List.getElem?_eq_some_iff.mp ej).1
        simpa using this
      rw [List.getElem?_range hi] at ej
      cases ej
      rcases (show i = 0 ∨ i = 1 ∨ i = 2 ∨ i = 3 ∨ i = 4 ∨ i = 5 by omega) with rfl | rfl | rfl | rfl | rfl | rfl
      · have gl : ∀ t ∈ ([(c / 12 % (ps.length : Int), c / 12 % (ps.length : Int), -1 - c / 300 % 99), (b, c / 12 % (ps.length : Int), c / 29 % ((ps.length : Int) + 3)), (c / 12 % (ps.length : Int), b, c / 29 % ((ps.length : Int) + 3))] : List Rw), bad16 (ps.map val) 0 t.1 t.2.1 t.2.2 := by
          intro t ht'
          simp -implicitDefEqProofs only [List.mem_cons, List.not_mem_nil, or_false] at ht'
          rcases ht' with rfl | rfl | rfl <;> simp -implicitDefEqProofs [-List.getD_eq_getElem?_getD, bad16, bad1] <;> omega
        refine ex_of_eq (y := ?y1) ?ee1 ?hh1
        case ee1 =>
          simp -implicitDefEqProofs [-List.getD_eq_getElem?_getD, w4, w99, v300, cA, capD, freezeE]
          rfl
        refine for_nx (fun _ ρ => ∃ o4, ρ = [some (.scr ns), some (.lst (ps.map pr)), some (tab CTable (ps.map val)), some (pr q3), some (.int c), some (.int (c / 12 % (ps.length : Int))), some (.int b), some (.int (c / 29 % ((ps.length : Int) + 3))), some (.int 0), some (.int 3), some (.lst (([(c / 12 % (ps.length : Int), c / 12 % (ps.length : Int), -1 - c / 300 % 99), (b, c / 12 % (ps.length : Int), c / 29 % ((ps.length : Int) + 3)), (c / 12 % (ps.length : Int), b, c / 29 % ((ps.length : Int) + 3))] : List Rw).map rw3)), o4]) ⟨o4, rfl⟩ (fun j d' ρ hd' zq3 => ?_) (fun ρ' ⟨o4, e⟩ => ⟨_, _, _, o4, e⟩)
        obtain ⟨o4, e⟩ := zq3
        subst e
        have hd'' : (([(c / 12 % (ps.length : Int), c / 12 % (ps.length : Int), -1 - c / 300 % 99), (b, c / 12 % (ps.length : Int), c / 29 % ((ps.length : Int) + 3)), (c / 12 % (ps.length : Int), b, c / 29 % ((ps.length : Int) + 3))] : List Rw).map rw3)[j]? = some d' := hd'
        obtain ⟨t, et, rfl⟩ := map_get hd''
        have hx := ref16G_eq (x := xs) (C := CTable) (k := 0) (p := q3) nd ht.ok (by decide) (by decide) (gl t (List.mem_of_getElem? et))
        refine ⟨_, ?_, some (rw3 t), rfl⟩
        simp -implicitDefEqProofs [-List.getD_eq_getElem?_getD, hx, due16, hq3]
      · have gl : ∀ t ∈ ([(c / 12 % (ps.length : Int), c / 12 % (ps.length : Int), -1 - c / 300 % 99), (b, c / 12 % (ps.length : Int), c / 29 % ((ps.length : Int) + 3)), (c / 12 % (ps.length : Int), b, c / 29 % ((ps.length : Int) + 3))] : List Rw), bad16 (ps.map val) 1 t.1 t.2.1 t.2.2 := by
          intro t ht'
          simp -implicitDefEqProofs only [List.mem_cons, List.not_mem_nil, or_false] at ht'
          rcases ht' with rfl | rfl | rfl <;> simp -implicitDefEqProofs [-List.getD_eq_getElem?_getD, bad16, bad1] <;> omega
        refine ex_of_eq (y := ?y2) ?ee2 ?hh2
        case ee2 =>
          simp -implicitDefEqProofs [-List.getD_eq_getElem?_getD, w4, w99, v300, cA, capD, freezeE]
          rfl
        refine for_nx (fun _ ρ => ∃ o4, ρ = [some (.scr ns), some (.lst (ps.map pr)), some (tab CTable (ps.map val)), some (pr q3), some (.int c), some (.int (c / 12 % (ps.length : Int))), some (.int b), some (.int (c / 29 % ((ps.length : Int) + 3))), some (.int 1), some (.int 3), some (.lst (([(c / 12 % (ps.length : Int), c / 12 % (ps.length : Int), -1 - c / 300 % 99), (b, c / 12 % (ps.length : Int), c / 29 % ((ps.length : Int) + 3)), (c / 12 % (ps.length : Int), b, c / 29 % ((ps.length : Int) + 3))] : List Rw).map rw3)), o4]) ⟨o4, rfl⟩ (fun j d' ρ hd' zq4 => ?_) (fun ρ' ⟨o4, e⟩ => ⟨_, _, _, o4, e⟩)
        obtain ⟨o4, e⟩ := zq4
        subst e
        have hd'' : (([(c / 12 % (ps.length : Int), c / 12 % (ps.length : Int), -1 - c / 300 % 99), (b, c / 12 % (ps.length : Int), c / 29 % ((ps.length : Int) + 3)), (c / 12 % (ps.length : Int), b, c / 29 % ((ps.length : Int) + 3))] : List Rw).map rw3)[j]? = some d' := hd'
        obtain ⟨t, et, rfl⟩ := map_get hd''
        have hx := ref16G_eq (x := xs) (C := CTable) (k := 1) (p := q3) nd ht.ok (by decide) (by decide) (gl t (List.mem_of_getElem? et))
        refine ⟨_, ?_, some (rw3 t), rfl⟩
        simp -implicitDefEqProofs [-List.getD_eq_getElem?_getD, hx, due16, hq3]
      · have gl : ∀ t ∈ ([(c / 12 % (ps.length : Int), c / 12 % (ps.length : Int), -1 - c / 300 % 99), (b, c / 12 % (ps.length : Int), c / 29 % ((ps.length : Int) + 3)), (c / 12 % (ps.length : Int), b, c / 29 % ((ps.length : Int) + 3))] : List Rw), bad16 (ps.map val) 2 t.1 t.2.1 t.2.2 := by
          intro t ht'
          simp -implicitDefEqProofs only [List.mem_cons, List.not_mem_nil, or_false] at ht'
          rcases ht' with rfl | rfl | rfl <;> simp -implicitDefEqProofs [-List.getD_eq_getElem?_getD, bad16, bad1] <;> omega
        refine ex_of_eq (y := ?y3) ?ee3 ?hh3
        case ee3 =>
          simp -implicitDefEqProofs [-List.getD_eq_getElem?_getD, w4, w99, v300, cA, capD, freezeE]
          rfl
        refine for_nx (fun _ ρ => ∃ o4, ρ = [some (.scr ns), some (.lst (ps.map pr)), some (tab CTable (ps.map val)), some (pr q3), some (.int c), some (.int (c / 12 % (ps.length : Int))), some (.int b), some (.int (c / 29 % ((ps.length : Int) + 3))), some (.int 2), some (.int 1), some (.lst (([(c / 12 % (ps.length : Int), c / 12 % (ps.length : Int), -1 - c / 300 % 99), (b, c / 12 % (ps.length : Int), c / 29 % ((ps.length : Int) + 3)), (c / 12 % (ps.length : Int), b, c / 29 % ((ps.length : Int) + 3))] : List Rw).map rw3)), o4]) ⟨o4, rfl⟩ (fun j d' ρ hd' zq5 => ?_) (fun ρ' ⟨o4, e⟩ => ⟨_, _, _, o4, e⟩)
        obtain ⟨o4, e⟩ := zq5
        subst e
        have hd'' : (([(c / 12 % (ps.length : Int), c / 12 % (ps.length : Int), -1 - c / 300 % 99), (b, c / 12 % (ps.length : Int), c / 29 % ((ps.length : Int) + 3)), (c / 12 % (ps.length : Int), b, c / 29 % ((ps.length : Int) + 3))] : List Rw).map rw3)[j]? = some d' := hd'
        obtain ⟨t, et, rfl⟩ := map_get hd''
        have hx := ref16G_eq (x := xs) (C := CTable) (k := 2) (p := q3) nd ht.ok (by decide) (by decide) (gl t (List.mem_of_getElem? et))
        refine ⟨_, ?_, some (rw3 t), rfl⟩
        simp -implicitDefEqProofs [-List.getD_eq_getElem?_getD, hx, due16, hq3]
      · have gl : ∀ t ∈ ([(c / 12 % (ps.length : Int), c / 12 % (ps.length : Int), -1 - c / 300 % 99), (b, c / 12 % (ps.length : Int), c / 29 % ((ps.length : Int) + 3)), (c / 12 % (ps.length : Int), b, c / 29 % ((ps.length : Int) + 3))] : List Rw), bad16 (ps.map val) 3 t.1 t.2.1 t.2.2 := by
          intro t ht'
          simp -implicitDefEqProofs only [List.mem_cons, List.not_mem_nil, or_false] at ht'
          rcases ht' with rfl | rfl | rfl <;> simp -implicitDefEqProofs [-List.getD_eq_getElem?_getD, bad16, bad1] <;> omega
        refine ex_of_eq (y := ?y4) ?ee4 ?hh4
        case ee4 =>
          simp -implicitDefEqProofs [-List.getD_eq_getElem?_getD, w4, w99, v300, cA, capD, freezeE]
          rfl
        refine for_nx (fun _ ρ => ∃ o4, ρ = [some (.scr ns), some (.lst (ps.map pr)), some (tab CTable (ps.map val)), some (pr q3), some (.int c), some (.int (c / 12 % (ps.length : Int))), some (.int b), some (.int (c / 29 % ((ps.length : Int) + 3))), some (.int 3), some (.int 1), some (.lst (([(c / 12 % (ps.length : Int), c / 12 % (ps.length : Int), -1 - c / 300 % 99), (b, c / 12 % (ps.length : Int), c / 29 % ((ps.length : Int) + 3)), (c / 12 % (ps.length : Int), b, c / 29 % ((ps.length : Int) + 3))] : List Rw).map rw3)), o4]) ⟨o4, rfl⟩ (fun j d' ρ hd' zq6 => ?_) (fun ρ' ⟨o4, e⟩ => ⟨_, _, _, o4, e⟩)
        obtain ⟨o4, e⟩ := zq6
        subst e
        have hd'' : (([(c / 12 % (ps.length : Int), c / 12 % (ps.length : Int), -1 - c / 300 % 99), (b, c / 12 % (ps.length : Int), c / 29 % ((ps.length : Int) + 3)), (c / 12 % (ps.length : Int), b, c / 29 % ((ps.length : Int) + 3))] : List Rw).map rw3)[j]? = some d' := hd'
        obtain ⟨t, et, rfl⟩ := map_get hd''
        have hx := ref16G_eq (x := xs) (C := CTable) (k := 3) (p := q3) nd ht.ok (by decide) (by decide) (gl t (List.mem_of_getElem? et))
        refine ⟨_, ?_, some (rw3 t), rfl⟩
        simp -implicitDefEqProofs [-List.getD_eq_getElem?_getD, hx, due16, hq3]
      · have gl : ∀ t ∈ ([(c / 12 % (ps.length : Int), c / 12 % (ps.length : Int), -1 - c / 300 % 99), (b, c / 12 % (ps.length : Int), c / 29 % ((ps.length : Int) + 3))] : List Rw), bad16 (ps.map val) 4 t.1 t.2.1 t.2.2 := by
          intro t ht'
          simp -implicitDefEqProofs only [List.mem_cons, List.not_mem_nil, or_false] at ht'
          rcases ht' with rfl | rfl <;> simp -implicitDefEqProofs [-List.getD_eq_getElem?_getD, bad16, bad1] <;> omega
        refine ex_of_eq (y := ?y5) ?ee5 ?hh5
        case ee5 =>
          simp -implicitDefEqProofs [-List.getD_eq_getElem?_getD, w4, w99, v300, cA, capD, freezeE]
          rfl
        refine for_nx (fun _ ρ => ∃ o4, ρ = [some (.scr ns), some (.lst (ps.map pr)), some (tab CTable (ps.map val)), some (pr q3), some (.int c), some (.int (c / 12 % (ps.length : Int))), some (.int b), some (.int (c / 29 % ((ps.length : Int) + 3))), some (.int 4), some (.int 1), some (.lst (([(c / 12 % (ps.length : Int), c / 12 % (ps.length : Int), -1 - c / 300 % 99), (b, c / 12 % (ps.length : Int), c / 29 % ((ps.length : Int) + 3))] : List Rw).map rw3)), o4]) ⟨o4, rfl⟩ (fun j d' ρ hd' zq7 => ?_) (fun ρ' ⟨o4, e⟩ => ⟨_, _, _, o4, e⟩)
        obtain ⟨o4, e⟩ := zq7
        subst e
        have hd'' : (([(c / 12 % (ps.length : Int), c / 12 % (ps.length : Int), -1 - c / 300 % 99), (b, c / 12 % (ps.length : Int), c / 29 % ((ps.length : Int) + 3))] : List Rw).map rw3)[j]? = some d' := hd'
        obtain ⟨t, et, rfl⟩ := map_get hd''
        have hx := ref16G_eq (x := xs) (C := CTable) (k := 4) (p := q3) nd ht.ok (by decide) (by decide) (gl t (List.mem_of_getElem? et))
        refine ⟨_, ?_, some (rw3 t), rfl⟩
        simp -implicitDefEqProofs [-List.getD_eq_getElem?_getD, hx, due16, hq3]
      · have gl : ∀ t ∈ ([(c / 12 % (ps.length : Int), c / 12 % (ps.length : Int), -1 - c / 300 % 99), (c / 12 % (ps.length : Int), b, c / 29 % ((ps.length : Int) + 3))] : List Rw), bad16 (ps.map val) 5 t.1 t.2.1 t.2.2 := by
          intro t ht'
          simp -implicitDefEqProofs only [List.mem_cons, List.not_mem_nil, or_false] at ht'
          rcases ht' with rfl | rfl <;> simp -implicitDefEqProofs [-List.getD_eq_getElem?_getD, bad16, bad1] <;> omega
        refine ex_of_eq (y := ?y6) ?ee6 ?hh6
        case ee6 =>
          simp -implicitDefEqProofs [-List.getD_eq_getElem?_getD, w4, w99, v300, cA, capD, freezeE]
          rfl
        refine for_nx (fun _ ρ => ∃ o4, ρ = [some (.scr ns), some (.lst (ps.map pr)), some (tab CTable (ps.map val)), some (pr q3), some (.int c), some (.int (c / 12 % (ps.length : Int))), some (.int b), some (.int (c / 29 % ((ps.length : Int) + 3))), some (.int 5), some (.int 1), some (.lst (([(c / 12 % (ps.length : Int), c / 12 % (ps.length : Int), -1 - c / 300 % 99), (c / 12 % (ps.length : Int), b, c / 29 % ((ps.length : Int) + 3))] : List Rw).map rw3)), o4]) ⟨o4, rfl⟩ (fun j d' ρ hd' zq8 => ?_) (fun ρ' ⟨o4, e⟩ => ⟨_, _, _, o4, e⟩)
        obtain ⟨o4, e⟩ := zq8
        subst e
        have hd'' : (([(c / 12 % (ps.length : Int), c / 12 % (ps.length : Int), -1 - c / 300 % 99), (c / 12 % (ps.length : Int), b, c / 29 % ((ps.length : Int) + 3))] : List Rw).map rw3)[j]? = some d' := hd'
        obtain ⟨t, et, rfl⟩ := map_get hd''
        have hx := ref16G_eq (x := xs) (C := CTable) (k := 5) (p := q3) nd ht.ok (by decide) (by decide) (gl t (List.mem_of_getElem? et))
        refine ⟨_, ?_, some (rw3 t), rfl⟩
        simp -implicitDefEqProofs [-List.getD_eq_getElem?_getD, hx, due16, hq3]
    · obtain ⟨o1, o2, o3, o4, e⟩ := zq2
      subst e
      simp -implicitDefEqProofs [-List.getD_eq_getElem?_getD]
  · simp -implicitDefEqProofs [-List.getD_eq_getElem?_getD, startD, hch, htab, hT, hT', hrt, d91, w4, w3, w2, w99, w6, wl, wl3, v4, v12, v300, v13, v29, p6, cA, eb, eq3, hR6, capD]
    refine for_post (fun i ρ => ∃ o1 o2 o3 o4, ρ = [some (.scr ns), some (.lst (ps.map pr)), some (tab CTable (ps.map val)), some (pr p), some (.int c), some (.int (c / 12 % (ps.length : Int))), some (.int b), some (.int (c / 29 % ((ps.length : Int) + 3))), o1, o2, o3, o4]) ⟨none, none, none, none, rfl⟩ (fun i d ρ hd zq9 => ?_) (fun ρ' zq10 => ?_)
    · obtain ⟨o1, o2, o3, o4, e⟩ := zq9
      subst e
      unfold rngD at hd
      obtain ⟨j, ej, rfl⟩ := map_get hd
      have hi : i < 6 := by
        have := (List.getElem?_eq_some_iff.mp ej).1
        simpa using this
      rw [List.getElem?_range hi] at ej
      cases ej
      rcases (show i = 0 ∨ i = 1 ∨ i = 2 ∨ i = 3 ∨ i = 4 ∨ i = 5 by omega) with rfl | rfl | rfl | rfl | rfl | rfl
      · have gl : ∀ t ∈ ([(c / 12 % (ps.length : Int), c / 12 % (ps.length : Int), -1 - c / 300 % 99), (b, c / 12 % (ps.length : Int), c / 29 % ((ps.length : Int) + 3)), (c / 12 % (ps.length : Int), b, c / 29 % ((ps.length : Int) + 3))] : List Rw), bad16 (ps.map val) 0 t.1 t.2.1 t.2.2 := by
          intro t ht'
          simp -implicitDefEqProofs only [List.mem_cons, List.not_mem_nil, or_false] at ht'
          rcases ht' with rfl | rfl | rfl <;> simp -implicitDefEqProofs [-List.getD_eq_getElem?_getD, bad16, bad1] <;> omega
        refine ex_of_eq (y := ?y7) ?ee7 ?hh7
        case ee7 =>
          simp -implicitDefEqProofs [-List.getD_eq_getElem?_getD, w4, w99, v300, cA, capD, freezeE]
          rfl
        refine for_nx (fun _ ρ => ∃ o4, ρ = [some (.scr ns), some (.lst (ps.map pr)), some (tab CTable (ps.map val)), some (pr p), some (.int c), some (.int (c / 12 % (ps.length : Int))), some (.int b), some (.int (c / 29 % ((ps.length : Int) + 3))), some (.int 0), some (.int 3), some (.lst (([(c / 12 % (ps.length : Int), c / 12 % (ps.length : Int), -1 - c / 300 % 99), (b, c / 12 % (ps.length : Int), c / 29 % ((ps.length : Int) + 3)), (c / 12 % (ps.length : Int), b, c / 29 % ((ps.length : Int) + 3))] : List Rw).map rw3)), o4]) ⟨o4, rfl⟩ (fun j d' ρ hd' zq11 => ?_) (fun ρ' ⟨o4, e⟩ => ⟨_, _, _, o4, e⟩)
        obtain ⟨o4, e⟩ := zq11
        subst e
        have hd'' : (([(c / 12 % (ps.length : Int), c / 12 % (ps.length : Int), -1 - c / 300 % 99), (b, c / 12 % (ps.length : Int), c / 29 % ((ps.length : Int) + 3)), (c / 12 % (ps.length : Int), b, c / 29 % ((ps.length : Int) + 3))] : List Rw).map rw3)[j]? = some d' := hd'
        obtain ⟨t, et, rfl⟩ := map_get hd''
        have hx := ref16G_eq (x := xs) (C := CTable) (k := 0) (p := p) nd ht.ok (by decide) (by decide) (gl t (List.mem_of_getElem? et))
        refine ⟨_, ?_, some (rw3 t), rfl⟩
        simp -implicitDefEqProofs [-List.getD_eq_getElem?_getD, hx, due16, hr0]
      · have gl : ∀ t ∈ ([(c / 12 % (ps.length : Int), c / 12 % (ps.length : Int), -1 - c / 300 % 99), (b, c / 12 % (ps.length : Int), c / 29 % ((ps.length : Int) + 3)), (c / 12 % (ps.length : Int), b, c / 29 % ((ps.length : Int) + 3))] : List Rw), bad16 (ps.map val) 1 t.1 t.2.1 t.2.2 := by
          intro t ht'
          simp -implicitDefEqProofs only [List.mem_cons, List.not_mem_nil, or_false] at ht'
          rcases ht' with rfl | rfl | rfl <;> simp -implicitDefEqProofs [-List.getD_eq_getElem?_getD, bad16, bad1] <;> omega
        refine ex_of_eq (y := ?y8) ?ee8 ?hh8
        case ee8 =>
          simp -implicitDefEqProofs [-List.getD_eq_getElem?_getD, w4, w99, v300, cA, capD, freezeE]
          rfl
        refine for_nx (fun _ ρ => ∃ o4, ρ = [some (.scr ns), some (.lst (ps.map pr)), some (tab CTable (ps.map val)), some (pr p), some (.int c), some (.int (c / 12 % (ps.length : Int))), some (.int b), some (.int (c / 29 % ((ps.length : Int) + 3))), some (.int 1), some (.int 3), some (.lst (([(c / 12 % (ps.length : Int), c / 12 % (ps.length : Int), -1 - c / 300 % 99), (b, c / 12 % (ps.length : Int), c / 29 % ((ps.length : Int) + 3)), (c / 12 % (ps.length : Int), b, c / 29 % ((ps.length : Int) + 3))] : List Rw).map rw3)), o4]) ⟨o4, rfl⟩ (fun j d' ρ hd' zq12 => ?_) (fun ρ' ⟨o4, e⟩ => ⟨_, _, _, o4, e⟩)
        obtain ⟨o4, e⟩ := zq12
        subst e
        have hd'' : (([(c / 12 % (ps.length : Int), c / 12 % (ps.length : Int), -1 - c / 300 % 99), (b, c / 12 % (ps.length : Int), c / 29 % ((ps.length : Int) + 3)), (c / 12 % (ps.length : Int), b, c / 29 % ((ps.length : Int) + 3))] : List Rw).map rw3)[j]? = some d' := hd'
        obtain ⟨t, et, rfl⟩ := map_get hd''
        have hx := ref16G_eq (x := xs) (C := CTable) (k := 1) (p := p) nd ht.ok (by decide) (by decide) (gl t (List.mem_of_getElem? et))
        refine ⟨_, ?_, some (rw3 t), rfl⟩
        simp -implicitDefEqProofs [-List.getD_eq_getElem?_getD, hx, due16, hr0]
      · have gl : ∀ t ∈ ([(c / 12 % (ps.length : Int), c / 12 % (ps.length : Int), -1 - c / 300 % 99), (b, c / 12 % (ps.length : Int), c / 29 % ((ps.length : Int) + 3)), (c / 12 % (ps.length : Int), b, c / 29 % ((ps.length : Int) + 3))] : List Rw), bad16 (ps.map val) 2 t.1 t.2.1 t.2.2 := by
          intro t ht'
          simp -implicitDefEqProofs only [List.mem_cons, List.not_mem_nil, or_false] at ht'
          rcases ht' with rfl | rfl | rfl <;> simp -implicitDefEqProofs [-List.getD_eq_getElem?_getD, bad16, bad1] <;> omega
        refine ex_of_eq (y := ?y9) ?ee9 ?hh9
        case ee9 =>
          simp -implicitDefEqProofs [-List.getD_eq_getElem?_getD, w4, w99, v300, cA, capD, freezeE]
          rfl
        refine for_nx (fun _ ρ => ∃ o4, ρ = [some (.scr ns), some (.lst (ps.map pr)), some (tab CTable (ps.map val)), some (pr p), some (.int c), some (.int (c / 12 % (ps.length : Int))), some (.int b), some (.int (c / 29 % ((ps.length : Int) + 3))), some (.int 2), some (.int 3), some (.lst (([(c / 12 % (ps.length : Int), c / 12 % (ps.length : Int), -1 - c / 300 % 99), (b, c / 12 % (ps.length : Int), c / 29 % ((ps.length : Int) + 3)), (c / 12 % (ps.length : Int), b, c / 29 % ((ps.length : Int) + 3))] : List Rw).map rw3)), o4]) ⟨o4, rfl⟩ (fun j d' ρ hd' zq13 => ?_) (fun ρ' ⟨o4, e⟩ => ⟨_, _, _, o4, e⟩)
        obtain ⟨o4, e⟩ := zq13
        subst e
        have hd'' : (([(c / 12 % (ps.length : Int), c / 12 % (ps.length : Int), -1 - c / 300 % 99), (b, c / 12 % (ps.length : Int), c / 29 % ((ps.length : Int) + 3)), (c / 12 % (ps.length : Int), b, c / 29 % ((ps.length : Int) + 3))] : List Rw).map rw3)[j]? = some d' := hd'
        obtain ⟨t, et, rfl⟩ := map_get hd''
        have hx := ref16G_eq (x := xs) (C := CTable) (k := 2) (p := p) nd ht.ok (by decide) (by decide) (gl t (List.mem_of_getElem? et))
        refine ⟨_, ?_, some (rw3 t), rfl⟩
        simp -implicitDefEqProofs [-List.getD_eq_getElem?_getD, hx, due16, hr0]
      · have gl : ∀ t ∈ ([(c / 12 % (ps.length : Int), c / 12 % (ps.length : Int), -1 - c / 300 % 99), (b, c / 12 % (ps.length : Int), c / 29 % ((ps.length : Int) + 3)), (c / 12 % (ps.length : Int), b, c / 29 % ((ps.length : Int) + 3))] : List Rw), bad16 (ps.map val) 3 t.1 t.2.1 t.2.2 := by
          intro t ht'
          simp -implicitDefEqProofs only [List.mem_cons, List.not_mem_nil, or_false] at ht'
          rcases ht' with rfl | rfl | rfl <;> simp -implicitDefEqProofs [-List.getD_eq_getElem?_getD, bad16, bad1] <;> omega
        refine ex_of_eq (y := ?y10) ?ee10 ?hh10
        case ee10 =>
          simp -implicitDefEqProofs [-List.getD_eq_getElem?_getD, w4, w99, v300, cA, capD, freezeE]
          rfl
        refine for_nx (fun _ ρ => ∃ o4, ρ = [some (.scr ns), some (.lst (ps.map pr)), some (tab CTable (ps.map val)), some (pr p), some (.int c), some (.int (c / 12 % (ps.length : Int))), some (.int b), some (.int (c / 29 % ((ps.length : Int) + 3))), some (.int 3), some (.int 3), some (.lst (([(c / 12 % (ps.length : Int), c / 12 % (ps.length : Int), -1 - c / 300 % 99), (b, c / 12 % (ps.length : Int), c / 29 % ((ps.length : Int) + 3)), (c / 12 % (ps.length : Int), b, c / 29 % ((ps.length : Int) + 3))] : List Rw).map rw3)), o4]) ⟨o4, rfl⟩ (fun j d' ρ hd' zq14 => ?_) (fun ρ' ⟨o4, e⟩ => ⟨_, _, _, o4, e⟩)
        obtain ⟨o4, e⟩ := zq14
        subst e
        have hd'' : (([(c / 12 % (ps.length : Int), c / 12 % (ps.length : Int), -1 - c / 300 % 99), (b, c / 12 % (ps.length : Int), c / 29 % ((ps.length : Int) + 3)), (c / 12 % (ps.length : Int), b, c / 29 % ((ps.length : Int) + 3))] : List Rw).map rw3)[j]? = some d' := hd'
        obtain ⟨t, et, rfl⟩ := map_get hd''
        have hx := ref16G_eq (x := xs) (C := CTable) (k := 3) (p := p) nd ht.ok (by decide) (by decide) (gl t (List.mem_of_getElem? et))
        refine ⟨_, ?_, some (rw3 t), rfl⟩
        simp -implicitDefEqProofs [-List.getD_eq_getElem?_getD, hx, due16, hr0]
      · have gl : ∀ t ∈ ([(c / 12 % (ps.length : Int), c / 12 % (ps.length : Int), -1 - c / 300 % 99), (b, c / 12 % (ps.length : Int), c / 29 % ((ps.length : Int) + 3))] : List Rw), bad16 (ps.map val) 4 t.1 t.2.1 t.2.2 := by
          intro t ht'
          simp -implicitDefEqProofs only [List.mem_cons, List.not_mem_nil, or_false] at ht'
          rcases ht' with rfl | rfl <;> simp -implicitDefEqProofs [-List.getD_eq_getElem?_getD, bad16, bad1] <;> omega
        refine ex_of_eq (y := ?y11) ?ee11 ?hh11
        case ee11 =>
          simp -implicitDefEqProofs [-List.getD_eq_getElem?_getD, w4, w99, v300, cA, capD, freezeE]
          rfl
        refine for_nx (fun _ ρ => ∃ o4, ρ = [some (.scr ns), some (.lst (ps.map pr)), some (tab CTable (ps.map val)), some (pr p), some (.int c), some (.int (c / 12 % (ps.length : Int))), some (.int b), some (.int (c / 29 % ((ps.length : Int) + 3))), some (.int 4), some (.int 3), some (.lst (([(c / 12 % (ps.length : Int), c / 12 % (ps.length : Int), -1 - c / 300 % 99), (b, c / 12 % (ps.length : Int), c / 29 % ((ps.length : Int) + 3))] : List Rw).map rw3)), o4]) ⟨o4, rfl⟩ (fun j d' ρ hd' zq15 => ?_) (fun ρ' ⟨o4, e⟩ => ⟨_, _, _, o4, e⟩)
        obtain ⟨o4, e⟩ := zq15
        subst e
        have hd'' : (([(c / 12 % (ps.length : Int), c / 12 % (ps.length : Int), -1 - c / 300 % 99), (b, c / 12 % (ps.length : Int), c / 29 % ((ps.length : Int) + 3))] : List Rw).map rw3)[j]? = some d' := hd'
        obtain ⟨t, et, rfl⟩ := map_get hd''
        have hx := ref16G_eq (x := xs) (C := CTable) (k := 4) (p := p) nd ht.ok (by decide) (by decide) (gl t (List.mem_of_getElem? et))
        refine ⟨_, ?_, some (rw3 t), rfl⟩
        simp -implicitDefEqProofs [-List.getD_eq_getElem?_getD, hx, due16, hr0]
      · have gl : ∀ t ∈ ([(c / 12 % (ps.length : Int), c / 12 % (ps.length : Int), -1 - c / 300 % 99), (c / 12 % (ps.length : Int), b, c / 29 % ((ps.length : Int) + 3))] : List Rw), bad16 (ps.map val) 5 t.1 t.2.1 t.2.2 := by
          intro t ht'
          simp -implicitDefEqProofs only [List.mem_cons, List.not_mem_nil, or_false] at ht'
          rcases ht' with rfl | rfl <;> simp -implicitDefEqProofs [-List.getD_eq_getElem?_getD, bad16, bad1] <;> omega
        refine ex_of_eq (y := ?y12) ?ee12 ?hh12
        case ee12 =>
          simp -implicitDefEqProofs [-List.getD_eq_getElem?_getD, w4, w99, v300, cA, capD, freezeE]
          rfl
        refine for_nx (fun _ ρ => ∃ o4, ρ = [some (.scr ns), some (.lst (ps.map pr)), some (tab CTable (ps.map val)), some (pr p), some (.int c), some (.int (c / 12 % (ps.length : Int))), some (.int b), some (.int (c / 29 % ((ps.length : Int) + 3))), some (.int 5), some (.int 3), some (.lst (([(c / 12 % (ps.length : Int), c / 12 % (ps.length : Int), -1 - c / 300 % 99), (c / 12 % (ps.length : Int), b, c / 29 % ((ps.length : Int) + 3))] : List Rw).map rw3)), o4]) ⟨o4, rfl⟩ (fun j d' ρ hd' zq16 => ?_) (fun ρ' ⟨o4, e⟩ => ⟨_, _, _, o4, e⟩)
        obtain ⟨o4, e⟩ := zq16
        subst e
        have hd'' : (([(c / 12 % (ps.length : Int), c / 12 % (ps.length : Int), -1 - c / 300 % 99), (c / 12 % (ps.length : Int), b, c / 29 % ((ps.length : Int) + 3))] : List Rw).map rw3)[j]? = some d' := hd'
        obtain ⟨t, et, rfl⟩ := map_get hd''
        have hx := ref16G_eq (x := xs) (C := CTable) (k := 5) (p := p) nd ht.ok (by decide) (by decide) (gl t (List.mem_of_getElem? et))
        refine ⟨_, ?_, some (rw3 t), rfl⟩
        simp -implicitDefEqProofs [-List.getD_eq_getElem?_getD, hx, due16, hr0]
    · obtain ⟨o1, o2, o3, o4, e⟩ := zq10
      subst e
      simp -implicitDefEqProofs [-List.getD_eq_getElem?_getD]
theorem all_mk {l : PySem.W.OpenLaw} {w : World} {K : PySem.W.Frag} {h : Heap} {mg : Str → Option Value} {fa f1 f2 f3 f4 f5 f6 f7 f8 f9 f10 f11 f12 f13 f14 f15 f16 f17 f18 f19 f20 f21 f22 f23 f24 f25 f26 CTable : Addr} (X : K.In h) (G : h.Ns mainGlobals mg) (hfa : mg "law" = some (.ref fa))
    {od1 an1 od2 an2 od3 an3 od4 an4 od5 an5 od6 an6 od7 an7 od8 an8 od9 an9 od10 an10 od11 an11 od12 an12 od13 an13 od14 an14 od15 an15 od16 an16 od17 an17 od18 an18 od19 an19 od20 an20 od21 an21 od22 an22 od23 an23 od24 an24 od25 an25 od26 an26 : Option Addr} {sl1 sl2 sl3 sl4 sl5 sl6 sl7 sl8 sl9 sl10 sl11 sl12 sl13 sl14 sl15 sl16 sl17 sl18 sl19 sl20 sl21 sl22 sl23 sl24 sl25 sl26 : Array (Option Value)} {oc1 kV1 dc1 pm1 cd1 ct1 oc2 kV2 dc2 pm2 cd2 ct2 oc3 kV3 dc3 pm3 cd3 ct3 oc4 kV4 dc4 pm4 cd4 ct4 oc5 kV5 dc5 pm5 cd5 ct5 oc6 kV6 dc6 pm6 cd6 ct6 oc7 kV7 dc7 pm7 cd7 ct7 oc8 kV8 dc8 pm8 cd8 ct8 oc9 kV9 dc9 pm9 cd9 ct9 oc10 kV10 dc10 pm10 cd10 ct10 oc11 kV11 dc11 pm11 cd11 ct11 oc12 kV12 dc12 pm12 cd12 ct12 oc13 kV13 dc13 pm13 cd13 ct13 oc14 kV14 dc14 pm14 cd14 ct14 oc15 kV15 dc15 pm15 cd15 ct15 oc16 kV16 dc16 pm16 cd16 ct16 oc17 kV17 dc17 pm17 cd17 ct17 oc18 kV18 dc18 pm18 cd18 ct18 oc19 kV19 dc19 pm19 cd19 ct19 oc20 kV20 dc20 pm20 cd20 ct20 oc21 kV21 dc21 pm21 cd21 ct21 oc22 kV22 dc22 pm22 cd22 ct22 oc23 kV23 dc23 pm23 cd23 ct23 oc24 kV24 dc24 pm24 cd24 ct24 oc25 kV25 dc25 pm25 cd25 ct25 oc26 kV26 dc26 pm26 cd26 ct26 : Value}
    (aCTable : PySem.W.nsIn K mainGlobals "Table" = some (some (.ref CTable)))
    (a1 : PySem.W.nsIn K mainGlobals "greatest_shared" = some (some (.ref f1)))
    (l1 : K.lookup f1 = some ⟨oc1, od1, .func (PySem.W.fnOf "greatest_shared" "greatest_shared" (defArgs s_greatest_shared) (defBody s_greatest_shared) (defScope s_greatest_shared) .none kV1 dc1 pm1 an1 cd1 ct1), sl1⟩) (c1 : PySem.W.codeIn K cd1 "greatest_shared" = true) (k1 : PySem.W.keepIn K (.ref f1) = true)
    (a2 : PySem.W.nsIn K mainGlobals "part" = some (some (.ref f2)))
    (l2 : K.lookup f2 = some ⟨oc2, od2, .func (PySem.W.fnOf "part" "part" (defArgs s_part) (defBody s_part) (defScope s_part) .none kV2 dc2 pm2 an2 cd2 ct2), sl2⟩) (c2 : PySem.W.codeIn K cd2 "part" = true) (k2 : PySem.W.keepIn K (.ref f2) = true)
    (a3 : PySem.W.nsIn K mainGlobals "plus" = some (some (.ref f3)))
    (l3 : K.lookup f3 = some ⟨oc3, od3, .func (PySem.W.fnOf "plus" "plus" (defArgs s_plus) (defBody s_plus) (defScope s_plus) .none kV3 dc3 pm3 an3 cd3 ct3), sl3⟩) (c3 : PySem.W.codeIn K cd3 "plus" = true) (k3 : PySem.W.keepIn K (.ref f3) = true)
    (a4 : PySem.W.nsIn K mainGlobals "less" = some (some (.ref f4)))
    (l4 : K.lookup f4 = some ⟨oc4, od4, .func (PySem.W.fnOf "less" "less" (defArgs s_less) (defBody s_less) (defScope s_less) .none kV4 dc4 pm4 an4 cd4 ct4), sl4⟩) (c4 : PySem.W.codeIn K cd4 "less" = true) (k4 : PySem.W.keepIn K (.ref f4) = true)
    (a5 : PySem.W.nsIn K mainGlobals "times" = some (some (.ref f5)))
    (l5 : K.lookup f5 = some ⟨oc5, od5, .func (PySem.W.fnOf "times" "times" (defArgs s_times) (defBody s_times) (defScope s_times) .none kV5 dc5 pm5 an5 cd5 ct5), sl5⟩) (c5 : PySem.W.codeIn K cd5 "times" = true) (k5 : PySem.W.keepIn K (.ref f5) = true)
    (a6 : PySem.W.nsIn K mainGlobals "check_chance" = some (some (.ref f6)))
    (l6 : K.lookup f6 = some ⟨oc6, od6, .func (PySem.W.fnOf "check_chance" "check_chance" (defArgs s_check_chance) (defBody s_check_chance) (defScope s_check_chance) .none kV6 dc6 pm6 an6 cd6 ct6), sl6⟩) (c6 : PySem.W.codeIn K cd6 "check_chance" = true) (k6 : PySem.W.keepIn K (.ref f6) = true)
    (a7 : PySem.W.nsIn K mainGlobals "check_chances" = some (some (.ref f7)))
    (l7 : K.lookup f7 = some ⟨oc7, od7, .func (PySem.W.fnOf "check_chances" "check_chances" (defArgs s_check_chances) (defBody s_check_chances) (defScope s_check_chances) .none kV7 dc7 pm7 an7 cd7 ct7), sl7⟩) (c7 : PySem.W.codeIn K cd7 "check_chances" = true) (k7 : PySem.W.keepIn K (.ref f7) = true)
    (a8 : PySem.W.nsIn K mainGlobals "check_rate" = some (some (.ref f8)))
    (l8 : K.lookup f8 = some ⟨oc8, od8, .func (PySem.W.fnOf "check_rate" "check_rate" (defArgs s_check_rate) (defBody s_check_rate) (defScope s_check_rate) .none kV8 dc8 pm8 an8 cd8 ct8), sl8⟩) (c8 : PySem.W.codeIn K cd8 "check_rate" = true) (k8 : PySem.W.keepIn K (.ref f8) = true)
    (a9 : PySem.W.nsIn K mainGlobals "check_years" = some (some (.ref f9)))
    (l9 : K.lookup f9 = some ⟨oc9, od9, .func (PySem.W.fnOf "check_years" "check_years" (defArgs s_check_years) (defBody s_check_years) (defScope s_check_years) .none kV9 dc9 pm9 an9 cd9 ct9), sl9⟩) (c9 : PySem.W.codeIn K cd9 "check_years" = true) (k9 : PySem.W.keepIn K (.ref f9) = true)
    (a10 : PySem.W.findIn K (.ref CTable) "__init__" = some (some (.ref f10))) (i10 : PySem.W.isFn K (.ref f10) = true)
    (l10 : K.lookup f10 = some ⟨oc10, od10, .func (PySem.W.fnOf "__init__" "Table.__init__" (defArgs s_Table___init__) (defBody s_Table___init__) (defScope s_Table___init__) .none kV10 dc10 pm10 an10 cd10 ct10), sl10⟩) (c10 : PySem.W.codeIn K cd10 "Table.__init__" = true) (k10 : PySem.W.keepIn K (.ref f10) = true)
    (a11 : PySem.W.findIn K (.ref CTable) "ages" = some (some (.ref f11))) (i11 : PySem.W.isFn K (.ref f11) = true)
    (l11 : K.lookup f11 = some ⟨oc11, od11, .func (PySem.W.fnOf "ages" "Table.ages" (defArgs s_Table_ages) (defBody s_Table_ages) (defScope s_Table_ages) .none kV11 dc11 pm11 an11 cd11 ct11), sl11⟩) (c11 : PySem.W.codeIn K cd11 "Table.ages" = true) (k11 : PySem.W.keepIn K (.ref f11) = true)
    (a12 : PySem.W.findIn K (.ref CTable) "check_age" = some (some (.ref f12))) (i12 : PySem.W.isFn K (.ref f12) = true)
    (l12 : K.lookup f12 = some ⟨oc12, od12, .func (PySem.W.fnOf "check_age" "Table.check_age" (defArgs s_Table_check_age) (defBody s_Table_check_age) (defScope s_Table_check_age) .none kV12 dc12 pm12 an12 cd12 ct12), sl12⟩) (c12 : PySem.W.codeIn K cd12 "Table.check_age" = true) (k12 : PySem.W.keepIn K (.ref f12) = true)
    (a13 : PySem.W.findIn K (.ref CTable) "lives" = some (some (.ref f13))) (i13 : PySem.W.isFn K (.ref f13) = true)
    (l13 : K.lookup f13 = some ⟨oc13, od13, .func (PySem.W.fnOf "lives" "Table.lives" (defArgs s_Table_lives) (defBody s_Table_lives) (defScope s_Table_lives) .none kV13 dc13 pm13 an13 cd13 ct13), sl13⟩) (c13 : PySem.W.codeIn K cd13 "Table.lives" = true) (k13 : PySem.W.keepIn K (.ref f13) = true)
    (a14 : PySem.W.nsIn K mainGlobals "both_live" = some (some (.ref f14)))
    (l14 : K.lookup f14 = some ⟨oc14, od14, .func (PySem.W.fnOf "both_live" "both_live" (defArgs s_both_live) (defBody s_both_live) (defScope s_both_live) .none kV14 dc14 pm14 an14 cd14 ct14), sl14⟩) (c14 : PySem.W.codeIn K cd14 "both_live" = true) (k14 : PySem.W.keepIn K (.ref f14) = true)
    (a15 : PySem.W.nsIn K mainGlobals "either_lives" = some (some (.ref f15)))
    (l15 : K.lookup f15 = some ⟨oc15, od15, .func (PySem.W.fnOf "either_lives" "either_lives" (defArgs s_either_lives) (defBody s_either_lives) (defScope s_either_lives) .none kV15 dc15 pm15 an15 cd15 ct15), sl15⟩) (c15 : PySem.W.codeIn K cd15 "either_lives" = true) (k15 : PySem.W.keepIn K (.ref f15) = true)
    (a16 : PySem.W.nsIn K mainGlobals "check_rate_ages_years" = some (some (.ref f16)))
    (l16 : K.lookup f16 = some ⟨oc16, od16, .func (PySem.W.fnOf "check_rate_ages_years" "check_rate_ages_years" (defArgs s_check_rate_ages_years) (defBody s_check_rate_ages_years) (defScope s_check_rate_ages_years) .none kV16 dc16 pm16 an16 cd16 ct16), sl16⟩) (c16 : PySem.W.codeIn K cd16 "check_rate_ages_years" = true) (k16 : PySem.W.keepIn K (.ref f16) = true)
    (a17 : PySem.W.nsIn K mainGlobals "paid" = some (some (.ref f17)))
    (l17 : K.lookup f17 = some ⟨oc17, od17, .func (PySem.W.fnOf "paid" "paid" (defArgs s_paid) (defBody s_paid) (defScope s_paid) .none kV17 dc17 pm17 an17 cd17 ct17), sl17⟩) (c17 : PySem.W.codeIn K cd17 "paid" = true) (k17 : PySem.W.keepIn K (.ref f17) = true)
    (a18 : PySem.W.nsIn K mainGlobals "paid_both" = some (some (.ref f18)))
    (l18 : K.lookup f18 = some ⟨oc18, od18, .func (PySem.W.fnOf "paid_both" "paid_both" (defArgs s_paid_both) (defBody s_paid_both) (defScope s_paid_both) .none kV18 dc18 pm18 an18 cd18 ct18), sl18⟩) (c18 : PySem.W.codeIn K cd18 "paid_both" = true) (k18 : PySem.W.keepIn K (.ref f18) = true)
    (a19 : PySem.W.nsIn K mainGlobals "paid_either" = some (some (.ref f19)))
    (l19 : K.lookup f19 = some ⟨oc19, od19, .func (PySem.W.fnOf "paid_either" "paid_either" (defArgs s_paid_either) (defBody s_paid_either) (defScope s_paid_either) .none kV19 dc19 pm19 an19 cd19 ct19), sl19⟩) (c19 : PySem.W.codeIn K cd19 "paid_either" = true) (k19 : PySem.W.keepIn K (.ref f19) = true)
    (a20 : PySem.W.nsIn K mainGlobals "_law_cell_at" = some (some (.ref f20)))
    (l20 : K.lookup f20 = some ⟨oc20, od20, .func (PySem.W.fnOf "_law_cell_at" "_law_cell_at" (defArgs s_law_cell_at) (defBody s_law_cell_at) (defScope s_law_cell_at) .none kV20 dc20 pm20 an20 cd20 ct20), sl20⟩) (c20 : PySem.W.codeIn K cd20 "_law_cell_at" = true) (k20 : PySem.W.keepIn K (.ref f20) = true)
    (a21 : PySem.W.nsIn K mainGlobals "_law_draw" = some (some (.ref f21)))
    (l21 : K.lookup f21 = some ⟨oc21, od21, .func (PySem.W.fnOf "_law_draw" "_law_draw" (defArgs s_law_draw) (defBody s_law_draw) (defScope s_law_draw) .none kV21 dc21 pm21 an21 cd21 ct21), sl21⟩) (c21 : PySem.W.codeIn K cd21 "_law_draw" = true) (k21 : PySem.W.keepIn K (.ref f21) = true)
    (a22 : PySem.W.nsIn K mainGlobals "_law_chances" = some (some (.ref f22)))
    (l22 : K.lookup f22 = some ⟨oc22, od22, .func (PySem.W.fnOf "_law_chances" "_law_chances" (defArgs s_law_chances) (defBody s_law_chances) (defScope s_law_chances) .none kV22 dc22 pm22 an22 cd22 ct22), sl22⟩) (c22 : PySem.W.codeIn K cd22 "_law_chances" = true) (k22 : PySem.W.keepIn K (.ref f22) = true)
    (a23 : PySem.W.nsIn K mainGlobals "_law_rate" = some (some (.ref f23)))
    (l23 : K.lookup f23 = some ⟨oc23, od23, .func (PySem.W.fnOf "_law_rate" "_law_rate" (defArgs s_law_rate) (defBody s_law_rate) (defScope s_law_rate) .none kV23 dc23 pm23 an23 cd23 ct23), sl23⟩) (c23 : PySem.W.codeIn K cd23 "_law_rate" = true) (k23 : PySem.W.keepIn K (.ref f23) = true)
    (a24 : PySem.W.nsIn K mainGlobals "_law_alone" = some (some (.ref f24)))
    (l24 : K.lookup f24 = some ⟨oc24, od24, .func (PySem.W.fnOf "_law_alone" "_law_alone" (defArgs s_law_alone) (defBody s_law_alone) (defScope s_law_alone) .none kV24 dc24 pm24 an24 cd24 ct24), sl24⟩) (c24 : PySem.W.codeIn K cd24 "_law_alone" = true) (k24 : PySem.W.keepIn K (.ref f24) = true)
    (a25 : PySem.W.nsIn K mainGlobals "_law_refused" = some (some (.ref f25)))
    (l25 : K.lookup f25 = some ⟨oc25, od25, .func (PySem.W.fnOf "_law_refused" "_law_refused" (defArgs s_law_refused) (defBody s_law_refused) (defScope s_law_refused) .none kV25 dc25 pm25 an25 cd25 ct25), sl25⟩) (c25 : PySem.W.codeIn K cd25 "_law_refused" = true) (k25 : PySem.W.keepIn K (.ref f25) = true)
    (a26 : PySem.W.nsIn K mainGlobals "law" = some (some (.ref f26)))
    (l26 : K.lookup f26 = some ⟨oc26, od26, .func (PySem.W.fnOf "law" "law" (defArgs s_law) (defBody s_law) (defScope s_law) .none kV26 dc26 pm26 an26 cd26 ct26), sl26⟩) (c26 : PySem.W.codeIn K cd26 "law" = true) (k26 : PySem.W.keepIn K (.ref f26) = true)
    (pgTable : PySem.W.plainGet K CTable Str.empty = true) (hdTable : PySem.W.hasDictIn K CTable = true) (poTable : PySem.W.plainOver K CTable = true) (saTable : PySem.W.findIn K (.ref CTable) "__setattr__" = some (some (.builtin "object.__setattr__"))) (mkTable : PySem.W.makesIn K CTable = true) (kcTable : PySem.W.keepIn K (.ref CTable) = true)
    (nTable_chances : PySem.W.findIn K (.ref CTable) "chances" = some none)
    {na0 : Addr} {nt0 nu0 : Tok} {no0 : Option Addr} {nn0 : Nat} {ns0 : Array (Option Value)} (ca0 : PySem.W.nsIn K mainGlobals "NOUGHT" = some (some (.ref na0))) (cl0 : K.lookup na0 = some ⟨.type "tuple", no0, .seq #[.int 0 nt0, .int 1 nu0] nn0, ns0⟩)
    {na1 : Addr} {nt1 nu1 : Tok} {no1 : Option Addr} {nn1 : Nat} {ns1 : Array (Option Value)} (ca1 : PySem.W.nsIn K mainGlobals "ONE" = some (some (.ref na1))) (cl1 : K.lookup na1 = some ⟨.type "tuple", no1, .seq #[.int 1 nt1, .int 1 nu1] nn1, ns1⟩)
    {nt2 : Tok} (ca2 : PySem.W.nsIn K mainGlobals "MOST_AGES" = some (some (.int 20 nt2)))
    {nt3 : Tok} (ca3 : PySem.W.nsIn K mainGlobals "MOST_UNDER" = some (some (.int 10000 nt3)))
    (z0 : PySem.W.nsIn K mainGlobals "len" = some none)
    (z1 : PySem.W.nsIn K mainGlobals "abs" = some none)
    (z2 : PySem.W.nsIn K mainGlobals "list" = some none)
    (z3 : PySem.W.nsIn K mainGlobals "range" = some none)
    (z4 : PySem.W.nsIn K mainGlobals "isinstance" = some none)
    (z5 : PySem.W.nsIn K mainGlobals "int" = some none)
    (z6 : PySem.W.nsIn K mainGlobals "bool" = some none)
    (z7 : PySem.W.nsIn K mainGlobals "enumerate" = some none)
    (z8 : PySem.W.nsIn K mainGlobals "min" = some none)
    (z9 : PySem.W.nsIn K mainGlobals "reversed" = some none)
    (z10 : PySem.W.nsIn K mainGlobals "ValueError" = some none)
    {CP Xt Xr Xp Xn Xc : Addr}
    (xaP : PySem.W.nsIn K mainGlobals "PledgeError" = some (some (.ref CP)))
    (xat : PySem.W.nsIn K mainGlobals "BadTable" = some (some (.ref Xt)))
    (xar : PySem.W.nsIn K mainGlobals "BadRate" = some (some (.ref Xr)))
    (xap : PySem.W.nsIn K mainGlobals "BadPledge" = some (some (.ref Xp)))
    (xan : PySem.W.nsIn K mainGlobals "NoYear" = some (some (.ref Xn)))
    (xac : PySem.W.nsIn K mainGlobals "BadCount" = some (some (.ref Xc)))
    (xnd : [CP, Xt, Xr, Xp, Xn, Xc].Nodup)
    (xpb : PySem.W.kitOne K (.ref CP) (.type "BaseException") = some true)
    (xcg : PySem.W.specialIn K (.builtin "object.__class__") "__get__" = some (some (.builtin "getset_descriptor.__get__")))
    (xtk : PySem.W.takesIn K (.builtin "object.__class__") = some true)
    (xo1t : PySem.W.excIn K Xt mroV "ValueError.__new__" = true)
    (xo2t : PySem.W.mroIn K Xt (.type "BaseException") = some true)
    (xo3t : PySem.W.findIn K (.ref Xt) "__getattribute__" = some (some (.builtin "BaseException.__getattribute__")))
    (xo4t : PySem.W.findIn K (.ref Xt) "__getattr__" = some none)
    (xo5t : PySem.W.findIn K (.ref Xt) "__class__" = some (some (.builtin "object.__class__")))
    (xo6t : PySem.W.mroIn K Xt (.type "object") = some true)
    (xpt : PySem.W.kitOne K (.ref Xt) (.ref CP) = some true)
    (xvt : PySem.W.kitOne K (.ref Xt) (.type "ValueError") = some true)
    (xitr : PySem.W.kitOne K (.ref Xt) (.ref Xr) = some false)
    (xitp : PySem.W.kitOne K (.ref Xt) (.ref Xp) = some false)
    (xitn : PySem.W.kitOne K (.ref Xt) (.ref Xn) = some false)
    (xitc : PySem.W.kitOne K (.ref Xt) (.ref Xc) = some false)
    (xo1r : PySem.W.excIn K Xr mroV "ValueError.__new__" = true)
    (xo2r : PySem.W.mroIn K Xr (.type "BaseException") = some true)
    (xo3r : PySem.W.findIn K (.ref Xr) "__getattribute__" = some (some (.builtin "BaseException.__getattribute__")))
    (xo4r : PySem.W.findIn K (.ref Xr) "__getattr__" = some none)
    (xo5r : PySem.W.findIn K (.ref Xr) "__class__" = some (some (.builtin "object.__class__")))
    (xo6r : PySem.W.mroIn K Xr (.type "object") = some true)
    (xpr : PySem.W.kitOne K (.ref Xr) (.ref CP) = some true)
    (xvr : PySem.W.kitOne K (.ref Xr) (.type "ValueError") = some true)
    (xirt : PySem.W.kitOne K (.ref Xr) (.ref Xt) = some false)
    (xirp : PySem.W.kitOne K (.ref Xr) (.ref Xp) = some false)
    (xirn : PySem.W.kitOne K (.ref Xr) (.ref Xn) = some false)
    (xirc : PySem.W.kitOne K (.ref Xr) (.ref Xc) = some false)
    (xo1p : PySem.W.excIn K Xp mroV "ValueError.__new__" = true)
    (xo2p : PySem.W.mroIn K Xp (.type "BaseException") = some true)
    (xo3p : PySem.W.findIn K (.ref Xp) "__getattribute__" = some (some (.builtin "BaseException.__getattribute__")))
    (xo4p : PySem.W.findIn K (.ref Xp) "__getattr__" = some none)
    (xo5p : PySem.W.findIn K (.ref Xp) "__class__" = some (some (.builtin "object.__class__")))
    (xo6p : PySem.W.mroIn K Xp (.type "object") = some true)
    (xpp : PySem.W.kitOne K (.ref Xp) (.ref CP) = some true)
    (xvp : PySem.W.kitOne K (.ref Xp) (.type "ValueError") = some true)
    (xipt : PySem.W.kitOne K (.ref Xp) (.ref Xt) = some false)
    (xipr : PySem.W.kitOne K (.ref Xp) (.ref Xr) = some false)
    (xipn : PySem.W.kitOne K (.ref Xp) (.ref Xn) = some false)
    (xipc : PySem.W.kitOne K (.ref Xp) (.ref Xc) = some false)
    (xo1n : PySem.W.excIn K Xn mroV "ValueError.__new__" = true)
    (xo2n : PySem.W.mroIn K Xn (.type "BaseException") = some true)
    (xo3n : PySem.W.findIn K (.ref Xn) "__getattribute__" = some (some (.builtin "BaseException.__getattribute__")))
    (xo4n : PySem.W.findIn K (.ref Xn) "__getattr__" = some none)
    (xo5n : PySem.W.findIn K (.ref Xn) "__class__" = some (some (.builtin "object.__class__")))
    (xo6n : PySem.W.mroIn K Xn (.type "object") = some true)
    (xpn : PySem.W.kitOne K (.ref Xn) (.ref CP) = some true)
    (xvn : PySem.W.kitOne K (.ref Xn) (.type "ValueError") = some true)
    (xint : PySem.W.kitOne K (.ref Xn) (.ref Xt) = some false)
    (xinr : PySem.W.kitOne K (.ref Xn) (.ref Xr) = some false)
    (xinp : PySem.W.kitOne K (.ref Xn) (.ref Xp) = some false)
    (xinc : PySem.W.kitOne K (.ref Xn) (.ref Xc) = some false)
    (xo1c : PySem.W.excIn K Xc mroV "ValueError.__new__" = true)
    (xo2c : PySem.W.mroIn K Xc (.type "BaseException") = some true)
    (xo3c : PySem.W.findIn K (.ref Xc) "__getattribute__" = some (some (.builtin "BaseException.__getattribute__")))
    (xo4c : PySem.W.findIn K (.ref Xc) "__getattr__" = some none)
    (xo5c : PySem.W.findIn K (.ref Xc) "__class__" = some (some (.builtin "object.__class__")))
    (xo6c : PySem.W.mroIn K Xc (.type "object") = some true)
    (xpc : PySem.W.kitOne K (.ref Xc) (.ref CP) = some true)
    (xvc : PySem.W.kitOne K (.ref Xc) (.type "ValueError") = some true)
    (xict : PySem.W.kitOne K (.ref Xc) (.ref Xt) = some false)
    (xicr : PySem.W.kitOne K (.ref Xc) (.ref Xr) = some false)
    (xicp : PySem.W.kitOne K (.ref Xc) (.ref Xp) = some false)
    (xicn : PySem.W.kitOne K (.ref Xc) (.ref Xn) = some false)
    : ∃ fd : FuncData, (∀ (s : Shared) (v : Value), BindsTo s fd ⟨[v], []⟩ [("script", v)]) ∧ ∀ base : Heap, K.In base → base.Ns mainGlobals mg → FnOk l.prog w K mg base CX0 7 fa fd ["script"] (SpD K lawG) := by
  have e := hfa.symm.trans (PySem.W.mg_of X G a26)
  cases e
  let xs : Exs := ⟨Xt, Xr, Xp, Xn, Xc⟩
  have xo := ExsOk.of (x := xs) xnd ⟨xo1t, xo2t, xo3t, xo4t, xo5t, xo6t⟩ ⟨xo1r, xo2r, xo3r, xo4r, xo5r, xo6r⟩ ⟨xo1p, xo2p, xo3p, xo4p, xo5p, xo6p⟩ ⟨xo1n, xo2n, xo3n, xo4n, xo5n, xo6n⟩ ⟨xo1c, xo2c, xo3c, xo4c, xo5c, xo6c⟩ xcg xtk
    (fun C hC T hT hne => by
      simp only [Exs.l, List.mem_cons, List.not_mem_nil, or_false] at hC hT
      rcases hC with h1 | h1 | h1 | h1 | h1 <;> rcases hT with h2 | h2 | h2 | h2 | h2 <;> subst h1 <;> subst h2 <;> first | exact absurd rfl hne | assumption)
    (fun C hC => by
      simp only [Exs.l, List.mem_cons, List.not_mem_nil, or_false] at hC
      rcases hC with h1 | h1 | h1 | h1 | h1 <;> subst h1 <;> assumption)
    (fun C hC => by
      simp only [Exs.l, List.mem_cons, List.not_mem_nil, or_false] at hC
      rcases hC with h1 | h1 | h1 | h1 | h1 <;> subst h1 <;> assumption) xpb
  have q_PledgeError := PySem.W.mg_of X G xaP
  have q_BadTable := PySem.W.mg_of X G xat
  have q_BadRate := PySem.W.mg_of X G xar
  have q_BadPledge := PySem.W.mg_of X G xap
  have q_NoYear := PySem.W.mg_of X G xan
  have q_BadCount := PySem.W.mg_of X G xac
  have B : Nob mg := ⟨PySem.W.mg_none_of X G z0, PySem.W.mg_none_of X G z1, PySem.W.mg_none_of X G z2, PySem.W.mg_none_of X G z3, PySem.W.mg_none_of X G z4, PySem.W.mg_none_of X G z5, PySem.W.mg_none_of X G z6, PySem.W.mg_none_of X G z7, PySem.W.mg_none_of X G z8, PySem.W.mg_none_of X G z9, PySem.W.mg_none_of X G z10⟩
  have T_Table : ClTable K CTable := ⟨⟨pgTable, hdTable, poTable, saTable⟩, nTable_chances⟩
  have cst_NOUGHT := (show Cst mg K "NOUGHT" (P 0) from cst_pair (PySem.W.mg_of X G ca0) cl0)
  have cst_ONE := (show Cst mg K "ONE" (P 1) from cst_pair (PySem.W.mg_of X G ca1) cl1)
  have cst_MOST_AGES := (show Cst mg K "MOST_AGES" (.int 20) from cst_int (PySem.W.mg_of X G ca2))
  have cst_MOST_UNDER := (show Cst mg K "MOST_UNDER" (.int 10000) from cst_int (PySem.W.mg_of X G ca3))
  have F1 := fun_mk (st := s_greatest_shared) l1 c1 k1
  have b1 := F1.binds (ps := ["one", "other"]) fun _ _ _ _ _ _ us hl => by obtain ⟨_, _, rfl⟩ := len2 hl; rfl
  have F2 := fun_mk (st := s_part) l2 c2 k2
  have b2 := F2.binds (ps := ["top", "under"]) fun _ _ _ _ _ _ us hl => by obtain ⟨_, _, rfl⟩ := len2 hl; rfl
  have F3 := fun_mk (st := s_plus) l3 c3 k3
  have b3 := F3.binds (ps := ["one", "other"]) fun _ _ _ _ _ _ us hl => by obtain ⟨_, _, rfl⟩ := len2 hl; rfl
  have F4 := fun_mk (st := s_less) l4 c4 k4
  have b4 := F4.binds (ps := ["one", "other"]) fun _ _ _ _ _ _ us hl => by obtain ⟨_, _, rfl⟩ := len2 hl; rfl
  have F5 := fun_mk (st := s_times) l5 c5 k5
  have b5 := F5.binds (ps := ["one", "other"]) fun _ _ _ _ _ _ us hl => by obtain ⟨_, _, rfl⟩ := len2 hl; rfl
  have F6 := fun_mk (st := s_check_chance) l6 c6 k6
  have b6 := F6.binds (ps := ["chance", "is_last"]) fun _ _ _ _ _ _ us hl => by obtain ⟨_, _, rfl⟩ := len2 hl; rfl
  have F7 := fun_mk (st := s_check_chances) l7 c7 k7
  have b7 := F7.binds (ps := ["chances"]) fun _ _ _ _ _ _ us hl => by obtain ⟨_, rfl⟩ := len1 hl; rfl
  have F8 := fun_mk (st := s_check_rate) l8 c8 k8
  have b8 := F8.binds (ps := ["rate"]) fun _ _ _ _ _ _ us hl => by obtain ⟨_, rfl⟩ := len1 hl; rfl
  have F9 := fun_mk (st := s_check_years) l9 c9 k9
  have b9 := F9.binds (ps := ["years"]) fun _ _ _ _ _ _ us hl => by obtain ⟨_, rfl⟩ := len1 hl; rfl
  have F10 := fun_mk (st := s_Table___init__) l10 c10 k10
  have b10 := F10.binds (ps := ["self", "chances"]) fun _ _ _ _ _ _ us hl => by obtain ⟨_, _, rfl⟩ := len2 hl; rfl
  have F11 := fun_mk (st := s_Table_ages) l11 c11 k11
  have b11 := F11.binds (ps := ["self"]) fun _ _ _ _ _ _ us hl => by obtain ⟨_, rfl⟩ := len1 hl; rfl
  have F12 := fun_mk (st := s_Table_check_age) l12 c12 k12
  have b12 := F12.binds (ps := ["self", "age"]) fun _ _ _ _ _ _ us hl => by obtain ⟨_, _, rfl⟩ := len2 hl; rfl
  have F13 := fun_mk (st := s_Table_lives) l13 c13 k13
  have b13 := F13.binds (ps := ["self", "age", "years"]) fun _ _ _ _ _ _ us hl => by obtain ⟨_, _, _, rfl⟩ := len3 hl; rfl
  have F14 := fun_mk (st := s_both_live) l14 c14 k14
  have b14 := F14.binds (ps := ["table", "one", "other", "years"]) fun _ _ _ _ _ _ us hl => by obtain ⟨_, _, _, _, rfl⟩ := len4 hl; rfl
  have F15 := fun_mk (st := s_either_lives) l15 c15 k15
  have b15 := F15.binds (ps := ["table", "one", "other", "years"]) fun _ _ _ _ _ _ us hl => by obtain ⟨_, _, _, _, rfl⟩ := len4 hl; rfl
  have F16 := fun_mk (st := s_check_rate_ages_years) l16 c16 k16
  have b16 := F16.binds (ps := ["table", "rate", "ages", "years"]) fun _ _ _ _ _ _ us hl => by obtain ⟨_, _, _, _, rfl⟩ := len4 hl; rfl
  have F17 := fun_mk (st := s_paid) l17 c17 k17
  have b17 := F17.binds (ps := ["table", "rate", "age", "years"]) fun _ _ _ _ _ _ us hl => by obtain ⟨_, _, _, _, rfl⟩ := len4 hl; rfl
  have F18 := fun_mk (st := s_paid_both) l18 c18 k18
  have b18 := F18.binds (ps := ["table", "rate", "one", "other", "years"]) fun _ _ _ _ _ _ us hl => by obtain ⟨_, _, _, _, _, rfl⟩ := len5 hl; rfl
  have F19 := fun_mk (st := s_paid_either) l19 c19 k19
  have b19 := F19.binds (ps := ["table", "rate", "one", "other", "years"]) fun _ _ _ _ _ _ us hl => by obtain ⟨_, _, _, _, _, rfl⟩ := len5 hl; rfl
  have F20 := fun_mk (st := s_law_cell_at) l20 c20 k20
  have b20 := F20.binds (ps := ["script", "k"]) fun _ _ _ _ _ _ us hl => by obtain ⟨_, _, rfl⟩ := len2 hl; rfl
  have F21 := fun_mk (st := s_law_draw) l21 c21 k21
  have b21 := F21.binds (ps := ["script", "k"]) fun _ _ _ _ _ _ us hl => by obtain ⟨_, _, rfl⟩ := len2 hl; rfl
  have F22 := fun_mk (st := s_law_chances) l22 c22 k22
  have b22 := F22.binds (ps := ["script"]) fun _ _ _ _ _ _ us hl => by obtain ⟨_, rfl⟩ := len1 hl; rfl
  have F23 := fun_mk (st := s_law_rate) l23 c23 k23
  have b23 := F23.binds (ps := ["script"]) fun _ _ _ _ _ _ us hl => by obtain ⟨_, rfl⟩ := len1 hl; rfl
  have F24 := fun_mk (st := s_law_alone) l24 c24 k24
  have b24 := F24.binds (ps := ["e"]) fun _ _ _ _ _ _ us hl => by obtain ⟨_, rfl⟩ := len1 hl; rfl
  have F25 := fun_mk (st := s_law_refused) l25 c25 k25
  have b25 := F25.binds (ps := ["call", "table", "rate", "one", "other", "years"]) fun _ _ _ _ _ _ us hl => by obtain ⟨_, _, _, _, _, _, rfl⟩ := len6 hl; rfl
  have F26 := fun_mk (st := s_law) l26 c26 k26
  refine ⟨PySem.W.fnOf "law" "law" (defArgs s_law) (defBody s_law) (defScope s_law) .none kV26 dc26 pm26 an26 cd26 ct26, fun s v => .of_eq rfl, fun base _ _ => ?_⟩
  have gf_greatest_shared : Fn l.prog w K mg base 1 "greatest_shared" ["one", "other"] gcdG := fn_greatest_shared F1 (PySem.W.mg_of X G a1) b1
  have gf_part : Fn l.prog w K mg base 2 "part" ["top", "under"] partG := fn_part F2 (PySem.W.mg_of X G a2) b2 B gf_greatest_shared
  have gf_check_chance : Fn l.prog w K mg base 1 "check_chance" ["chance", "is_last"] ckG := fn_check_chance F6 (PySem.W.mg_of X G a6) b6 cst_MOST_UNDER
  have gf_check_chances : Fn l.prog w K mg base 2 "check_chances" ["chances"] cksG := fn_check_chances F7 (PySem.W.mg_of X G a7) b7 B gf_check_chance cst_MOST_AGES
  have gi_Table : Ini l.prog w K mg base 3 "Table" CTable ["chances"] ["self", "chances"] tabG := ⟨_, _, ⟨mkTable, a10, i10, kcTable⟩, in_Table F10 T_Table gf_part gf_check_chances, PySem.W.mg_of X G aCTable, b10⟩
  have gf_law_cell_at : Fn l.prog w K mg base 1 "_law_cell_at" ["script", "k"] cellG := fn_law_cell_at F20 (PySem.W.mg_of X G a20) b20 B
  have gf_law_draw : Fn l.prog w K mg base 2 "_law_draw" ["script", "k"] drawG := fn_law_draw F21 (PySem.W.mg_of X G a21) b21 gf_law_cell_at
  have gf_law_chances : Fn l.prog w K mg base 3 "_law_chances" ["script"] chancesG := fn_law_chances F22 (PySem.W.mg_of X G a22) b22 B gf_law_draw
  have gf_law_rate : Fn l.prog w K mg base 3 "_law_rate" ["script"] rateG := fn_law_rate F23 (PySem.W.mg_of X G a23) b23 gf_law_draw
  have gf_times : Fn l.prog w K mg base 3 "times" ["one", "other"] timesG := fn_times F5 (PySem.W.mg_of X G a5) b5 gf_part
  have gf_less : Fn l.prog w K mg base 3 "less" ["one", "other"] lessG := fn_less F4 (PySem.W.mg_of X G a4) b4 gf_part
  have gf_check_years : FnX l.prog w K mg base 1 "check_years" ["years"] (ckyX xs) := fn_check_years F9 (PySem.W.mg_of X G a9) b9 xo q_NoYear
  have gm_ages : Mt l.prog w K mg base 1 CTable "ages" ["self"] (agesG CTable) := mt_ages F11 ⟨a11, i11, k11⟩ b11 B T_Table
  have gm_check_age : MtX l.prog w K mg base 2 CTable "check_age" ["self", "age"] (ckaX xs CTable) := mt_check_age F12 ⟨a12, i12, k12⟩ b12 T_Table gm_ages xo q_NoYear
  have gm_lives : MtX l.prog w K mg base 4 CTable "lives" ["self", "age", "years"] (livesB xs CTable) := mt_lives F13 ⟨a13, i13, k13⟩ b13 T_Table gf_less gf_times gf_check_years gm_ages gm_check_age cst_NOUGHT cst_ONE
  have gf_both_live : FnX l.prog w K mg base 5 "both_live" ["table", "one", "other", "years"] (twoX xs CTable) := fn_both_live F14 (PySem.W.mg_of X G a14) b14 T_Table gf_times gm_lives
  have gf_plus : Fn l.prog w K mg base 3 "plus" ["one", "other"] plusG := fn_plus F3 (PySem.W.mg_of X G a3) b3 gf_part
  have gf_either_lives : FnX l.prog w K mg base 5 "either_lives" ["table", "one", "other", "years"] (twoX xs CTable) := fn_either_lives F15 (PySem.W.mg_of X G a15) b15 T_Table gf_plus gm_lives
  have gf_check_rate : FnX l.prog w K mg base 1 "check_rate" ["rate"] (ckrX xs) := fn_check_rate F8 (PySem.W.mg_of X G a8) b8 cst_MOST_UNDER xo q_BadRate
  have gf_check_rate_ages_years : FnX l.prog w K mg base 3 "check_rate_ages_years" ["table", "rate", "ages", "years"] (cravX xs CTable) := fn_check_rate_ages_years F16 (PySem.W.mg_of X G a16) b16 T_Table gf_check_rate gf_check_years gm_check_age
  have gf_paid : FnX l.prog w K mg base 4 "paid" ["table", "rate", "age", "years"] (paid1X xs CTable) := fn_paid F17 (PySem.W.mg_of X G a17) b17 gf_check_rate_ages_years
  have gf_paid_both : FnX l.prog w K mg base 4 "paid_both" ["table", "rate", "one", "other", "years"] (paid2X xs CTable) := fn_paid_both F18 (PySem.W.mg_of X G a18) b18 gf_check_rate_ages_years
  have gf_paid_either : FnX l.prog w K mg base 4 "paid_either" ["table", "rate", "one", "other", "years"] (paid2X xs CTable) := fn_paid_either F19 (PySem.W.mg_of X G a19) b19 gf_check_rate_ages_years
  have gf_law_alone : Fn l.prog w K mg base 1 "_law_alone" ["e"] (aloneG xs) := fn_law_alone F24 (PySem.W.mg_of X G a24) b24 B xo q_BadCount q_BadPledge q_BadRate q_BadTable q_NoYear q_PledgeError
  have gf_law_refused : Fn l.prog w K mg base 6 "_law_refused" ["call", "table", "rate", "one", "other", "years"] (ref16G xs CTable) := fn_law_refused F25 (PySem.W.mg_of X G a25) b25 gf_both_live gf_either_lives gf_paid gf_paid_both gf_paid_either gf_law_alone xo q_PledgeError
  exact ok_law F26 B T_Table gi_Table gf_law_draw gf_law_chances gf_law_rate gf_law_refused xo
end
theorem walk {l : PySem.W.OpenLaw} {q : Program} {loose : List Str} {XP : (Str → Option Value) → Heap → Prop} {YP : World → Heap → Prop} {d : DefRec} {K : Params → PySem.W.Frag} (hn : l.most = some 63) (hdf : d.params.defaults = [])
    (hY : ∀ (w : World) (h : Heap), YP w h → (K w.params).In h)
    (F : ∀ (w : World) (mg : Str → Option Value) (fa : Addr) (h : Heap), (K w.params).In h → h.Ns mainGlobals mg → mg d.name = some (.ref fa) →
      ∃ fd : FuncData, (∀ (s : Shared) (u : Value), BindsTo s fd ⟨[u], []⟩ [("script", u)]) ∧ ∀ base : Heap, (K w.params).In base → base.Ns mainGlobals mg → FnOk l.prog w (K w.params) mg base CX0 7 fa fd ["script"] (SpD (K w.params) lawG)) :
    PySem.W.WalkO q loose XP YP l.row.toRowW d [] (fun f vs => PySem.call f vs) :=
  L2.walk_of (n := 63) (k := 7) (x := "script") (CX := fun _ => CX0) (sp := fun w => SpD (K w.params) lawG) hn (by decide) hdf ⟨rfl, by decide, by decide⟩ hY F
    (fun _ H a ns hl _ hS => ⟨H, [.scr ns], .bl true, Same.refl H, ⟨.ref a, [], rfl, ⟨a, rfl, hS⟩, rfl⟩, if_pos hl, fun v H' _ r => r⟩) fun _ _ _ _ _ z => z
end K16
theorem PySem.W.Fast.tw9869039868996729861 : True := trivial
theorem PySem.W.Fast.tw10892294998823494711 : True := trivial
theorem PySem.W.Fast.tw7748167882375779514 : True := trivial
theorem PySem.W.Fast.tw16790437622803162936 : True := trivial
theorem PySem.W.Fast.tw14424370932539785326 : True := trivial
theorem PySem.W.Fast.tw5027552340379457031 : True := trivial
theorem PySem.W.Fast.tw13032594835626883870 : True := trivial
theorem PySem.W.Fast.tw907577181822289199 : True := trivial
theorem PySem.W.Fast.tw7449539774103050978 : True := trivial
theorem PySem.W.Fast.tw15274506724397145429 : True := trivial
theorem PySem.W.Fast.tw11880941980214890049 : True := trivial
theorem PySem.W.Fast.tw6689314295042911445 : True := trivial
theorem PySem.W.Fast.tw4217907084028825892 : True := trivial
theorem PySem.W.Fast.tw15907908291023934494 : True := trivial
theorem PySem.W.Fast.tw17110183668882196848 : True := trivial
theorem PySem.W.Fast.tw2000727100769847516 : True := trivial
theorem PySem.W.Fast.tw12338498104970106789 : True := trivial
theorem PySem.W.Fast.tw10308819925124759271 : True := trivial
theorem PySem.W.Fast.tw15380892263856406899 : True := trivial
theorem PySem.W.Fast.tw11995529303719905124 : True := trivial
theorem PySem.W.Fast.tw2023922945860704861 : True := trivial
theorem PySem.W.Fast.tw12851260573076246033 : True := trivial
theorem PySem.W.Fast.tw10847688250170430062 : True := trivial
theorem PySem.W.Fast.tw10203183191122820977 : True := trivial
theorem PySem.W.Fast.tw10917816842697116909 : True := trivial
theorem PySem.W.Fast.tw3015267170446840514 : True := trivial
theorem PySem.W.Fast.tw6386756796809248256 : True := trivial
theorem PySem.W.Fast.tw11760427816676029184 : True := trivial
theorem PySem.W.Fast.tw708698864048435227 : True := trivial
theorem PySem.W.Fast.tw6029218838494043641 : True := trivial
theorem PySem.W.Fast.tw11579749336556477313 : True := trivial
theorem PySem.W.Fast.tw146716237157446060 : True := trivial
theorem PySem.W.Fast.tw5520051156186353271 : True := trivial
theorem PySem.W.Fast.tw6619028866587901481 : True := trivial
theorem PySem.W.Fast.tw15410400212330759227 : True := trivial
theorem PySem.W.Fast.tw4732361793424535595 : True := trivial
theorem PySem.W.Fast.tw7454477176296042070 : True := trivial
theorem PySem.W.Fast.tw12890417141914902024 : True := trivial
theorem PySem.W.Fast.tw6316112743204812935 : True := trivial
theorem PySem.W.Fast.tw12730223152988508214 : True := trivial
theorem PySem.W.Fast.tw16167603028245763143 : True := trivial
theorem PySem.W.Fast.tw5717126712980831127 : True := trivial
theorem PySem.W.Fast.tw703172466786477403 : True := trivial
theorem PySem.W.Fast.tw3611734751344068540 : True := trivial
theorem PySem.W.Fast.tw12248773449957225742 : True := trivial
theorem PySem.W.Fast.tw12051318637726293278 : True := trivial
theorem PySem.W.Fast.tw14703340236196408916 : True := trivial
theorem PySem.W.Fast.tw4846724671375391111 : True := trivial
theorem PySem.W.Fast.tw4676541226001755546 : True := trivial
theorem PySem.W.Fast.tw10409207022119379751 : True := trivial
theorem PySem.W.Fast.tw7817105683182799492 : True := trivial
theorem PySem.W.Fast.tw7137206915858963863 : True := trivial
theorem PySem.W.Fast.tw16203250131191487538 : True := trivial
theorem PySem.W.Fast.tw8824798800056664382 : True := trivial
theorem PySem.W.Fast.tw6156738994898300296 : True := trivial
theorem PySem.W.Fast.tw2240146620535616797 : True := trivial
theorem PySem.W.Fast.tw12585965863165362603 : True := trivial
theorem PySem.W.Fast.tw11031877128589870788 : True := trivial
theorem PySem.W.Fast.tw12648739752267867907 : True := trivial
theorem PySem.W.Fast.tw4356118585166454405 : True := trivial
theorem PySem.W.Fast.tw17633101719636108474 : True := trivial
theorem PySem.W.Fast.tw8377997234349429200 : True := trivial
theorem PySem.W.Fast.tw2795685972474609587 : True := trivial
theorem PySem.W.Fast.tw6996787587519022953 : True := trivial
theorem PySem.W.Fast.tw6220841907852426233 : True := trivial
theorem PySem.W.Fast.tw8246407833952180490 : True := trivial
theorem PySem.W.Fast.tw8660704780122856699 : True := trivial
open PySem PySem.W PyProof.Rows
set_option maxRecDepth 100000 in
set_option maxHeartbeats 0 in
theorem PySem.Challenge.cw_yearpledge_k16_couples_refused_holds : PySem.Challenge.rw_yearpledge_k16_couples_refused.Holds := by
  w_on; o_law; k_head; (case hw => w_witness2)
  k_fill
  refine K16.walk (l := PySem.Challenge.rw_yearpledge_k16_couples_refused) rfl rfl (fun w h Y => PySem.W.kIn_of Y) ?F
  case F =>
    intro w mg fa h KX G hmg
    refine' K16.all_mk KX G hmg ?aCTable ?a1 ?l1 ?c1 ?k1 ?a2 ?l2 ?c2 ?k2 ?a3 ?l3 ?c3 ?k3 ?a4 ?l4 ?c4 ?k4 ?a5 ?l5 ?c5 ?k5 ?a6 ?l6 ?c6 ?k6 ?a7 ?l7 ?c7 ?k7 ?a8 ?l8 ?c8 ?k8 ?a9 ?l9 ?c9 ?k9 ?a10 ?i10 ?l10 ?c10 ?k10 ?a11 ?i11 ?l11 ?c11 ?k11 ?a12 ?i12 ?l12 ?c12 ?k12 ?a13 ?i13 ?l13 ?c13 ?k13 ?a14 ?l14 ?c14 ?k14 ?a15 ?l15 ?c15 ?k15 ?a16 ?l16 ?c16 ?k16 ?a17 ?l17 ?c17 ?k17 ?a18 ?l18 ?c18 ?k18 ?a19 ?l19 ?c19 ?k19 ?a20 ?l20 ?c20 ?k20 ?a21 ?l21 ?c21 ?k21 ?a22 ?l22 ?c22 ?k22 ?a23 ?l23 ?c23 ?k23 ?a24 ?l24 ?c24 ?k24 ?a25 ?l25 ?c25 ?k25 ?a26 ?l26 ?c26 ?k26 ?pgTable ?hdTable ?poTable ?saTable ?mkTable ?kcTable ?nTable_chances ?ca0 ?cl0 ?ca1 ?cl1 ?ca2 ?ca3 ?z0 ?z1 ?z2 ?z3 ?z4 ?z5 ?z6 ?z7 ?z8 ?z9 ?z10 ?xaP ?xat ?xar ?xap ?xan ?xac ?xnd ?xpb ?xcg ?xtk ?xo1t ?xo2t ?xo3t ?xo4t ?xo5t ?xo6t ?xpt ?xvt ?xitr ?xitp ?xitn ?xitc ?xo1r ?xo2r ?xo3r ?xo4r ?xo5r ?xo6r ?xpr ?xvr ?xirt ?xirp ?xirn ?xirc ?xo1p ?xo2p ?xo3p ?xo4p ?xo5p ?xo6p ?xpp ?xvp ?xipt ?xipr ?xipn ?xipc ?xo1n ?xo2n ?xo3n ?xo4n ?xo5n ?xo6n ?xpn ?xvn ?xint ?xinr ?xinp ?xinc ?xo1c ?xo2c ?xo3c ?xo4c ?xo5c ?xo6c ?xpc ?xvc ?xict ?xicr ?xicp ?xicn
    (case aCTable => k_is)
    (case a1 => k_is); (case l1 => k_is); (case c1 => k_is); (case k1 => k_is)
    (case a2 => k_is); (case l2 => k_is); (case c2 => k_is); (case k2 => k_is)
    (case a3 => k_is); (case l3 => k_is); (case c3 => k_is); (case k3 => k_is)
    (case a4 => k_is); (case l4 => k_is); (case c4 => k_is); (case k4 => k_is)
    (case a5 => k_is); (case l5 => k_is); (case c5 => k_is); (case k5 => k_is)
    (case a6 => k_is); (case l6 => k_is); (case c6 => k_is); (case k6 => k_is)
    (case a7 => k_is); (case l7 => k_is); (case c7 => k_is); (case k7 => k_is)
    (case a8 => k_is); (case l8 => k_is); (case c8 => k_is); (case k8 => k_is)
    (case a9 => k_is); (case l9 => k_is); (case c9 => k_is); (case k9 => k_is)
    (case a10 => k_is); (case i10 => k_is); (case l10 => k_is); (case c10 => k_is); (case k10 => k_is)
    (case a11 => k_is); (case i11 => k_is); (case l11 => k_is); (case c11 => k_is); (case k11 => k_is)
    (case a12 => k_is); (case i12 => k_is); (case l12 => k_is); (case c12 => k_is); (case k12 => k_is)
    (case a13 => k_is); (case i13 => k_is); (case l13 => k_is); (case c13 => k_is); (case k13 => k_is)
    (case a14 => k_is); (case l14 => k_is); (case c14 => k_is); (case k14 => k_is)
    (case a15 => k_is); (case l15 => k_is); (case c15 => k_is); (case k15 => k_is)
    (case a16 => k_is); (case l16 => k_is); (case c16 => k_is); (case k16 => k_is)
    (case a17 => k_is); (case l17 => k_is); (case c17 => k_is); (case k17 => k_is)
    (case a18 => k_is); (case l18 => k_is); (case c18 => k_is); (case k18 => k_is)
    (case a19 => k_is); (case l19 => k_is); (case c19 => k_is); (case k19 => k_is)
    (case a20 => k_is); (case l20 => k_is); (case c20 => k_is); (case k20 => k_is)
    (case a21 => k_is); (case l21 => k_is); (case c21 => k_is); (case k21 => k_is)
    (case a22 => k_is); (case l22 => k_is); (case c22 => k_is); (case k22 => k_is)
    (case a23 => k_is); (case l23 => k_is); (case c23 => k_is); (case k23 => k_is)
    (case a24 => k_is); (case l24 => k_is); (case c24 => k_is); (case k24 => k_is)
    (case a25 => k_is); (case l25 => k_is); (case c25 => k_is); (case k25 => k_is)
    (case a26 => k_is); (case l26 => k_is); (case c26 => k_is); (case k26 => k_is)
    (case pgTable => k_is); (case hdTable => k_is); (case poTable => k_is); (case saTable => k_is); (case mkTable => k_is); (case kcTable => k_is)
    (case nTable_chances => k_is)
    (case ca0 => k_is); (case cl0 => k_is)
    (case ca1 => k_is); (case cl1 => k_is)
    (case ca2 => k_is)
    (case ca3 => k_is)
    (case z0 => k_is)
    (case z1 => k_is)
    (case z2 => k_is)
    (case z3 => k_is)
    (case z4 => k_is)
    (case z5 => k_is)
    (case z6 => k_is)
    (case z7 => k_is)
    (case z8 => k_is)
    (case z9 => k_is)
    (case z10 => k_is)
    (case xaP => k_is)
    (case xat => k_is)
    (case xar => k_is)
    (case xap => k_is)
    (case xan => k_is)
    (case xac => k_is)
    (case xnd => decide)
    (case xpb => kit_is)
    (case xcg => k_is)
    (case xtk => k_is)
    (case xo1t => k_exc)
    (case xo2t => k_is)
    (case xo3t => k_is)
    (case xo4t => k_is)
    (case xo5t => k_is)
    (case xo6t => k_is)
    (case xpt => kit_is)
    (case xvt => kit_is)
    (case xitr => kit_is)
    (case xitp => kit_is)
    (case xitn => kit_is)
    (case xitc => kit_is)
    (case xo1r => k_exc)
    (case xo2r => k_is)
    (case xo3r => k_is)
    (case xo4r => k_is)
    (case xo5r => k_is)
    (case xo6r => k_is)
    (case xpr => kit_is)
    (case xvr => kit_is)
    (case xirt => kit_is)
    (case xirp => kit_is)
    (case xirn => kit_is)
    (case xirc => kit_is)
    (case xo1p => k_exc)
    (case xo2p => k_is)
    (case xo3p => k_is)
    (case xo4p => k_is)
    (case xo5p => k_is)
    (case xo6p => k_is)
    (case xpp => kit_is)
    (case xvp => kit_is)
    (case xipt => kit_is)
    (case xipr => kit_is)
    (case xipn => kit_is)
    (case xipc => kit_is)
    (case xo1n => k_exc)
    (case xo2n => k_is)
    (case xo3n => k_is)
    (case xo4n => k_is)
    (case xo5n => k_is)
    (case xo6n => k_is)
    (case xpn => kit_is)
    (case xvn => kit_is)
    (case xint => kit_is)
    (case xinr => kit_is)
    (case xinp => kit_is)
    (case xinc => kit_is)
    (case xo1c => k_exc)
    (case xo2c => k_is)
    (case xo3c => k_is)
    (case xo4c => k_is)
    (case xo5c => k_is)
    (case xo6c => k_is)
    (case xpc => kit_is)
    (case xvc => kit_is)
    (case xict => kit_is)
    (case xicr => kit_is)
    (case xicp => kit_is)
    (case xicn => kit_is)
#print axioms PySem.Challenge.cw_yearpledge_k16_couples_refused_holds
