import PyProof.Rows.All
import Wide.All
import OpenK.AllK
import Wide.FinOn
import Lean
import PyProof.EqAt
import PyProof.EqKinds
import PyProof.TupleCall
import PySem.Challenge.RW_beatmakers_k07_voters_written
set_option Elab.async false
set_option linter.all false
set_option maxRecDepth 100000
namespace L2
open PySem PySem.Spec PyProof.Rows
abbrev Key := Sum Int Str
def keyIs : Key → Value → Bool
  | .inl k, v => Value.isInt k v
  | .inr x, v => Value.isStrOf x v
def keyH (w : World) : Key → Int
  | .inl k => hashInt k
  | .inr x => hashStr w x
theorem keyIs_shape : ∀ {k : Key} {v : Value}, keyIs k v = true → (∃ i t, k = Sum.inl i ∧ v = Value.int i t) ∨ (∃ x t, k = Sum.inr x ∧ v = Value.str x t)
  | .inl i, v, h => by
    obtain ⟨t, e⟩ := Value.isInt_shape (k := i) (v := v) h
    exact .inl ⟨i, t, rfl, e⟩
  | .inr x, v, h => by
    obtain ⟨t, e⟩ := Value.isStrOf_shape (x := x) (v := v) h
    exact .inr ⟨x, t, rfl, e⟩
theorem key_ll (a b : Int) : decide ((Sum.inl a : Key) = Sum.inl b) = (a == b) := by
  by_cases e : a = b
  · subst e; simp
  · have h : ¬ (Sum.inl a : Key) = Sum.inl b := fun q => e (Sum.inl.inj q)
    rw [decide_eq_false h]
    exact (beq_eq_false_iff_ne.mpr e).symm
theorem key_rr (a b : Str) : decide ((Sum.inr a : Key) = Sum.inr b) = decide (a = b) := by
  by_cases e : a = b
  · subst e; simp
  · have h : ¬ (Sum.inr a : Key) = Sum.inr b := fun q => e (Sum.inr.inj q)
    rw [decide_eq_false h, decide_eq_false e]
theorem key_lr (a : Int) (b : Str) : decide ((Sum.inl a : Key) = Sum.inr b) = false := decide_eq_false (fun q => nomatch q)
theorem key_rl (a : Str) (b : Int) : decide ((Sum.inr a : Key) = Sum.inl b) = false := decide_eq_false (fun q => nomatch q)
def mixKind (prog : Program) (w : World) : PySem.KeyKind prog w Key where
  is := keyIs
  hash := keyH w
  inj := fun v a b ha hb => by
    rcases keyIs_shape ha with ⟨i, t, rfl, rfl⟩ | ⟨x, t, rfl, rfl⟩
    · rcases keyIs_shape hb with ⟨j, u, rfl, e⟩ | ⟨y, u, rfl, e⟩
      · injection e with e1 _; rw [e1]
      · exact nomatch e
    · rcases keyIs_shape hb with ⟨j, u, rfl, e⟩ | ⟨y, u, rfl, e⟩
      · exact nomatch e
      · injection e with e1 _; rw [e1]
  byValue := fun k v h => by
    rcases keyIs_shape h with ⟨i, t, rfl, rfl⟩ | ⟨x, t, rfl, rfl⟩ <;> rfl
  pyHash := fun hv h => by
    rcases keyIs_shape hv with ⟨i, t, rfl, rfl⟩ | ⟨x, t, rfl, rfl⟩
    · exact wpAny_pyHash_int h
    · exact wpAny_pyHash_str h
  eqBool := fun hu hv h => by
    rcases keyIs_shape hu with ⟨i, t, rfl, rfl⟩ | ⟨x, t, rfl, rfl⟩
    · rcases keyIs_shape hv with ⟨j, u, rfl, rfl⟩ | ⟨y, u, rfl, rfl⟩
      · rw [key_ll] at h; exact wpAny_eqBool_int h
      · rw [key_lr] at h; exact SeqAt.EqAt.int_str i t y u _ _ _ _ h
    · rcases keyIs_shape hv with ⟨j, u, rfl, rfl⟩ | ⟨y, u, rfl, rfl⟩
      · rw [key_rl] at h; exact SeqAt.EqAt.str_int x t j u _ _ _ _ h
      · rw [key_rr] at h; exact wpAny_eqBool_str h
  «strs» := fun k x t v h => by
    rcases keyIs_shape h with ⟨i, u, rfl, e⟩ | ⟨y, u, rfl, e⟩
    · exact nomatch e
    · injection e with e1 _
      subst e1
      cases v <;> rfl
end L2
namespace L2
open PySem PySem.Spec PyProof.Rows
inductive V where
  | non | bl (b : Bool) | int (i : Int) | str (x : Str) | byt (b : Array UInt8) | flt (b : UInt64) | ref (a : Addr) | ty (n : String)
  deriving DecidableEq
def RelV : V → Value → Prop
  | .non, u => u = Value.none
  | .bl b, u => u = Value.bool b
  | .int i, u => ∃ t, u = Value.int i t
  | .str x, u => ∃ t, u = Value.str x t
  | .byt b, u => ∃ t, u = Value.bytes b t
  | .flt b, u => ∃ t, u = Value.float b t
  | .ref a, u => u = Value.ref a
  | .ty n, u => u = Value.type n
abbrev Vals : List V → List Value → Prop := Paired RelV
theorem Vals.length {xs : List V} {us : List Value} (r : Vals xs us) : xs.length = us.length := Paired.length r
theorem Vals.get : ∀ {xs : List V} {us : List Value} {i : Nat} {x : V}, Vals xs us → xs[i]? = some x → ∃ u, us[i]? = some u ∧ RelV x u
  | _, _, _, _, .nil, e => by simp at e
  | _, _, 0, _, .cons r _, e => by simp at e; subst e; exact ⟨_, rfl, r⟩
  | _, _, i + 1, x, .cons _ t, e => by
    obtain ⟨u, h1, h2⟩ := Vals.get (i := i) (x := x) t (by simpa using e)
    exact ⟨u, by simpa using h1, h2⟩
theorem Vals.set {x : V} {u : Value} (r : RelV x u) : ∀ {xs : List V} {us : List Value} (i : Nat), Vals xs us → Vals (xs.set i x) (us.set i u)
  | _, _, _, .nil => .nil
  | _, _, 0, .cons _ t => .cons r t
  | _, _, i + 1, .cons q t => .cons q (Vals.set r i t)
theorem Vals.append : ∀ {xs ys : List V} {us ws : List Value}, Vals xs us → Vals ys ws → Vals (xs ++ ys) (us ++ ws)
  | _, _, _, _, .nil, s => s
  | _, _, _, _, .cons r t, s => .cons r (Vals.append t s)
theorem Vals.take : ∀ {xs : List V} {us : List Value} (n : Nat), Vals xs us → Vals (xs.take n) (us.take n)
  | _, _, 0, _ => .nil
  | _, _, _ + 1, .nil => .nil
  | _, _, n + 1, .cons r t => .cons r (Vals.take n t)
theorem Vals.drop : ∀ {xs : List V} {us : List Value} (n : Nat), Vals xs us → Vals (xs.drop n) (us.drop n)
  | _, _, 0, r => r
  | _, _, _ + 1, .nil => .nil
  | _, _, n + 1, .cons _ t => Vals.drop n t
def RelO : Option V → Option Value → Prop
  | some v, some u => RelV v u
  | none, none => True
  | _, _ => False
def KV {κ : Type} : List (κ × V) → List (κ × Value) → Prop := Paired fun (p : κ × V) (q : κ × Value) => p.1 = q.1 ∧ RelV p.2 q.2
def kV : Key → V
  | .inl i => .int i
  | .inr x => .str x
inductive HO where
  /-- a list -/
  | lst (xs : List V)
  /-- a tuple (never changes) -/
  | tup (xs : List V)
  /-- a dict whose keys are ints and texts; one whose keys are tuples of ints and texts (the empty one is both) -/
  | dK (kvs : List (Key × V)) | dT (kvs : List (List Key × V))
  /-- a set of ints: its members, its size -/
  | set (S : Int → Bool) (n : Nat)
  /-- an instance of the class at C, its dict at dx, its attributes -/
  | ins (C dx : Addr) (fs : List (Str × V))
  /-- the dict of the instance at x -/
  | own (x : Addr)
  /-- the dict of an exception -/
  | xd (fs : List (Str × V))
  /-- a bound method, f of x -/
  | met (f x : Addr)
  /-- a range object lo, lo + 1, .. below hi -/
  | rng (lo hi : Int)
  /-- a thing that is known to the object (the script; a dict while a loop walks it): read, never written while it is so -/
  | frz (o : Obj) (u : HO)
  /-- a code object's table -/
  | tbl (ps : Array Value)
  /-- any other thing, by what is true of its one object (a def of one's own: SetO a S n := HO.ext fun h => ..) -/
  | ext (φ : Heap → Prop)
abbrev Hp := Addr → Option HO
def upd (H : Hp) (a : Addr) (o : HO) : Hp := fun b => if b = a then some o else H b
theorem upd_same {H : Hp} {a : Addr} {o : HO} : upd H a o a = some o := by unfold upd; rw [if_pos rfl]
theorem upd_ne {H : Hp} {a b : Addr} {o : HO} (h : b ≠ a) : upd H a o b = H b := by unfold upd; rw [if_neg h]
theorem ne_of {H : Hp} {a b : Addr} {o u : HO} (h : H a = some o) (h' : H b = some u) (d : o ≠ u) : a ≠ b := by
  intro e; subst e; rw [h] at h'; exact d (Option.some.inj h')
theorem ne_of_none {H : Hp} {a b : Addr} {o : HO} (h : H a = some o) (h' : H b = none) : a ≠ b := by
  intro e; subst e; rw [h] at h'; cases h'
def TupP (h : Heap) (a : Addr) (items : Array Value) : Prop := ∃ o, h.get? a = some o ∧ o.cls = .type "tuple" ∧ o.dict = none ∧ ∃ n, o.data = .seq items n
theorem TupP.tup {h : Heap} {a : Addr} {items : Array Value} (x : TupP h a items) : IsTup h a items := let ⟨o, e, c, _, d⟩ := x; ⟨o, e, c, d⟩
theorem TupP.lt {h : Heap} {a : Addr} {items : Array Value} (x : TupP h a items) : a < h.objs.size := let ⟨_, e, _⟩ := x; Heap.lt_size e
theorem TupP.new (h : Heap) (items : Array Value) : TupP (h.push { cls := .type "tuple", data := .seq items }) h.objs.size items := ⟨_, Heap.get?_push_size _ rfl, rfl, rfl, _, rfl⟩
section
variable (P : Program) (w : World)
def ObjOk (H : Hp) (h : Heap) (a : Addr) : HO → Prop
  | .lst xs => xs.length ≤ sizeLine ∧ ∃ (its : List Value) (n : Nat), Vals xs its ∧ h.get? a = some { cls := .type "list", data := .seq its.toArray n }
  | .tup xs => xs.length ≤ sizeLine ∧ ∃ its : List Value, Vals xs its ∧ TupP h a its.toArray
  | .dK kvs => kvs.length ≤ sizeLine ∧ (a == sysModules) = false ∧ ∃ vs, KV kvs vs ∧ h.DictOf (mixKind P w) a vs
  | .dT kvs => kvs.length ≤ sizeLine ∧ (a == sysModules) = false ∧ ∃ xs : List (List Key × Addr × Value),
      Paired (fun (p : List Key × V) (q : List Key × Addr × Value) => p.1 = q.1 ∧ H q.2.1 = some (.tup (p.1.map kV)) ∧ RelV p.2 q.2.2) kvs xs ∧
      ∃ o es ep, h.get? a = some o ∧ o.ExactDict ∧ o.data = .dict es ep ∧ es.toList = xs.map (entryOfKey (tupleKind (mixKind P w))) ∧ (xs.map (·.1)).Nodup
  | .set S n => h.SetOf (intKind P w) a S n
  | .ins C dx fs => H dx = some (.own a) ∧ fs.length ≤ 1000 ∧ dx ≠ a ∧ h.get? a = some (PySem.W.instObj C dx) ∧
      ∃ mA, h.Ns1 dx mA ∧ (∀ f, RelO (fs.lookup f) (mA f)) ∧ PySem.Within mA (fs.map (·.1))
  | .own _ => ∃ o, h.get? a = some o
  | .xd fs => ∃ mA, h.Ns1 a mA ∧ ∀ f, RelO (fs.lookup f) (mA f)
  | .rng lo hi => ∃ t u v, h.get? a = some { cls := .type "range", data := .fields #[.int lo t, .int hi u, .int 1 v] }
  | .frz o u => h.get? a = some o ∧ ObjOk H h a u
  | .tbl ps => h.get? a = some { cls := .none, data := .fields ps }
  | .met f x => h.get? a = some (PySem.W.methodObj (.ref f) (.ref x))
  | .ext φ => φ h ∧ (∃ o, h.get? a = some o) ∧ ∀ h1 h2 : Heap, φ h1 → (∀ o, h1.get? a = some o → h2.get? a = some o) → φ h2
def HOk (H : Hp) (h : Heap) : Prop := ∀ a o, H a = some o → ObjOk P w H h a o
end
section
variable {P : Program} {w : World} {H H' : Hp} {h h' : Heap} {a : Addr} {o : HO}
theorem ObjOk.lt (x : ObjOk P w H h a o) : a < h.objs.size := by
  cases o with
  | lst xs => obtain ⟨_, _, _, _, e⟩ := x; exact Heap.lt_size e
  | tup xs => obtain ⟨_, _, _, p⟩ := x; exact p.lt
  | dK kvs => obtain ⟨_, _, _, _, o, _, _, e, _⟩ := x; exact Heap.lt_size e
  | dT kvs => obtain ⟨_, _, _, _, o, _, _, e, _⟩ := x; exact Heap.lt_size e
  | set S n => obtain ⟨o, _, _, _, e, _⟩ := x; exact Heap.lt_size e
  | ins C dx fs => obtain ⟨_, _, _, e, _⟩ := x; exact Heap.lt_size e
  | own y => obtain ⟨_, e⟩ := x; exact Heap.lt_size e
  | xd fs => obtain ⟨_, ⟨_, _, _, e, _⟩, _⟩ := x; exact Heap.lt_size e
  | rng lo hi => obtain ⟨_, _, _, e⟩ := x; exact Heap.lt_size e
  | frz ob u => obtain ⟨e, _⟩ := x; exact Heap.lt_size e
  | tbl ps => exact Heap.lt_size (show h.get? a = some _ from x)
  | met f y => exact Heap.lt_size (show h.get? a = some _ from x)
  | ext φ => obtain ⟨_, ⟨_, e⟩, _⟩ := x; exact Heap.lt_size e
theorem Paired.mapP {α β : Type} {F G : α → β → Prop} : ∀ {l₁ : List α} {l₂ : List β}, Paired F l₁ l₂ → (∀ a b, F a b → G a b) → Paired G l₁ l₂
  | _, _, .nil, _ => .nil
  | _, _, .cons r t, f => .cons (f _ _ r) (Paired.mapP t f)
theorem ObjOk.stay (x : ObjOk P w H h a o) (k : ∀ b u, (b = a ∨ H b = some (.own a)) → h.get? b = some u → h'.get? b = some u)
    (ho : ∀ b, H b = some (.own a) → H' b = some (.own a)) (ht : ∀ b xs, H b = some (.tup xs) → H' b = some (.tup xs)) : ObjOk P w H' h' a o := by
  induction o with
  | lst xs => obtain ⟨z, its, n, r, e⟩ := x; exact ⟨z, its, n, r, k _ _ (.inl rfl) e⟩
  | tup xs => obtain ⟨z, its, r, ob, e, c⟩ := x; exact ⟨z, its, r, ob, k _ _ (.inl rfl) e, c⟩
  | dK kvs => obtain ⟨z, y, vs, r, ob, es, ep, e, c⟩ := x; exact ⟨z, y, vs, r, ob, es, ep, k _ _ (.inl rfl) e, c⟩
  | dT kvs =>
    obtain ⟨z, y, xs, r, ob, es, ep, e, c⟩ := x
    exact ⟨z, y, xs, Paired.mapP r fun p q z => ⟨z.1, ht _ _ z.2.1, z.2.2⟩, ob, es, ep, k _ _ (.inl rfl) e, c⟩
  | set S n => obtain ⟨ob, es, ep, t, e, c⟩ := x; exact ⟨ob, es, ep, t, k _ _ (.inl rfl) e, c⟩
  | ins C dx fs =>
    obtain ⟨d, z, ne, e, mA, ⟨od, es, ep, e2, c⟩, r⟩ := x
    exact ⟨ho _ d, z, ne, k _ _ (.inl rfl) e, mA, ⟨od, es, ep, k _ _ (.inr d) e2, c⟩, r⟩
  | own y => obtain ⟨ob, e⟩ := x; exact ⟨ob, k _ _ (.inl rfl) e⟩
  | xd fs => obtain ⟨mA, ⟨od, es, ep, e, c⟩, r⟩ := x; exact ⟨mA, ⟨od, es, ep, k _ _ (.inl rfl) e, c⟩, r⟩
  | rng lo hi => obtain ⟨t, u, v, e⟩ := x; exact ⟨t, u, v, k _ _ (.inl rfl) e⟩
  | frz ob u ih => obtain ⟨e, q⟩ := x; exact ⟨k _ _ (.inl rfl) e, ih q⟩
  | tbl ps =>
    have e : h.get? a = some { cls := .none, data := .fields ps } := x
    show h'.get? a = some { cls := .none, data := .fields ps }
    exact k a _ (.inl rfl) e
  | met f y =>
    have e : h.get? a = some (PySem.W.methodObj (.ref f) (.ref y)) := x
    show h'.get? a = some (PySem.W.methodObj (.ref f) (.ref y))
    exact k a _ (.inl rfl) e
  | ext φ => obtain ⟨p, ⟨o, e⟩, st⟩ := x; exact ⟨st _ _ p fun o q => k _ _ (.inl rfl) q, ⟨o, k _ _ (.inl rfl) e⟩, st⟩
theorem HOk.lt (x : HOk P w H h) (e : H a = some o) : a < h.objs.size := (x a o e).lt
theorem HOk.fresh (x : HOk P w H h) (e : h.objs.size ≤ a) : H a = none := by
  cases q : H a with
  | none => rfl
  | some u => exact absurd (Nat.lt_of_lt_of_le (x.lt q) e) (Nat.lt_irrefl _)
theorem HOk.kept (x : HOk P w H h) (k : ∀ b u, h.get? b = some u → h'.get? b = some u) : HOk P w H h' := fun a o e =>
  (x a o e).stay (fun b u _ q => k b u q) (fun _ q => q) fun _ _ q => q
theorem HOk.laid (x : HOk P w H h) (k : ∀ b u, h.get? b = some u → h'.get? b = some u) (hp : h.objs.size ≤ a) (new : ObjOk P w (upd H a o) h' a o) : HOk P w (upd H a o) h' := fun b u e => by
  have hn := x.fresh hp
  by_cases hb : b = a
  · subst hb; rw [upd_same] at e; cases e; exact new
  · rw [upd_ne hb] at e
    exact (x b u e).stay (fun c v _ q => k c v q) (fun c q => by rw [upd_ne (ne_of_none q hn)]; exact q) fun c xs q => by rw [upd_ne (ne_of_none q hn)]; exact q
end
def Rd (H : Hp) (a : Addr) (u : HO) : Prop := H a = some u ∨ ∃ o, H a = some (.frz o u)
theorem Rd.ok {P : Program} {w : World} {H : Hp} {h : Heap} {a : Addr} {u : HO} (r : Rd H a u) (x : HOk P w H h) : ObjOk P w H h a u := by
  rcases r with r | ⟨o, r⟩
  · exact x a u r
  · obtain ⟨_, q⟩ := x a _ r
    exact q
def Mut : Option HO → Prop
  | some (.lst _) => True
  | some (.dK _) => True
  | some (.dT _) => True
  | some (.set _ _) => True
  | some (.ins _ _ _) => True
  | some (.ext _) => True
  | _ => False
section
variable {P : Program} {w : World} {H : Hp} {h h' : Heap} {x e : Addr} {o' : HO}
theorem HOk.write (ok : HOk P w H h) (mu : Mut (H x)) (he : e = x ∨ H e = some (.own x)) (k : ∀ b u, b ≠ e → h.get? b = some u → h'.get? b = some u) (heo : ∃ u, h'.get? e = some u)
    (new : ObjOk P w (upd H x o') h' x o') : HOk P w (upd H x o') h' := fun b u q => by
  have nown : ∀ c y, H c = some (.own y) → c ≠ x := fun c y r z => by subst z; rw [r] at mu; exact mu
  have ntup : ∀ c xs, H c = some (.tup xs) → c ≠ x := fun c xs r z => by subst z; rw [r] at mu; exact mu
  by_cases hb : b = x
  · subst hb; rw [upd_same] at q; cases q; exact new
  · rw [upd_ne hb] at q
    by_cases hbe : b = e
    · have q' : H b = some (.own x) := by
        rcases he with z | z
        · exact absurd (hbe.trans z) hb
        · rw [hbe]; exact z
      rw [q] at q'; cases q'
      obtain ⟨v, hv⟩ := heo
      exact ⟨v, by rw [hbe]; exact hv⟩
    · refine (ok b u q).stay (fun c v hc r => k c v ?_ r) (fun c r => by rw [upd_ne (nown c b r)]; exact r) fun c xs r => by rw [upd_ne (ntup c xs r)]; exact r
      rcases hc with rfl | hc
      · exact hbe
      · rintro rfl
        rcases he with z | z
        · exact nown c b hc z
        · rw [hc] at z; cases z; exact hb rfl
end
structure Un (fs ex : List Addr) (H H' : Hp) (h h' : Heap) : Prop where
  keep : ∀ b o, h.get? b = some o → H b = none → b ∉ fs → b ∉ ex → h'.get? b = some o
  slot : ∀ b o, h.get? b = some o → H b = none → b ∈ fs → b ∉ ex → ∃ sl, h'.get? b = some { o with slots := sl }
  free : ∀ b o, h.get? b = some o → H b = none → b ∉ ex → H' b = none
  there : ∀ b o, h.get? b = some o → b ∉ ex → ∃ o', h'.get? b = some o'
  tups : ∀ b xs, H b = some (.tup xs) → H' b = some (.tup xs)
  frzs : ∀ b o u, H b = some (.frz o u) → H' b = some (.frz o u)
  tbls : ∀ b ps, H b = some (.tbl ps) → ∃ more, H' b = some (.tbl (ps ++ more))
section
variable {fs fs' ex ex' : List Addr} {H H1 H2 : Hp} {h h1 h2 h' : Heap} {a x e : Addr} {o : HO}
theorem Un.any (u : Un fs ex H H1 h h1) {b : Addr} {ob : Obj} (q : h.get? b = some ob) (n : H b = none) (hx : b ∉ ex) : ∃ sl, h1.get? b = some { ob with slots := sl } := by
  by_cases hb : b ∈ fs
  · exact u.slot b ob q n hb hx
  · exact ⟨ob.slots, u.keep b ob q n hb hx⟩
theorem Un.kept (k : ∀ b u, h.get? b = some u → h'.get? b = some u) : Un fs ex H H h h' :=
  ⟨fun b ob q _ _ _ => k b ob q, fun b ob q _ _ _ => ⟨ob.slots, k b ob q⟩, fun _ _ _ n _ => n, fun b ob q _ => ⟨ob, k b ob q⟩, fun _ _ q => q, fun _ _ _ q => q, fun _ ps q => ⟨#[], by rw [q]; simp⟩⟩
theorem Un.refl : Un fs ex H H h h := Un.kept fun _ _ q => q
theorem Un.laid (k : ∀ b u, h.get? b = some u → h'.get? b = some u) (hp : h.objs.size ≤ a) (hn : H a = none) : Un fs ex H (upd H a o) h h' where
  keep := fun b u q _ _ _ => k b u q
  slot := fun b u q _ _ _ => ⟨u.slots, k b u q⟩
  free := fun b u q n _ => by rw [upd_ne (Nat.ne_of_lt (Nat.lt_of_lt_of_le (Heap.lt_size q) hp))]; exact n
  there := fun b u q _ => ⟨u, k b u q⟩
  tups := fun b xs q => by rw [upd_ne (ne_of_none q hn)]; exact q
  frzs := fun b u xs q => by rw [upd_ne (ne_of_none q hn)]; exact q
  tbls := fun b ps q => ⟨#[], by rw [upd_ne (ne_of_none q hn), q]; simp⟩
theorem Un.write (mu : Mut (H x)) (he : e = x ∨ H e = some (.own x)) (k : ∀ b u, b ≠ e → h.get? b = some u → h'.get? b = some u) (heo : ∃ u, h'.get? e = some u) : Un fs ex H (upd H x o) h h' := by
  have hx : ∀ b, H b = none → b ≠ x := fun b n z => by subst z; rw [n] at mu; exact mu
  have hb : ∀ b, H b = none → b ≠ e := fun b n z => by
    subst z
    rcases he with r | r
    · exact hx b n r
    · rw [n] at r; cases r
  have hm : ∀ b u, H b = some u → ¬ Mut (some u) → b ≠ x := fun b u q nm z => by subst z; rw [q] at mu; exact nm mu
  refine ⟨fun b u q n _ _ => k b u (hb b n) q, fun b u q n _ _ => ⟨u.slots, k b u (hb b n) q⟩, fun b u q n _ => by rw [upd_ne (hx b n)]; exact n, fun b u q _ => ?_,
    fun b xs q => by rw [upd_ne (hm b _ q fun z => z)]; exact q, fun b u xs q => by rw [upd_ne (hm b _ q fun z => z)]; exact q, fun b ps q => ⟨#[], by rw [upd_ne (hm b _ q fun z => z), q]; simp⟩⟩
  by_cases hbe : b = e
  · subst hbe; exact heo
  · exact ⟨u, k b u hbe q⟩
end
def trk (h : Heap) (H : Hp) : List Addr := (List.range h.objs.size).filter fun a => (H a).isSome
def hidT (h : Heap) (H : Hp) : Heap := PySem.W.hideAll h (trk h H)
theorem hidT_size (h : Heap) (H : Hp) : (hidT h H).objs.size = h.objs.size := PySem.W.hideAll_size _ _
theorem hidT_get {h : Heap} {H : Hp} {b : Addr} {o : Obj} (e : h.get? b = some o) (n : H b = none) : (hidT h H).get? b = some o :=
  PySem.W.hideAll_get _ e fun hm => by
    have q : (H b).isSome = true := (List.mem_filter.mp hm).2
    rw [n] at q; simp at q
theorem of_hidT {h : Heap} {H : Hp} {b : Addr} {o : Obj} (e : (hidT h H).get? b = some o) : h.get? b = some o ∧ H b = none := by
  have e' : h.get? b = some o := PySem.W.of_hideAll (trk h H) e
  refine ⟨e', ?_⟩
  cases q : H b with
  | none => rfl
  | some x =>
    have hm : b ∈ trk h H := List.mem_filter.mpr ⟨List.mem_range.mpr (Heap.lt_size e'), by simp [q]⟩
    have z : (hidT h H).get? b = none := PySem.W.hideAll_none (trk h H) hm
    rw [z] at e; cases e
end L2
namespace L2
open PySem PySem.Spec PyProof.Rows
structure Mod (K : PySem.W.Frag) (mg : Str → Option Value) (base : Heap) : Prop where
  kin : K.In base
  glob : base.Ns mainGlobals mg
  blt : ∃ mb, base.Ns builtinsNs mb ∧ ∀ x : Str, x ≠ "__name__" → mb x = bootBuiltins x
  nolimit : base.NoLimit
structure Cx where
  prog : Program
  w : World
  K : PySem.W.Frag
  mg : Str → Option Value
  base : Heap
  A : Around
  N : List Str
  s₀ : Shared
  H₀ : Hp
  env : Env
  outer : List Env
  stack : List Env
  ex : List Addr
  fn : Str → Bool
  calm : Bool
  pn : List (Addr × Obj)
  xe : Value → Shared → Prop
def frs (l : List Env) : List Addr := l.filterMap (·.frame)
abbrev Cx.fs (X : Cx) : List Addr := frs X.outer
def Vis (sc : Scope) (x : Str) : Prop := sc.names.lookup x = some .local ∨ sc.names.lookup x = some .cell ∨ sc.names.lookup x = some .free
def Loc (sc : Scope) (x : Str) : Prop := sc.names.lookup x = some .local ∨ sc.names.lookup x = some .cell
def Look (env : Env) (h : Heap) (m : Str → Option Value) (x : Str) (u : Value) : Prop :=
  (env.kindOf x = some .local ∧ m x = some u) ∨ ((env.kindOf x = some .cell ∨ env.kindOf x = some .free) ∧ ∃ c, env.cells.lookup x = some c ∧ h.IsCell c (some u))
structure Cx.Ok (X : Cx) : Prop where
  mod : Mod X.K X.mg X.base
  kind : X.env.scope.kind = .function
  glob : X.env.globals = mainGlobals
  blt : X.env.builtins = builtinsNs
  above : X.s₀.heap.objs.size ≤ X.env.locals
  inj : ∀ x y c, X.env.cells.lookup x = some c → X.env.cells.lookup y = some c → x = y
  has : ∀ x, (X.env.kindOf x = some .cell ∨ X.env.kindOf x = some .free) → ∃ c, X.env.cells.lookup x = some c
  cab : ∀ x c, X.fn x = true → X.env.cells.lookup x = some c → X.s₀.heap.objs.size ≤ c
  hd : X.calm = true → X.A.handled = none
  frames : X.A.frames = some X.stack
  stk : X.stack = X.outer ∨ (X.stack = X.env :: X.outer ∧ X.env.frame = some X.env.locals)
  exf : ∀ b ∈ X.ex, b ≠ X.env.locals ∧ ∀ x c, X.env.cells.lookup x = some c → c ≠ b
  bs : ∀ b o, X.base.get? b = some o → X.s₀.heap.get? b = some o ∧ X.H₀ b = none
  bsz : X.base.objs.size ≤ X.s₀.heap.objs.size
  noex : ∀ b o, X.base.get? b = some o → b ∉ X.ex
  exfs : ∀ b ∈ X.ex, b ∉ X.fs
  funs : X.s₀.heap.FunFrames X.base X.outer
  frf : ∀ b ∈ X.fs, X.H₀ b = none
structure Inv (X : Cx) (pins : List (Addr × Obj)) (σ : List (Option V)) (H : Hp) (s : Shared) : Prop where
  ok : X.Ok
  os : s.os = X.s₀.os
  bare : AllBare s.gens
  base : Un X.fs X.ex X.H₀ H X.s₀.heap s.heap
  loc : ∃ m, s.heap.Ns X.env.locals m ∧ ∀ (i : Nat) (x : Str) (v : V), X.N[i]? = some x → σ[i]? = some (some v) → Vis X.env.scope x → ∃ u, RelV v u ∧ Look X.env s.heap m x u
  cell : ∀ x c, X.env.cells.lookup x = some c → ∃ v, s.heap.IsCell c v
  free : H X.env.locals = none
  freeC : ∀ x c, X.env.cells.lookup x = some c → H c = none
  pin : ∀ p ∈ X.pn ++ pins, s.heap.get? p.1 = some p.2 ∧ H p.1 = none ∧ p.1 ≠ X.env.locals ∧ p.1 ∉ X.fs ∧ ∀ v, p.2.data ≠ .cell v
  hok : HOk X.prog X.w H s.heap
  len : σ.length = X.N.length
section
variable {X : Cx} {pins : List (Addr × Obj)} {σ : List (Option V)} {H H' : Hp} {s : Shared} {h' : Heap}
theorem Cx.Ok.nofr (ok : X.Ok) {b : Addr} {o : Obj} (e : X.base.get? b = some o) : b ∉ X.fs := fun hb => by
  have := (ok.funs.mem hb).1
  rw [e] at this; cases this
theorem Inv.bs (I : Inv X pins σ H s) : ∀ b o, X.base.get? b = some o → s.heap.get? b = some o ∧ H b = none := fun b o e =>
  ⟨I.base.keep b o (I.ok.bs b o e).1 (I.ok.bs b o e).2 (I.ok.nofr e) (I.ok.noex b o e), I.base.free b o (I.ok.bs b o e).1 (I.ok.bs b o e).2 (I.ok.noex b o e)⟩
theorem Inv.bk (I : Inv X pins σ H s) : ∀ b o, X.base.get? b = some o → s.heap.get? b = some o := fun b o e => (I.bs b o e).1
theorem Inv.mod (I : Inv X pins σ H s) : Mod X.K X.mg X.base := I.ok.mod
theorem Inv.kIn (I : Inv X pins σ H s) : X.K.In s.heap := I.ok.mod.kin.keeps I.bk
theorem Inv.lt (I : Inv X pins σ H s) : X.env.locals < s.heap.objs.size := let ⟨_, hn, _⟩ := I.loc; hn.lt
theorem Inv.sz (I : Inv X pins σ H s) : X.s₀.heap.objs.size ≤ s.heap.objs.size := Nat.le_trans I.ok.above (Nat.le_of_lt I.lt)
theorem Inv.nofs (I : Inv X pins σ H s) {a : Addr} (h : s.heap.objs.size ≤ a) : a ∉ X.fs := fun hb => by
  obtain ⟨_, o, ho, _⟩ := I.ok.funs.mem hb
  exact absurd (Nat.lt_of_lt_of_le (Heap.lt_size ho) (Nat.le_trans I.sz h)) (Nat.lt_irrefl _)
theorem Inv.cne (I : Inv X pins σ H s) : ∀ x c, X.env.cells.lookup x = some c → c ≠ X.env.locals := fun x c e z => by
  obtain ⟨v, o, ho, hd⟩ := I.cell x c e
  obtain ⟨m, ⟨o', es, ep, ho', hd', _⟩, _⟩ := I.loc
  rw [z, ho'] at ho; cases ho; rw [hd'] at hd; cases hd
theorem Inv.funs (I : Inv X pins σ H s) : s.heap.FunFrames X.base X.outer := by
  have all : ∀ (l : List Env), (∀ b ∈ frs l, b ∈ X.fs) → X.s₀.heap.FunFrames X.base l → s.heap.FunFrames X.base l := by
    intro l
    induction l with
    | nil => intro _ _; trivial
    | cons env r ih =>
      intro hs hl
      obtain ⟨hk, ⟨L, o, hf, hn, ho, hd⟩, hr⟩ := hl
      have hL : L ∈ X.fs := hs L (by unfold frs; rw [List.filterMap_cons, hf]; exact List.mem_cons_self)
      obtain ⟨sl, e⟩ := I.base.slot L o ho (I.ok.frf L hL) hL fun z => I.ok.exfs L z hL
      exact ⟨hk, ⟨L, _, hf, hn, e, hd⟩, ih (fun b hb => hs b (by unfold frs; rw [List.filterMap_cons, hf]; exact List.mem_cons_of_mem _ hb)) hr⟩
  exact all X.outer (fun _ hb => hb) I.ok.funs
theorem Inv.stack (I : Inv X pins σ H s) : s.heap.FunFrames X.base X.stack := by
  rcases I.ok.stk with e | ⟨e, hf⟩
  · rw [e]; exact I.funs
  · rw [e]
    obtain ⟨m, hn, _⟩ := I.loc
    refine .cons (by rw [I.ok.kind]; decide) hf hn ?_ I.funs
    exact Heap.get?_none_of_le (Nat.le_trans I.ok.bsz I.ok.above)
theorem Inv.stkSub (I : Inv X pins σ H s) : ∀ b ∈ frs X.stack, b ∈ X.env.locals :: X.fs := fun b hb => by
  rcases I.ok.stk with e | ⟨e, hf⟩
  · rw [e] at hb; exact List.mem_cons_of_mem _ hb
  · rw [e] at hb
    unfold frs at hb
    rw [List.filterMap_cons, hf] at hb
    exact hb
theorem Inv.stkFree (I : Inv X pins σ H s) : ∀ b ∈ frs X.stack, H b = none := fun b hb => by
  rcases List.mem_cons.mp (I.stkSub b hb) with e | hb
  · rw [e]; exact I.free
  · obtain ⟨_, o, ho, _⟩ := I.ok.funs.mem hb
    exact I.base.free b o ho (I.ok.frf b hb) fun z => I.ok.exfs b z hb
theorem Inv.step {g' : Array GenState} {t' : Nat} {d' : Drawn} {ch : List Addr} (I : Inv X pins σ H s)
    (hch : ∀ b ∈ ch, (b ∈ X.ex ∨ X.s₀.heap.objs.size ≤ b) ∧ b ≠ X.env.locals ∧ (∀ x c, X.env.cells.lookup x = some c → c ≠ b) ∧ ∀ p ∈ X.pn ++ pins, p.1 ≠ b)
    (keep : ∀ b o, b ≠ X.env.locals → b ∉ X.fs → b ∉ ch → s.heap.get? b = some o → H b = none → h'.get? b = some o)
    (slot : ∀ b o, b ≠ X.env.locals → b ∈ X.fs → b ∉ ch → s.heap.get? b = some o → H b = none → ∃ sl, h'.get? b = some { o with slots := sl }) (free : ∀ b o, b ∉ ch → s.heap.get? b = some o → H b = none → H' b = none)
    (there : ∀ b o, b ∉ ch → s.heap.get? b = some o → ∃ o', h'.get? b = some o')
    (tups : ∀ b xs, H b = some (.tup xs) → H' b = some (.tup xs)) (frzs : ∀ b o u, H b = some (.frz o u) → H' b = some (.frz o u)) (tbls : ∀ b ps, H b = some (.tbl ps) → ∃ more, H' b = some (.tbl (ps ++ more)))
    (ns : ∀ m, s.heap.Ns X.env.locals m → h'.Ns X.env.locals m) (hok : HOk X.prog X.w H' h') (hg : AllBare g') :
    Inv X pins σ H' { s with heap := h', gens := g', drawn := d', toks := t' } := by
  have neL : ∀ b o, X.s₀.heap.get? b = some o → b ≠ X.env.locals := fun b o e => Nat.ne_of_lt (Nat.lt_of_lt_of_le (Heap.lt_size e) I.ok.above)
  have neC : ∀ b o, X.s₀.heap.get? b = some o → b ∉ X.ex → b ∉ ch := fun b o e hx hb => by
    rcases (hch b hb).1 with z | z
    · exact hx z
    · exact absurd (Nat.lt_of_lt_of_le (Heap.lt_size e) z) (Nat.lt_irrefl _)
  have cellK : ∀ x c, X.env.cells.lookup x = some c → ∀ v, s.heap.IsCell c v → h'.IsCell c v := fun x c e v ⟨o, ho, hd⟩ => by
    have nch : c ∉ ch := fun z => (hch c z).2.2.1 x c e rfl
    by_cases hc : c ∈ X.fs
    · obtain ⟨sl, q⟩ := slot c o (I.cne x c e) hc nch ho (I.freeC x c e)
      exact ⟨_, q, hd⟩
    · exact ⟨o, keep c o (I.cne x c e) hc nch ho (I.freeC x c e), hd⟩
  refine ⟨I.ok, I.os, hg, ⟨fun b o e n hb hx => ?_, fun b o e n hb hx => ?_, fun b o e n hx => ?_, fun b o e hx => ?_, fun b xs e => tups b xs (I.base.tups b xs e), fun b o xs e => frzs b o xs (I.base.frzs b o xs e), fun b ps e => ?_⟩, ?_, fun x c e => ?_, ?_, fun x c e => ?_, fun p hp => ?_, hok, I.len⟩
  · exact keep b o (neL b o e) hb (neC b o e hx) (I.base.keep b o e n hb hx) (I.base.free b o e n hx)
  · obtain ⟨sl, e1⟩ := I.base.slot b o e n hb hx
    obtain ⟨sl', e2⟩ := slot b _ (neL b o e) hb (neC b o e hx) e1 (I.base.free b o e n hx)
    exact ⟨sl', e2⟩
  · obtain ⟨o', e1⟩ := I.base.there b o e hx
    exact free b o' (neC b o e hx) e1 (I.base.free b o e n hx)
  · obtain ⟨o', e1⟩ := I.base.there b o e hx
    exact there b o' (neC b o e hx) e1
  · obtain ⟨m1, e1⟩ := I.base.tbls b ps e
    obtain ⟨m2, e2⟩ := tbls b _ e1
    exact ⟨m1 ++ m2, by rw [e2, Array.append_assoc]⟩
  · obtain ⟨m, hn, hl⟩ := I.loc
    refine ⟨m, ns m hn, fun i x v e1 e2 e3 => ?_⟩
    obtain ⟨u, r, l⟩ := hl i x v e1 e2 e3
    refine ⟨u, r, ?_⟩
    rcases l with l | ⟨k, c, e, z⟩
    · exact .inl l
    · exact .inr ⟨k, c, e, cellK x c e _ z⟩
  · obtain ⟨v, z⟩ := I.cell x c e
    exact ⟨v, cellK x c e v z⟩
  · obtain ⟨m, ⟨o, _, _, ho, _⟩, _⟩ := I.loc
    exact free _ o (fun z => (hch _ z).2.1 rfl) ho I.free
  · obtain ⟨v, o, ho, hd⟩ := I.cell x c e
    exact free c o (fun z => (hch c z).2.2.1 x c e rfl) ho (I.freeC x c e)
  · obtain ⟨e, n, ne, nf, d⟩ := I.pin p hp
    have nch : p.1 ∉ ch := fun z => (hch p.1 z).2.2.2 p hp rfl
    exact ⟨keep p.1 p.2 ne nf nch e n, free p.1 p.2 nch e n, ne, nf, d⟩
theorem Inv.un {t' : Nat} (I : Inv X pins σ H s) (u : Un X.fs [] H H' s.heap h') (hok : HOk X.prog X.w H' h') : Inv X pins σ H' { s with heap := h', toks := t' } := by
  obtain ⟨m, ⟨o, es, ep, ho, r⟩, _⟩ := id I.loc
  obtain ⟨sl, hL⟩ := u.any ho I.free (by simp)
  exact I.step (g' := s.gens) (d' := s.drawn) (ch := []) (fun _ z => nomatch z) (fun b o _ hb _ e n => u.keep b o e n hb (by simp)) (fun b o _ hb _ e n => u.slot b o e n hb (by simp)) (fun b o _ e n => u.free b o e n (by simp)) (fun b o _ e => u.there b o e (by simp)) u.tups u.frzs u.tbls (fun m' hm => by
    obtain ⟨o', es', ep', ho', r'⟩ := hm
    rw [ho] at ho'; cases ho'
    exact ⟨_, es', ep', hL, r'⟩) hok I.bare
theorem Inv.call {g' : Array GenState} {t' : Nat} {d' : Drawn} {ch : List Addr} (I : Inv X pins σ H s) (u : Un (frs X.stack) ch H H' s.heap h') (hok : HOk X.prog X.w H' h') (hg : AllBare g')
    (hch : ∀ b ∈ ch, (b ∈ X.ex ∨ X.s₀.heap.objs.size ≤ b) ∧ b ≠ X.env.locals ∧ (∀ x c, X.env.cells.lookup x = some c → c ≠ b) ∧ ∀ p ∈ X.pn ++ pins, p.1 ≠ b) :
    Inv X pins σ H' { s with heap := h', gens := g', drawn := d', toks := t' } := by
  obtain ⟨m, ⟨o, es, ep, ho, r⟩, _⟩ := id I.loc
  obtain ⟨sl, hL⟩ := u.any ho I.free fun z => (hch _ z).2.1 rfl
  exact I.step (ch := ch) hch (fun b o hL hb hc e n => u.keep b o e n (fun z => (List.mem_cons.mp (I.stkSub b z)).elim hL hb) hc) (fun b o _ _ hc e n => u.any e n hc) (fun b o hc e n => u.free b o e n hc) (fun b o hc e => u.there b o e hc) u.tups u.frzs u.tbls (fun m' hm => by
    obtain ⟨o', es', ep', ho', r'⟩ := hm
    rw [ho] at ho'; cases ho'
    exact ⟨_, es', ep', hL, r'⟩) hok hg
theorem Inv.turned {t' : Nat} {it : Addr} (I : Inv X pins σ H s) (k : ∀ b o, b ≠ it → s.heap.get? b = some o → h'.get? b = some o) (hn : H it = none) (hL : it ≠ X.env.locals)
    (h1 : it ∈ X.ex ∨ X.s₀.heap.objs.size ≤ it) (h2 : ∀ x c, X.env.cells.lookup x = some c → c ≠ it) (h3 : ∀ p ∈ X.pn ++ pins, p.1 ≠ it) : Inv X pins σ H { s with heap := h', toks := t' } := by
  have nit : ∀ b u, H b = some u → b ≠ it := fun b u e z => by rw [z, hn] at e; cases e
  refine I.step (g' := s.gens) (d' := s.drawn) (ch := [it]) (fun b hb => ?_) (fun b o _ _ hc e _ => k b o (fun z => hc (by simp [z])) e) (fun b o _ _ hc e _ => ⟨o.slots, k b o (fun z => hc (by simp [z])) e⟩) (fun _ _ _ _ n => n)
    (fun b o hc e => ⟨o, k b o (fun z => hc (by simp [z])) e⟩) (fun _ _ e => e) (fun _ _ _ e => e) (fun b ps e => ⟨#[], by rw [e]; simp⟩) (fun m hm => ?_) (fun b u e => ?_) I.bare
  · have e : b = it := by simpa using hb
    subst e
    exact ⟨h1, hL, h2, h3⟩
  · obtain ⟨o, es, ep, ho, r⟩ := hm
    exact ⟨o, es, ep, k _ o (Ne.symm hL) ho, r⟩
  · refine (I.hok b u e).stay (fun c v hc q => k c v ?_ q) (fun _ q => q) fun _ _ q => q
    rcases hc with z | z
    · rw [z]; exact nit b u e
    · exact nit c _ z
theorem Inv.tok (I : Inv X pins σ H s) (t : Nat) : Inv X pins σ H { s with toks := t } := I.un (h' := s.heap) (t' := t) Un.refl I.hok
theorem Inv.kept {t' : Nat} (I : Inv X pins σ H s) (k : ∀ b u, s.heap.get? b = some u → h'.get? b = some u) : Inv X pins σ H { s with heap := h', toks := t' } := I.un (Un.kept k) (I.hok.kept k)
theorem Inv.laid {a : Addr} {o : HO} {t' : Nat} (I : Inv X pins σ H s) (k : ∀ b u, s.heap.get? b = some u → h'.get? b = some u) (hp : s.heap.objs.size ≤ a) (new : ObjOk X.prog X.w (upd H a o) h' a o) :
    Inv X pins σ (upd H a o) { s with heap := h', toks := t' } := I.un (Un.laid k hp (I.hok.fresh hp)) (I.hok.laid k hp new)
theorem Inv.write {x e : Addr} {o : HO} {t' : Nat} (I : Inv X pins σ H s) (mu : Mut (H x)) (he : e = x ∨ H e = some (.own x)) (k : ∀ b u, b ≠ e → s.heap.get? b = some u → h'.get? b = some u) (heo : ∃ u, h'.get? e = some u)
    (new : ObjOk X.prog X.w (upd H x o) h' x o) : Inv X pins σ (upd H x o) { s with heap := h', toks := t' } := I.un (Un.write mu he k heo) (I.hok.write mu he k heo new)
theorem Inv.weak {σ' : List (Option V)} (I : Inv X pins σ H s) (hl : σ'.length = σ.length) (w : ∀ (i : Nat) v, σ'[i]? = some (some v) → σ[i]? = some (some v)) : Inv X pins σ' H s :=
  ⟨I.ok, I.os, I.bare, I.base, let ⟨m, hn, hl'⟩ := I.loc; ⟨m, hn, fun i x v e1 e2 e3 => hl' i x v e1 (w i v e2) e3⟩, I.cell, I.free, I.freeC, I.pin, I.hok, hl.trans I.len⟩
theorem Inv.pins_of {pins' : List (Addr × Obj)} (I : Inv X pins σ H s) (h : ∀ p ∈ pins', s.heap.get? p.1 = some p.2 ∧ H p.1 = none ∧ p.1 ≠ X.env.locals ∧ p.1 ∉ X.fs ∧ ∀ v, p.2.data ≠ .cell v) : Inv X pins' σ H s :=
  ⟨I.ok, I.os, I.bare, I.base, I.loc, I.cell, I.free, I.freeC, fun p hp => (List.mem_append.mp hp).elim (fun z => I.pin p (List.mem_append_left _ z)) (h p), I.hok, I.len⟩
theorem nodup_ix {N : List Str} (hN : N.Nodup) {i j : Nat} {x : Str} (a : N[i]? = some x) (b : N[j]? = some x) : i = j := by
  obtain ⟨h1, e1⟩ := List.getElem?_eq_some_iff.mp a
  obtain ⟨h2, e2⟩ := List.getElem?_eq_some_iff.mp b
  exact (List.getElem_inj hN).mp (e1.trans e2.symm)
theorem store_ok2 {M : Model} {A : Around} {E : Value → Shared → Prop} {i : Nat} {x : Str} {v : V} {u : Value} {Q : Unit → Shared → Prop} (I : Inv X pins σ H s) (hN : X.N.Nodup) (hi : X.N[i]? = some x) (hx : Loc X.env.scope x) (r : RelV v u)
    (h : ∀ s', Inv X pins (σ.set i (some v)) H s' → (∃ a, Heap.SameBut a s.heap s'.heap ∧ (a = X.env.locals ∨ X.env.cells.lookup x = some a)) → Q () s') (hf : X.fn x = true ∨ X.env.scope.names.lookup x = some .local := by first | exact .inl rfl | exact .inr rfl | assumption) : wpAny M A (storeName X.env x u) Q E s := by
  obtain ⟨m, hn, hl⟩ := id I.loc
  have hcls : (X.env.scope.kind == .class || (X.env.scope.kind == .module && X.env.locals != X.env.globals)) = false := by rw [I.ok.kind]; rfl
  have hiσ : i < σ.length := by rw [I.len]; exact (List.getElem?_eq_some_iff.mp hi).1
  have cne := I.cne
  have tracked : ∀ {a : Addr} {h' : Heap}, (∃ o, s.heap.get? a = some o ∧ H a = none) → Heap.SameBut a s.heap h' → HOk X.prog X.w H h' := fun {a h'} ha hs b ob e => by
    obtain ⟨_, _, hfree⟩ := ha
    refine (I.hok b ob e).stay (fun c w' hc q => (hs.2 c ?_).trans q) (fun _ q => q) fun _ _ q => q
    rintro rfl
    rcases hc with rfl | hc
    · rw [hfree] at e; cases e
    · rw [hfree] at hc; cases hc
  rcases hx with hk | hk
  · refine wpAny_storeName_local hk hn (fun h' hn' hs => ?_) hcls
    obtain ⟨oL, _, _, hoL, _⟩ := id hn
    refine h _ ⟨I.ok, I.os, I.bare, ⟨fun b o e n hb hx => ?_, fun b o e n hb hx => ?_, I.base.free, fun b o e hx => ?_, I.base.tups, I.base.frzs, I.base.tbls⟩, ⟨_, hn', fun j y v' e1 e2 e3 => ?_⟩, fun y c e => ?_, I.free, I.freeC, fun p hp => ?_, tracked ⟨oL, hoL, I.free⟩ hs, by simpa using I.len⟩ ⟨_, hs, .inl rfl⟩
    · exact (hs.2 b (Nat.ne_of_lt (Nat.lt_of_lt_of_le (Heap.lt_size e) I.ok.above))).trans (I.base.keep b o e n hb hx)
    · obtain ⟨sl, e1⟩ := I.base.slot b o e n hb hx
      exact ⟨sl, (hs.2 b (Nat.ne_of_lt (Nat.lt_of_lt_of_le (Heap.lt_size e) I.ok.above))).trans e1⟩
    · obtain ⟨o', e1⟩ := I.base.there b o e hx
      exact ⟨o', (hs.2 b (Nat.ne_of_lt (Nat.lt_of_lt_of_le (Heap.lt_size e) I.ok.above))).trans e1⟩
    · by_cases hj : j = i
      · subst hj
        rw [hi] at e1; cases e1
        rw [List.getElem?_set_self hiσ] at e2
        cases e2
        exact ⟨u, r, .inl ⟨hk, by simp⟩⟩
      · rw [List.getElem?_set_ne (Ne.symm hj)] at e2
        obtain ⟨u', r', q⟩ := hl j y v' e1 e2 e3
        refine ⟨u', r', ?_⟩
        rcases q with ⟨k, e⟩ | ⟨k, c, e, z⟩
        · refine .inl ⟨k, ?_⟩
          have : y ≠ x := fun e => hj (nodup_ix hN e1 (e ▸ hi))
          simp [this, e]
        · exact .inr ⟨k, c, e, z.sameBut hs (cne y c e)⟩
    · obtain ⟨w', z⟩ := I.cell y c e
      exact ⟨w', z.sameBut hs (cne y c e)⟩
    · obtain ⟨e, n, ne, nf, d⟩ := I.pin p hp
      exact ⟨(hs.2 p.1 ne).trans e, n, ne, nf, d⟩
  · have hfn : X.fn x = true := by
      rcases hf with z | z
      · exact z
      · rw [z] at hk; cases hk
    obtain ⟨c, hc⟩ := I.ok.has x (.inl hk)
    obtain ⟨w', z⟩ := I.cell x c hc
    refine wpAny_storeName_cell I.ok.kind hk hc z (fun h' hc' hs => ?_)
    obtain ⟨oc, hoc, hocd⟩ := id z
    refine h { s with heap := h' } ⟨I.ok, I.os, I.bare, ⟨fun b o e n hb hx => ?_, fun b o e n hb hx => ?_, I.base.free, fun b o e hx => ?_, I.base.tups, I.base.frzs, I.base.tbls⟩, ⟨m, hn.sameBut hs (Ne.symm (cne x c hc)), fun j y v' e1 e2 e3 => ?_⟩, fun y c' e => ?_, I.free, I.freeC, fun p hp => ?_, tracked ⟨oc, hoc, I.freeC x c hc⟩ hs, by simpa using I.len⟩ ⟨c, hs, .inr hc⟩
    · exact (hs.2 b (Nat.ne_of_lt (Nat.lt_of_lt_of_le (Heap.lt_size e) (I.ok.cab x c hfn hc)))).trans (I.base.keep b o e n hb hx)
    · obtain ⟨sl, e1⟩ := I.base.slot b o e n hb hx
      exact ⟨sl, (hs.2 b (Nat.ne_of_lt (Nat.lt_of_lt_of_le (Heap.lt_size e) (I.ok.cab x c hfn hc)))).trans e1⟩
    · obtain ⟨o', e1⟩ := I.base.there b o e hx
      exact ⟨o', (hs.2 b (Nat.ne_of_lt (Nat.lt_of_lt_of_le (Heap.lt_size e) (I.ok.cab x c hfn hc)))).trans e1⟩
    · by_cases hj : j = i
      · subst hj
        rw [hi] at e1; cases e1
        rw [List.getElem?_set_self hiσ] at e2
        cases e2
        exact ⟨u, r, .inr ⟨.inl hk, c, hc, hc'⟩⟩
      · rw [List.getElem?_set_ne (Ne.symm hj)] at e2
        obtain ⟨u', r', q⟩ := hl j y v' e1 e2 e3
        refine ⟨u', r', ?_⟩
        rcases q with q | ⟨k, c', e, z'⟩
        · exact .inl q
        · refine .inr ⟨k, c', e, z'.sameBut hs ?_⟩
          rintro rfl
          exact hj (nodup_ix hN e1 (I.ok.inj _ _ _ e hc ▸ hi))
    · by_cases hcc : c' = c
      · subst hcc; exact ⟨_, hc'⟩
      · obtain ⟨w2, z2⟩ := I.cell y c' e
        exact ⟨w2, z2.sameBut hs hcc⟩
    · obtain ⟨e, n, ne, nf, d⟩ := I.pin p hp
      refine ⟨(hs.2 p.1 ?_).trans e, n, ne, nf, d⟩
      intro q
      rw [q, hoc] at e
      have q' : oc = p.2 := Option.some.inj e
      exact d w' (by rw [← q']; exact hocd)
theorem store_ok {M : Model} {A : Around} {E : Value → Shared → Prop} {i : Nat} {x : Str} {v : V} {u : Value} {Q : Unit → Shared → Prop} (I : Inv X pins σ H s) (hN : X.N.Nodup) (hi : X.N[i]? = some x) (hx : Loc X.env.scope x) (r : RelV v u)
    (h : ∀ s', Inv X pins (σ.set i (some v)) H s' → Q () s') (hf : X.fn x = true ∨ X.env.scope.names.lookup x = some .local := by first | exact .inl rfl | exact .inr rfl | assumption) : wpAny M A (storeName X.env x u) Q E s :=
  store_ok2 I hN hi hx r (fun s' I' _ => h s' I') hf
theorem Inv.call' {s' : Shared} {ch : List Addr} (I : Inv X pins σ H s) (ho : s'.os = s.os) (u : Un (frs X.stack) ch H H' s.heap s'.heap) (hok : HOk X.prog X.w H' s'.heap) (hg : AllBare s'.gens)
    (hch : ∀ b ∈ ch, (b ∈ X.ex ∨ X.s₀.heap.objs.size ≤ b) ∧ b ≠ X.env.locals ∧ (∀ x c, X.env.cells.lookup x = some c → c ≠ b) ∧ ∀ p ∈ X.pn ++ pins, p.1 ≠ b) : Inv X pins σ H' s' := by
  obtain ⟨h', g', d', t', o'⟩ := s'
  have e : o' = s.os := ho
  subst e
  exact I.call (g' := g') (t' := t') (d' := d') u hok hg hch
end
abbrev XK := Value → Option Addr → Hp → Prop
abbrev St := List (Option V)
abbrev VK := V → Hp → Prop
abbrev TE := St → Hp → VK → Prop
abbrev TT := St → Hp → (Bool → Hp → Prop) → Prop
abbrev TA := St → Hp → (List V → Hp → Prop) → Prop
structure Ends where
  nx : St → Hp → Prop
  rt : VK
  bk : St → Hp → Prop := fun _ _ => False
  ct : St → Hp → Prop := fun _ _ => False
abbrev TS := Ends → St → Hp → Prop
def EP (X : Cx) (pins : List (Addr × Obj)) (σ : St) (Q : VK) (u : Value) (s' : Shared) : Prop := ∃ v H', Inv X pins σ H' s' ∧ RelV v u ∧ Q v H'
def TP (X : Cx) (pins : List (Addr × Obj)) (σ : St) (Q : Bool → Hp → Prop) (b : Bool) (s' : Shared) : Prop := ∃ H', Inv X pins σ H' s' ∧ Q b H'
def AP (X : Cx) (pins : List (Addr × Obj)) (σ : St) (Q : List V → Hp → Prop) (us : List Value) (s' : Shared) : Prop := ∃ vs H', Inv X pins σ H' s' ∧ Vals vs us ∧ Q vs H'
def SP (X : Cx) (pins : List (Addr × Obj)) (D : Ends) (f : Flow) (s' : Shared) : Prop :=
  match f with
  | .next => ∃ σ' H', Inv X pins σ' H' s' ∧ D.nx σ' H'
  | .brk => ∃ σ' H', Inv X pins σ' H' s' ∧ D.bk σ' H'
  | .cont => ∃ σ' H', Inv X pins σ' H' s' ∧ D.ct σ' H'
  | .ret u => ∃ v σ' H', Inv X pins σ' H' s' ∧ RelV v u ∧ D.rt v H'
def PE (X : Cx) (e : Expr) (t : TE) : Prop :=
  ∀ (pins : List (Addr × Obj)) (s : Shared) (σ : St) (H : Hp) (Q : VK), Inv X pins σ H s → t σ H Q → wpAny (model X.prog X.w) X.A (eval e X.env) (EP X pins σ Q) X.xe s
def PT (X : Cx) (e : Expr) (t : TT) : Prop :=
  ∀ (pins : List (Addr × Obj)) (s : Shared) (σ : St) (H : Hp) (Q : Bool → Hp → Prop), Inv X pins σ H s → t σ H Q → wpAny (model X.prog X.w) X.A (isTrue e X.env (eval e X.env)) (TP X pins σ Q) X.xe s
def PW (X : Cx) (e : Expr) (t : TT) : Prop :=
  ∀ (whole : Sem Value) (pins : List (Addr × Obj)) (s : Shared) (σ : St) (H : Hp) (Q : Bool → Hp → Prop), Inv X pins σ H s → t σ H Q → wpAny (model X.prog X.w) X.A (isTrue e X.env whole) (TP X pins σ Q) X.xe s
theorem PW.pt {X : Cx} {e : Expr} {t : TT} (h : PW X e t) : PT X e t := h _
def PA (X : Cx) (es : List Expr) (t : TA) : Prop :=
  ∀ (pos : Pos) (pins : List (Addr × Obj)) (s : Shared) (σ : St) (H : Hp) (Q : List V → Hp → Prop), Inv X pins σ H s → t σ H Q → wpAny (model X.prog X.w) X.A (spliced (backTo pos (starEach es X.env))) (AP X pins σ Q) X.xe s
def PS (X : Cx) (st : Stmt) (t : TS) : Prop :=
  ∀ (pins : List (Addr × Obj)) (s : Shared) (σ : St) (H : Hp) (D : Ends), Inv X pins σ H s → t D σ H → wpAny (model X.prog X.w) X.A (exec st X.env) (SP X pins D) X.xe s
def PSs (X : Cx) (st : List Stmt) (t : TS) : Prop :=
  ∀ (pins : List (Addr × Obj)) (s : Shared) (σ : St) (H : Hp) (D : Ends), Inv X pins σ H s → t D σ H → wpAny (model X.prog X.w) X.A (execs st X.env) (SP X pins D) X.xe s
theorem thn {α : Type} {t : Sem α} {Q Q' : α → Shared → Prop} {M : Model} {A : Around} {E : Value → Shared → Prop} {s : Shared} (h : wpAny M A t Q E s) (hQ : ∀ a s, Q a s → Q' a s) : wpAny M A t Q' E s := wpAny_mono h hQ fun _ _ x => x
end L2
namespace L2
open PySem PySem.Spec PyProof.Rows
section
variable {X : Cx}
def tVar (i : Nat) : TE := fun σ H Q => ∃ v, σ[i]? = some (some v) ∧ Q v H
def tC (v : V) : TE := fun _ H Q => Q v H
theorem pe_var {i : Nat} {x : Str} {pos : Pos} (hN : X.N[i]? = some x) (hv : Vis X.env.scope x) (hd : (x == ("__debug__" : Str)) = false := by decide) (hcd : (x == ("__classdict__" : Str)) = false := by decide) : PE X (.Name x pos) (tVar i) := by
  intro pins s σ H Q I h
  obtain ⟨v, e, h⟩ := h
  obtain ⟨m, hn, hl⟩ := I.loc
  obtain ⟨u, r, l⟩ := hl i x v hN e hv
  have fin : EP X pins σ Q u s := ⟨v, H, I, r, h⟩
  rcases l with ⟨hk, hm⟩ | ⟨hk, c, hc, hcell⟩
  · exact wpAny_Name (wpAny_loadName_local I.ok.kind hk hn hm fin) hd
  · rcases hk with hk | hk
    · exact wpAny_Name (wpAny_loadName_cell I.ok.kind hk hc hcell fin) hd
    · exact wpAny_Name (wpAny_loadName_free I.ok.kind hk hc hcell fin hcd) hd
theorem pe_int {i j pos} : PE X (.Constant (.int i) j pos) (tC (.int i)) := fun _ _ _ H _ I h => wpAny_Constant_int ⟨.int i, H, I.tok _, ⟨_, rfl⟩, h⟩
theorem pe_bl {b j pos} : PE X (.Constant (.bool b) j pos) (tC (.bl b)) := fun _ _ _ H _ I h => Constant_bool ⟨.bl b, H, I, rfl, h⟩
theorem pe_non {j pos} : PE X (.Constant .none j pos) (tC .non) := fun _ _ _ H _ I h => Constant_none ⟨.non, H, I, rfl, h⟩
theorem pe_str {x j pos} : PE X (.Constant (.str x) j pos) (tC (.str x)) := fun _ _ _ H _ I h => Calls.Constant_str ⟨.str x, H, I.tok _, ⟨_, rfl⟩, h⟩
def Gl (X : Cx) (x : Str) : Prop := X.env.kindOf x = some .globalImplicit
theorem ld_glob {E : Value → Shared → Prop} {pins : List (Addr × Obj)} {s : Shared} {σ : St} {H : Hp} {x : Str} {u : Value} {pos : Pos} {Q : Value → Shared → Prop} (I : Inv X pins σ H s) (hg : Gl X x) (hm : X.mg x = some u) (h : Q u s)
    (hd : (x == ("__debug__" : Str)) = false := by decide) : wpAny (model X.prog X.w) X.A (eval (.Name x pos) X.env) Q E s :=
  Calls.Name_function_global I.ok.kind hg (Calls.loadGlobal_global (by rw [I.ok.glob]; exact I.mod.glob.keeps I.bk) hm h) hd
theorem ld_blt {E : Value → Shared → Prop} {pins : List (Addr × Obj)} {s : Shared} {σ : St} {H : Hp} {x : Str} {u : Value} {pos : Pos} {Q : Value → Shared → Prop} (I : Inv X pins σ H s) (hg : Gl X x) (hm : X.mg x = none) (hv : bootBuiltins x = some u) (h : Q u s)
    (hn : x ≠ "__name__" := by decide) (hd : (x == ("__debug__" : Str)) = false := by decide) : wpAny (model X.prog X.w) X.A (eval (.Name x pos) X.env) Q E s := by
  obtain ⟨mb, h1, h2⟩ := I.mod.blt
  exact Calls.Name_function_global I.ok.kind hg (Calls.loadGlobal_builtin (by rw [I.ok.glob]; exact I.mod.glob.keeps I.bk) hm (by rw [I.ok.blt]; exact h1.keeps I.bk) ((h2 x hn).trans hv) h) hd
theorem pe_glob {x : Str} {v : V} {u : Value} {pos : Pos} (hg : Gl X x) (hm : X.mg x = some u) (r : RelV v u) (hd : (x == ("__debug__" : Str)) = false := by decide) : PE X (.Name x pos) (tC v) :=
  fun _ _ _ H _ I h => ld_glob I hg hm ⟨v, H, I, r, h⟩ hd
theorem pe_bltn {x : Str} {v : V} {u : Value} {pos : Pos} (hg : Gl X x) (hm : X.mg x = none) (hv : bootBuiltins x = some u) (r : RelV v u) (hn : x ≠ "__name__" := by decide) (hd : (x == ("__debug__" : Str)) = false := by decide) : PE X (.Name x pos) (tC v) :=
  fun _ _ _ H _ I h => ld_blt I hg hm hv ⟨v, H, I, r, h⟩ hn hd
variable {a b : Expr} {ta tb : TE} {pos : Pos}
def tB (t : TE) : TT := fun σ H Q => t σ H fun x H1 => ∃ c, x = .bl c ∧ Q c H1
theorem pt_val {e : Expr} {t : TE} (h : PE X e t) (he : ∀ whole, isTrue e X.env whole = (do let v ← whole; standAt e.pos; holding [v] (truthy v)) := by intro _; rfl) : PT X e (tB t) := by
  intro pins s σ H Q I hw
  refine isTrue_plain (thn (h pins s σ H _ I hw) fun v s1 ⟨x, H1, I1, r1, q1⟩ => ?_) (he _)
  obtain ⟨d, rfl, q⟩ := q1
  cases r1
  exact wpAny_truthy_bool ⟨H1, I1, q⟩
variable {tA tB' : TT} {rest : List Expr}
def tOr (t u : TT) : TT := fun σ H Q => t σ H fun c H1 => if c = true then Q true H1 else u σ H1 Q
def tNot (t : TT) : TT := fun σ H Q => t σ H fun c H1 => Q (!c) H1
theorem pw_or1 (ha : PT X a tA) : PW X (.BoolOp .Or [a] pos) tA := by
  intro wh pins s σ H Q I h
  refine isTrue_or (thn (ha pins s σ H Q I h) fun c s1 e => ?_)
  cases c with
  | false => exact isTrue_or_nil e
  | true => exact e
theorem pw_or (ha : PT X a tA) (hb : PW X (.BoolOp .Or (b :: rest) pos) tB') : PW X (.BoolOp .Or (a :: b :: rest) pos) (tOr tA tB') := by
  intro wh pins s σ H Q I h
  refine isTrue_or (thn (ha pins s σ H _ I h) fun c s1 ⟨H1, I1, q1⟩ => ?_)
  cases c with
  | true => exact ⟨H1, I1, q1⟩
  | false => exact hb wh pins s1 σ H1 Q I1 q1
theorem pt_not (ha : PT X a tA) : PT X (.UnaryOp .Not a pos) (tNot tA) := by
  intro pins s σ H Q I h
  exact isTrue_not (ha pins s σ H (fun c H1 => Q (!c) H1) I h)
def tAndV (ta tb : TE) : TE := fun σ H Q => ta σ H fun x H1 => ∃ c, x = .bl c ∧ if c = true then tb σ H1 Q else Q (.bl false) H1
def tNotV (ta : TE) : TE := fun σ H Q => ta σ H fun x H1 => ∃ c, x = .bl c ∧ Q (.bl (!c)) H1
theorem pe_one {op} {t : TE} (h : PE X a t) : PE X (.BoolOp op [a] pos) t := fun pins s σ H Q I hw => BoolOp_one (h pins s σ H Q I hw)
theorem pe_and (ha : PE X a ta) (hb : PE X (.BoolOp .And (b :: rest) pos) tb) : PE X (.BoolOp .And (a :: b :: rest) pos) (tAndV ta tb) := by
  intro pins s σ H Q I h
  refine BoolOp_and (thn (ha pins s σ H _ I h) fun v s1 ⟨x, H1, I1, r1, q1⟩ => ?_)
  obtain ⟨c, rfl, q1⟩ := q1
  cases r1
  refine wpAny_truthy_bool ?_
  cases c with
  | true => exact hb pins s1 σ H1 Q I1 q1
  | false => exact ⟨.bl false, H1, I1, rfl, q1⟩
theorem pe_not (ha : PE X a ta) : PE X (.UnaryOp .Not a pos) (tNotV ta) := by
  intro pins s σ H Q I h
  refine UnaryOp_ (thn (ha pins s σ H _ I h) fun v s1 ⟨x, H1, I1, r1, q1⟩ => ?_)
  obtain ⟨c, rfl, q1⟩ := q1
  cases r1
  exact not_of (wpAny_truthy_bool ⟨.bl (!c), H1, I1, rfl, q1⟩)
end
end L2
namespace L2
open PySem PySem.Spec PyProof.Rows
def SqL (K : PySem.W.Frag) (H : Hp) (a : Addr) (xs : List V) : Prop :=
  Rd H a (.lst xs) ∨
    ∃ (o : Obj) (its : Array Value) (n : Nat), K.lookup a = some o ∧ o.cls = .type "list" ∧ o.dict = none ∧ o.data = .seq its n ∧ its.size ≤ sizeLine ∧ Vals xs its.toList
def SqT (K : PySem.W.Frag) (H : Hp) (a : Addr) (xs : List V) : Prop :=
  Rd H a (.tup xs) ∨
    ∃ (o : Obj) (its : Array Value) (n : Nat), K.lookup a = some o ∧ o.cls = .type "tuple" ∧ o.data = .seq its n ∧ its.size ≤ sizeLine ∧ Vals xs its.toList
def absV : Value → Option V
  | .none => some .non
  | .bool b => some (.bl b)
  | .int i _ => some (.int i)
  | .str x _ => some (.str x)
  | .bytes b _ => some (.byt b)
  | .float b _ => some (.flt b)
  | .ref a => some (.ref a)
  | .type n => some (.ty n)
  | _ => none
theorem RelV.abs {x : V} {u : Value} (r : RelV x u) : absV u = some x := by
  cases x with
  | non => cases r; rfl
  | bl _ => cases r; rfl
  | int _ => obtain ⟨t, rfl⟩ := r; rfl
  | str _ => obtain ⟨t, rfl⟩ := r; rfl
  | byt _ => obtain ⟨t, rfl⟩ := r; rfl
  | flt _ => obtain ⟨t, rfl⟩ := r; rfl
  | ref _ => cases r; rfl
  | ty _ => cases r; rfl
theorem RelV.inj {x y : V} {u : Value} (r : RelV x u) (q : RelV y u) : x = y := Option.some.inj (r.abs.symm.trans q.abs)
theorem Vals.inj : ∀ {xs ys : List V} {us : List Value}, Vals xs us → Vals ys us → xs = ys
  | _, _, _, .nil, .nil => rfl
  | _, _, _, .cons r t, .cons r' t' => by rw [r.inj r', Vals.inj t t']
section
variable {X : Cx} {pins : List (Addr × Obj)} {σ : St} {H : Hp} {s : Shared} {a : Addr} {xs ys : List V}
theorem SqL.of {K : PySem.W.Frag} (h : H a = some (.lst xs)) : SqL K H a xs := .inl (.inl h)
theorem SqT.of {K : PySem.W.Frag} (h : H a = some (.tup xs)) : SqT K H a xs := .inl (.inl h)
theorem Inv.list (I : Inv X pins σ H s) (h : SqL X.K H a xs) : ∃ its : List Value, Vals xs its ∧ PlainL s.heap a its.toArray ∧ xs.length ≤ sizeLine := by
  rcases h with h | ⟨o, its, n, hk, hc, hd, hs, hz, r⟩
  · obtain ⟨z, its, n, r, e⟩ := h.ok I.hok
    exact ⟨its, r, ⟨_, n, e, rfl, rfl, rfl⟩, z⟩
  · refine ⟨its.toList, r, ⟨o, n, I.kIn a o hk, hc, hd, by simpa using hs⟩, ?_⟩
    have e := r.length
    simp only [Array.length_toList] at e
    omega
theorem Inv.tuple (I : Inv X pins σ H s) (h : SqT X.K H a xs) : ∃ its : List Value, Vals xs its ∧ IsTup s.heap a its.toArray ∧ xs.length ≤ sizeLine := by
  rcases h with h | ⟨o, its, n, hk, hc, hs, hz, r⟩
  · obtain ⟨z, its, r, p⟩ := h.ok I.hok
    exact ⟨its, r, p.tup, z⟩
  · refine ⟨its.toList, r, ⟨o, I.kIn a o hk, hc, n, by simpa using hs⟩, ?_⟩
    have e := r.length
    simp only [Array.length_toList] at e
    omega
theorem Inv.list_inj (I : Inv X pins σ H s) (h : SqL X.K H a xs) (h' : SqL X.K H a ys) : xs = ys := by
  obtain ⟨its, r, ⟨o, n, e, _, _, d⟩, _⟩ := I.list h
  obtain ⟨its', r', ⟨o', n', e', _, _, d'⟩, _⟩ := I.list h'
  rw [e] at e'; cases e'
  rw [d] at d'
  injection d' with d1 _
  have : its = its' := by simpa using congrArg Array.toList d1
  subst this
  exact r.inj r'
theorem Inv.tuple_inj (I : Inv X pins σ H s) (h : SqT X.K H a xs) (h' : SqT X.K H a ys) : xs = ys := by
  obtain ⟨its, r, ⟨o, e, _, n, d⟩, _⟩ := I.tuple h
  obtain ⟨its', r', ⟨o', e', _, n', d'⟩, _⟩ := I.tuple h'
  rw [e] at e'; cases e'
  rw [d] at d'
  injection d' with d1 _
  have : its = its' := by simpa using congrArg Array.toList d1
  subst this
  exact r.inj r'
end
abbrev Cx.wish (X : Cx) (E : Value → Shared → Prop) : Cx := { X with xe := E }
abbrev Cx.nox (X : Cx) : Cx := X.wish fun _ _ => False
theorem Cx.Ok.wish {X : Cx} (ok : X.Ok) (E : Value → Shared → Prop) : (X.wish E).Ok :=
  ⟨ok.mod, ok.kind, ok.glob, ok.blt, ok.above, ok.inj, ok.has, ok.cab, ok.hd, ok.frames, ok.stk, ok.exf, ok.bs, ok.bsz, ok.noex, ok.exfs, ok.funs, ok.frf⟩
theorem Cx.Ok.unwish {X : Cx} {E : Value → Shared → Prop} (ok : (X.wish E).Ok) : X.Ok :=
  ⟨ok.mod, ok.kind, ok.glob, ok.blt, ok.above, ok.inj, ok.has, ok.cab, ok.hd, ok.frames, ok.stk, ok.exf, ok.bs, ok.bsz, ok.noex, ok.exfs, ok.funs, ok.frf⟩
section
variable {X : Cx} {pins : List (Addr × Obj)} {σ : St} {H : Hp} {s : Shared} {E : Value → Shared → Prop}
theorem Inv.wish (I : Inv X pins σ H s) (E : Value → Shared → Prop) : Inv (X.wish E) pins σ H s := ⟨I.ok.wish E, I.os, I.bare, I.base, I.loc, I.cell, I.free, I.freeC, I.pin, I.hok, I.len⟩
theorem Inv.unwish (I : Inv (X.wish E) pins σ H s) : Inv X pins σ H s := ⟨I.ok.unwish, I.os, I.bare, I.base, I.loc, I.cell, I.free, I.freeC, I.pin, I.hok, I.len⟩
theorem SP.unwish {D : Ends} {f : Flow} {s' : Shared} (h : SP (X.wish E) pins D f s') : SP X pins D f s' := by
  cases f with
  | next => obtain ⟨σ', H', I, q⟩ := h; exact ⟨σ', H', I.unwish, q⟩
  | brk => obtain ⟨σ', H', I, q⟩ := h; exact ⟨σ', H', I.unwish, q⟩
  | cont => obtain ⟨σ', H', I, q⟩ := h; exact ⟨σ', H', I.unwish, q⟩
  | ret u => obtain ⟨v, σ', H', I, r, q⟩ := h; exact ⟨v, σ', H', I.unwish, r, q⟩
theorem PSs.nox {st : List Stmt} {t : TS} (h : PSs X.nox st t) : PSs X st t := fun pins s σ H D I hw =>
  wpAny_mono (h pins s σ H D (I.wish _) hw) (fun _ _ q => q.unwish) fun _ _ z => False.elim z
end
section
variable {X : Cx} {st : Stmt} {rest : List Stmt} {t u : TS} {e : Expr} {te : TE} {pos : Pos}
def tNext : TS := fun D σ H => D.nx σ H
def tSeq (t u : TS) : TS := fun D σ H => t { D with nx := u D } σ H
theorem pss_nil : PSs X [] tNext := fun _ _ σ H _ I h => wpAny_execs_nil ⟨σ, H, I, h⟩
theorem pss_cons (h1 : PS X st t) (h2 : PSs X rest u) : PSs X (st :: rest) (tSeq t u) := by
  intro pins s σ H D I h
  refine wpAny_execs_cons (thn (h1 pins s σ H { D with nx := u D } I h) fun f s1 q => ?_)
  cases f with
  | next =>
    obtain ⟨σ', H', I', q⟩ := q
    exact h2 pins s1 σ' H' D I' q
  | ret v => exact q
  | brk => exact q
  | cont => exact q
theorem pss_one (h1 : PS X st t) : PSs X [st] t := by
  intro pins s σ H D I h
  refine wpAny_execs_cons (thn (h1 pins s σ H D I h) fun f s1 q => ?_)
  cases f with
  | next => exact wpAny_execs_nil q
  | ret v => exact q
  | brk => exact q
  | cont => exact q
theorem Inv.quiet {pins : List (Addr × Obj)} {σ : St} {H : Hp} {s : Shared} (I : Inv X pins σ H s) : interactive X.env = false := by simp [interactive, I.ok.kind]
def tDrop (te : TE) : TS := fun D σ H => te σ H fun _ H1 => D.nx σ H1
theorem ps_expr (he : PE X e te) (hs : swapsWith e none pos.line X.env = pure false := by rfl) : PS X (.Expr e pos) (tDrop te) := by
  intro pins s σ H D I h
  exact wpAny_Expr_any (thn (he pins s σ H _ I h) fun v s1 ⟨x, H1, I1, r1, q1⟩ => ⟨σ, H1, I1, q1⟩) I.quiet hs
def tRet (te : TE) : TS := fun D σ H => te σ H D.rt
theorem ps_ret (he : PE X e te) : PS X (.Return (some e) pos) (tRet te) := by
  intro pins s σ H D I h
  exact wpAny_Return_some (thn (he pins s σ H _ I h) fun v s1 ⟨x, H1, I1, r1, q1⟩ => ⟨x, σ, H1, I1, r1, q1⟩)
def tIfS (c : TT) (t u : TS) : TS := fun D σ H => c σ H fun b H1 => if b = true then t D σ H1 else u D σ H1
theorem ps_if {c : Expr} {a b : List Stmt} {tc : TT} (hc : PT X c tc) (ha : PSs X a t) (hb : PSs X b u) : PS X (.If c a b pos) (tIfS tc t u) := by
  intro pins s σ H D I h
  refine wpAny_If (thn (hc pins s σ H _ I h) fun d s1 ⟨H1, I1, q1⟩ => ?_)
  cases d with
  | true => exact ha pins s1 σ H1 D I1 q1
  | false => exact hb pins s1 σ H1 D I1 q1
def tNever : TS := fun _ _ _ => False
theorem pss_never {sts : List Stmt} : PSs X sts tNever := fun _ _ _ _ _ _ h => h.elim
end
abbrev TG := V → St → Hp → (St → Hp → Prop) → Prop
def PG (X : Cx) (target : Expr) (t : TG) : Prop :=
  ∀ (pins : List (Addr × Obj)) (s : Shared) (σ : St) (H : Hp) (v : V) (u : Value) (Q : St → Hp → Prop), Inv X pins σ H s → RelV v u → t v σ H Q →
    wpAny (model X.prog X.w) X.A (assign target X.env u) (fun _ s' => ∃ σ' H', Inv X pins σ' H' s' ∧ Q σ' H') X.xe s
abbrev TSet := V → V → V → Hp → (Hp → Prop) → Prop
def PSet (X : Cx) (t : TSet) : Prop :=
  ∀ (pins : List (Addr × Obj)) (s : Shared) (σ : St) (H : Hp) (o i v : V) (ov iv u : Value) (Q : Hp → Prop), Inv X pins σ H s → RelV o ov → RelV i iv → RelV v u → t o i v H Q →
    wpAny (model X.prog X.w) X.A (setItem ov iv u) (fun _ s' => ∃ H', Inv X pins σ H' s' ∧ Q H') X.xe s
section
variable {X : Cx} {pos : Pos}
def gName (i : Nat) : TG := fun v σ H Q => Q (σ.set i (some v)) H
theorem pg_name {i : Nat} {x : Str} (hN : X.N.Nodup) (hi : X.N[i]? = some x) (hx : Loc X.env.scope x) (hf : X.fn x = true ∨ X.env.scope.names.lookup x = some .local := by first | exact .inl rfl | exact .inr rfl | assumption) : PG X (.Name x pos) (gName i) := by
  intro pins s σ H v u Q I r h
  exact wpAny_assign_Name (store_ok I hN hi hx r (fun s' I' => ⟨_, H, I', h⟩) hf)
def gSub (to ti : TE) (t : TSet) : TG := fun v σ H Q => to σ H fun o H1 => ti σ H1 fun i H2 => t o i v H2 fun H3 => Q σ H3
theorem pg_sub {o i : Expr} {to ti : TE} {t : TSet} (ho : PE X o to) (hi : PE X i ti) (hs : PSet X t)
    (ha : ∀ v, assign (.Subscript o i pos) X.env v = (do
      let ov ← holding [v] (eval o X.env)
      let iv ← holding [v, ov] (eval i X.env)
      standAt pos
      holding [v, ov, iv] (setItem ov iv v)
      release [v, ov, iv] []) := by intro _; rfl) : PG X (.Subscript o i pos) (gSub to ti t) := by
  intro pins s σ H v u Q I r h
  rw [ha]
  refine wpAny_bind (wpAny_holding (thn (ho pins s σ H _ I h) fun ov s1 ⟨x, H1, I1, r1, q1⟩ => ?_))
  refine wpAny_bind (wpAny_holding (thn (hi pins s1 σ H1 _ I1 q1) fun iv s2 ⟨y, H2, I2, r2, q2⟩ => ?_))
  refine wpAny_bind (wpAny_standAt (wpAny_bind (wpAny_holding (thn (hs pins s2 σ H2 x y v ov iv u _ I2 r1 r2 r q2) fun _ s3 ⟨H3, I3, q3⟩ => ?_))))
  exact wpAny_release ⟨σ, H3, I3, q3⟩
def tAsg (te : TE) (g : TG) : TS := fun D σ H => te σ H fun x H1 => g x σ H1 D.nx
theorem ps_asg {tg e : Expr} {te : TE} {g : TG} (he : PE X e te) (hg : PG X tg g) (hs : swapsWithSole [tg] e pos.line X.env = pure false := by rfl) (hw : swappedStores [tg] e X.env = pure none := by rfl)
    (h1 : (assignEach [tg] X.env).map (·.2) = [assign tg X.env] := by rfl) : PS X (.Assign [tg] e pos) (tAsg te g) := by
  intro pins s σ H D I h
  refine wpAny_Assign_stores (thn (he pins s σ H _ I h) fun v s1 ⟨x, H1, I1, r1, q1⟩ => ?_) hs hw
  rw [h1]
  exact thn (hg pins s1 σ H1 x v _ I1 r1 q1) fun _ s2 q => q
theorem ps_set {i : Nat} {x : Str} {e : Expr} {te : TE} {pos' : Pos} (hN : X.N.Nodup) (hi : X.N[i]? = some x) (hx : Loc X.env.scope x) (he : PE X e te) (hs : swapsWith e (some (.Name x pos')) pos.line X.env = pure false := by rfl) (hf : X.fn x = true ∨ X.env.scope.names.lookup x = some .local := by first | exact .inl rfl | exact .inr rfl | assumption) :
    PS X (.Assign [.Name x pos'] e pos) (tAsg te (gName i)) := by
  intro pins s σ H D I h
  refine wpAny_Assign_Name (thn (he pins s σ H _ I h) fun v s1 ⟨y, H1, I1, r1, q1⟩ => ?_) hs
  exact store_ok I1 hN hi hx r1 (fun s2 I2 => ⟨_, H1, I2, q1⟩) hf
end
section
variable {X : Cx} {pos : Pos}
end
structure It where
  go : Nat → Hp → Prop
  yld : Nat → Hp → V → Hp → Prop
  stop : Nat → Hp → Prop
def FpOk (X : Cx) (pins : List (Addr × Obj)) (H : Hp) (b : Addr) : Prop :=
  H b = none ∧ b ≠ X.env.locals ∧ b ∉ X.fs ∧ (b ∈ X.ex ∨ X.s₀.heap.objs.size ≤ b) ∧ (∀ x c, X.env.cells.lookup x = some c → c ≠ b) ∧ ∀ p ∈ X.pn ++ pins, p.1 ≠ b
theorem Inv.fpOk {X : Cx} {pins : List (Addr × Obj)} {σ : St} {H H' : Hp} {s : Shared} {b : Addr} (I : Inv X pins σ H s) (hb : s.heap.objs.size ≤ b) (hn : H' b = none) : FpOk X pins H' b := by
  refine ⟨hn, Nat.ne_of_gt (Nat.lt_of_lt_of_le I.lt hb), I.nofs hb, .inr (Nat.le_trans I.sz hb), fun x c e z => ?_, fun p hp z => ?_⟩
  · obtain ⟨v, q⟩ := I.cell x c e
    exact absurd (Nat.lt_of_lt_of_le q.lt (by rw [z]; exact hb)) (Nat.lt_irrefl _)
  · exact absurd (Nat.lt_of_lt_of_le (Heap.lt_size (I.pin p hp).1) (by rw [z]; exact hb)) (Nat.lt_irrefl _)
structure Turn (P : Program) (w : World) (K : PySem.W.Frag) (tg : Expr) (J : It) (fp : List Addr) (it : Addr) (tn : Nat → Heap → Prop) : Prop where
  mem : it ∈ fp
  obj : ∀ i h, tn i h → ∀ b ∈ fp, ∃ o, h.get? b = some o ∧ ∀ v, o.data ≠ .cell v
  keep : ∀ i h h', tn i h → (∀ b ∈ fp, ∀ o, h.get? b = some o → h'.get? b = some o) → tn i h'
  item : ∀ (X : Cx), X.prog = P → X.w = w → X.K = K → X.calm = true → ∀ (i : Nat) (pins : List (Addr × Obj)) (s : Shared) (σ : St) (H : Hp) (E : Value → Shared → Prop), Inv X pins σ H s → (∀ b ∈ fp, FpOk X pins H b) → tn i s.heap → J.go i H →
    wpAny (model P w) X.A (pyNext (.ref it)) (fun r s1 => ∃ u, r = some u ∧
      wpAny (model P w) X.A (letOwnedTupleGo tg (.ref it) u) (fun _ s2 => ∃ x H', Inv X pins σ H' s2 ∧ RelV x u ∧ J.yld i H x H' ∧ tn (i + 1) s2.heap ∧ ∀ b ∈ fp, H' b = none) E s1) E s
  done : ∀ (X : Cx), X.prog = P → X.w = w → X.K = K → X.calm = true → ∀ (i : Nat) (pins : List (Addr × Obj)) (s : Shared) (σ : St) (H : Hp) (E : Value → Shared → Prop), Inv X pins σ H s → (∀ b ∈ fp, FpOk X pins H b) → tn i s.heap → J.stop i H →
    wpAny (model P w) X.A (pyNext (.ref it)) (fun r s1 => r = none ∧ Inv X pins σ H s1) E s
  self : ∀ (A : Around) (i : Nat) (s : Shared) (Q : Value → Shared → Prop) (E : Value → Shared → Prop), tn i s.heap → Q (.ref it) s → wpAny (model P w) A (pyIter (.ref it)) Q E s
abbrev TI := St → Hp → (It → Hp → Prop) → Prop
def PIE (X : Cx) (pins : List (Addr × Obj)) (σ : St) (tg : Expr) (R : It → Hp → Prop) (itv : Value) (s2 : Shared) : Prop :=
  ∃ (it : Addr) (fp : List Addr) (tn : Nat → Heap → Prop) (J : It) (H' : Hp), itv = .ref it ∧ Inv X pins σ H' s2 ∧ Turn X.prog X.w X.K tg J fp it tn ∧ tn 0 s2.heap ∧ (∀ b ∈ fp, FpOk X pins H' b) ∧ R J H'
def PI (X : Cx) (tg iter : Expr) (wi : TI) : Prop :=
  ∀ (pins : List (Addr × Obj)) (s : Shared) (σ : St) (H : Hp) (R : It → Hp → Prop), Inv X pins σ H s → wi σ H R →
    wpAny (model X.prog X.w) X.A (eval iter X.env) (fun v s1 => wpAny (model X.prog X.w) X.A (pyIter v) (PIE X pins σ tg R) X.xe s1) X.xe s
theorem go_of {M : Model} {A : Around} {E : Value → Shared → Prop} {s : Shared} {tg : Expr} {it : Addr} {u : Value} {o : Obj} {n : String} {vs : Array Value} {Q : Unit → Shared → Prop} (ho : s.heap.get? it = some o) (hc : o.cls = .type n) (hd : o.data = .fields vs)
    (hn : ["enumerate", "zip", "dict_itemiterator", "dict_reverseitemiterator", "odict_iterator", "itertools.zip_longest", "itertools.pairwise"].contains n = false) (hQ : Q () s) : wpAny M A (letOwnedTupleGo tg (.ref it) u) Q E s := by
  unfold letOwnedTupleGo
  cases tg <;> first
    | exact wpAny_pure hQ
    | (cases u <;> first
        | exact wpAny_pure hQ
        | (refine wpAny_bind (wpAny_load ho ?_)
           rw [hc, hd]
           show wpAny M A (if (["enumerate", "zip", "dict_itemiterator", "dict_reverseitemiterator", "odict_iterator", "itertools.zip_longest", "itertools.pairwise"].contains n && vs[0]? == some (rawInt _)) = true then _ else _) Q E s
           rw [if_neg (by intro h; rw [hn, Bool.false_and] at h; cases h)]
           exact wpAny_pure hQ))
def Itl (K : PySem.W.Frag) (a : Addr) : It :=
  ⟨fun i H => ∃ xs x, SqL K H a xs ∧ xs[i]? = some x, fun i H x H' => H' = H ∧ ∀ xs, SqL K H a xs → xs[i]? = some x, fun i H => ∃ xs, SqL K H a xs ∧ xs.length ≤ i⟩
def Itt (K : PySem.W.Frag) (a : Addr) : It :=
  ⟨fun i H => ∃ xs x, SqT K H a xs ∧ xs[i]? = some x, fun i H x H' => H' = H ∧ ∀ xs, SqT K H a xs → xs[i]? = some x, fun i H => ∃ xs, SqT K H a xs ∧ xs.length ≤ i⟩
def Itr (lo : Int) (n : Nat) : It := ⟨fun i _ => i < n, fun i H x H' => H' = H ∧ x = .int (lo + i), fun i _ => n ≤ i⟩
theorem turn_list {P : Program} {w : World} {K : PySem.W.Frag} {tg : Expr} (a it : Addr) : Turn P w K tg (Itl K a) [it] it (fun i h => h.IsListIter it a i) where
  mem := by simp
  obj := fun i h st b hb => by
    have e : b = it := by simpa using hb
    subst e
    obtain ⟨o, e, c, d⟩ := st
    exact ⟨o, e, fun v z => by rw [d] at z; cases z⟩
  keep := fun i h h' st k => st.at fun o e => k it (by simp) o e
  item := by
    intro X hP hw hK hc i pins s σ H E I hf st hg
    subst hP hw hK
    obtain ⟨xs, x, hq, hx⟩ := hg
    obtain ⟨its, rv, p, hz⟩ := I.list hq
    obtain ⟨u, hu, ru⟩ := rv.get hx
    obtain ⟨f0, f1, f2, f3, f4, f5⟩ := hf it (by simp)
    refine wpAny_pyNext_list_item st p.isList (x := u) (by simpa using hu) fun h' st' sb => ?_
    have I1 : Inv X pins σ H { s with heap := h' } := I.turned (t' := s.toks) (fun b o hb e => (sb.2 b hb).trans e) f0 f1 f3 f4 f5
    obtain ⟨o, e, c, d⟩ := id st'
    exact ⟨u, rfl, go_of (s := { s with heap := h' }) e c d (by decide) ⟨x, H, I1, ru, ⟨rfl, fun ys hy => by rw [I.list_inj hy hq]; exact hx⟩, st', fun b hb => (hf b hb).1⟩⟩
  done := by
    intro X hP hw hK hc i pins s σ H E I hf st hg
    subst hP hw hK
    obtain ⟨xs, hq, hx⟩ := hg
    obtain ⟨its, rv, p, hz⟩ := I.list hq
    obtain ⟨f0, f1, f2, f3, f4, f5⟩ := hf it (by simp)
    have hl := rv.length
    exact wpAny_pyNext_list_end (I.ok.hd hc) st p.isList (by simp; omega) fun h' eb => ⟨rfl, I.turned (t' := s.toks) (fun b o hb e => eb b o hb e) f0 f1 f3 f4 f5⟩
  self := fun _ _ _ _ _ st h => wpAny_pyIter_listiter st h
theorem turn_tuple {P : Program} {w : World} {K : PySem.W.Frag} {tg : Expr} (a it : Addr) : Turn P w K tg (Itt K a) [it] it (fun i h => h.IsTupleIter it a i) where
  mem := by simp
  obj := fun i h st b hb => by
    have e : b = it := by simpa using hb
    subst e
    obtain ⟨o, e, c, d⟩ := st
    exact ⟨o, e, fun v z => by rw [d] at z; cases z⟩
  keep := fun i h h' st k => st.at fun o e => k it (by simp) o e
  item := by
    intro X hP hw hK hc i pins s σ H E I hf st hg
    subst hP hw hK
    obtain ⟨xs, x, hq, hx⟩ := hg
    obtain ⟨its, rv, p, hz⟩ := I.tuple hq
    obtain ⟨u, hu, ru⟩ := rv.get hx
    obtain ⟨f0, f1, f2, f3, f4, f5⟩ := hf it (by simp)
    refine wpAny_pyNext_tuple_item st (show s.heap.IsTuple a its.toArray from p) (x := u) (by simpa using hu) fun h' st' sb => ?_
    have I1 : Inv X pins σ H { s with heap := h' } := I.turned (t' := s.toks) (fun b o hb e => (sb.2 b hb).trans e) f0 f1 f3 f4 f5
    obtain ⟨o, e, c, d⟩ := id st'
    exact ⟨u, rfl, go_of (s := { s with heap := h' }) e c d (by decide) ⟨x, H, I1, ru, ⟨rfl, fun ys hy => by rw [I.tuple_inj hy hq]; exact hx⟩, st', fun b hb => (hf b hb).1⟩⟩
  done := by
    intro X hP hw hK hc i pins s σ H E I hf st hg
    subst hP hw hK
    obtain ⟨xs, hq, hx⟩ := hg
    obtain ⟨its, rv, p, hz⟩ := I.tuple hq
    obtain ⟨f0, f1, f2, f3, f4, f5⟩ := hf it (by simp)
    have hl := rv.length
    exact wpAny_pyNext_tuple_end (I.ok.hd hc) st (show s.heap.IsTuple a its.toArray from p) (by simp; omega) fun h' eb => ⟨rfl, I.turned (t' := s.toks) (fun b o hb e => eb b o hb e) f0 f1 f3 f4 f5⟩
  self := fun _ _ _ _ _ st h => wpAny_pyIter_tupleiter st h
theorem turn_range {P : Program} {w : World} {K : PySem.W.Frag} {tg : Expr} (it : Addr) (lo : Int) (n : Nat) : Turn P w K tg (Itr lo n) [it] it (fun i h => IsRangeIter h it (lo + (i : Nat) * 1) ((n : Int) - (i : Nat)) 1) where
  mem := by simp
  obj := fun i h st b hb => by
    have e : b = it := by simpa using hb
    subst e
    exact ⟨_, st, fun v z => by
      have z' : Data.fields _ = Data.cell v := z
      cases z'⟩
  keep := fun i h h' st k => k it (by simp) _ st
  item := by
    intro X hP hw hK hc i pins s σ H E I hf st hg
    subst hP hw hK
    obtain ⟨f0, f1, f2, f3, f4, f5⟩ := hf it (by simp)
    have W := Walks.range (prog := X.prog) (w := X.w) (I.ok.hd hc) it lo 1 n
    refine W.item i s _ _ hg st fun v h' tk hv st' kk => ?_
    obtain ⟨t, rfl⟩ := hv
    have I1 : Inv X pins σ H { s with heap := h', toks := tk } := I.turned (fun b o hb e => kk b o (by simpa using hb) e) f0 f1 f3 f4 f5
    refine ⟨_, rfl, go_of (s := { s with heap := h', toks := tk }) (n := "range_iterator") st' rfl rfl (by decide) ⟨.int (lo + i), H, I1, ⟨t, ?_⟩, ⟨rfl, rfl⟩, st', fun b hb => (hf b hb).1⟩⟩
    rw [Int.mul_one]
  done := by
    intro X hP hw hK hc i pins s σ H E I hf st hg
    subst hP hw hK
    obtain ⟨f0, f1, f2, f3, f4, f5⟩ := hf it (by simp)
    exact wpAny_pyNext_range_end (I.ok.hd hc) st (by have : n ≤ i := hg; omega) fun h' eb => ⟨rfl, I.turned (t' := s.toks) (fun b o hb e => eb b o hb e) f0 f1 f3 f4 f5⟩
  self := fun _ _ _ _ _ st h => wpAny_pyIter_rangeiter st h
end L2
namespace L2
open PySem PySem.Spec PyProof.Rows
section
variable {X : Cx} {tg : Expr}
def iList (K : PySem.W.Frag) (tl : TE) : TI := fun σ H R => tl σ H fun x H1 => ∃ a, x = .ref a ∧ (∃ xs, SqL K H1 a xs) ∧ R (Itl K a) H1
def iTup (K : PySem.W.Frag) (tl : TE) : TI := fun σ H R => tl σ H fun x H1 => ∃ a, x = .ref a ∧ (∃ xs, SqT K H1 a xs) ∧ R (Itt K a) H1
theorem pi_list {l : Expr} {tl : TE} (hl : PE X l tl) : PI X tg l (iList X.K tl) := by
  intro pins s σ H R I h
  refine thn (hl pins s σ H _ I h) fun v s1 ⟨x, H1, I1, r1, q1⟩ => ?_
  obtain ⟨a, e, ⟨xs, hq⟩, q⟩ := q1
  subst e
  cases r1
  obtain ⟨its, rv, p, hz⟩ := I1.list hq
  refine wpAny_pyIter_list p.isList ?_
  refine ⟨s1.heap.objs.size, [s1.heap.objs.size], _, _, H1, rfl, I1.kept (t' := s1.toks) fun b o e => Heap.get?_push_of_some _ e, turn_list a _, ⟨_, Heap.get?_push_size _ rfl, rfl, rfl⟩, fun b hb => ?_, q⟩
  have e : b = s1.heap.objs.size := by simpa using hb
  subst e
  exact I1.fpOk (Nat.le_refl _) (I1.hok.fresh (Nat.le_refl _))
theorem pi_tup {l : Expr} {tl : TE} (hl : PE X l tl) : PI X tg l (iTup X.K tl) := by
  intro pins s σ H R I h
  refine thn (hl pins s σ H _ I h) fun v s1 ⟨x, H1, I1, r1, q1⟩ => ?_
  obtain ⟨a, e, ⟨xs, hq⟩, q⟩ := q1
  subst e
  cases r1
  obtain ⟨its, rv, p, hz⟩ := I1.tuple hq
  refine wpAny_pyIter_tuple (show s1.heap.IsTuple a its.toArray from p) ?_
  refine ⟨s1.heap.objs.size, [s1.heap.objs.size], _, _, H1, rfl, I1.kept (t' := s1.toks) fun b o e => Heap.get?_push_of_some _ e, turn_tuple a _, ⟨_, Heap.get?_push_size _ rfl, rfl, rfl⟩, fun b hb => ?_, q⟩
  have e : b = s1.heap.objs.size := by simpa using hb
  subst e
  exact I1.fpOk (Nat.le_refl _) (I1.hok.fresh (Nat.le_refl _))
theorem range_it {pins : List (Addr × Obj)} {σ : St} {H : Hp} {s : Shared} {R : It → Hp → Prop} {E : Value → Shared → Prop} {lo hi : Int} {t u v : Tok} {tk : Nat} (I : Inv X pins σ H s) (h1 : -(2 ^ 62) ≤ lo) (h2 : lo < 2 ^ 62) (h3 : -(2 ^ 62) ≤ hi) (h4 : hi < 2 ^ 62)
    (q : R (Itr lo (hi - lo).toNat) H) : wpAny (model X.prog X.w) X.A (pyIter (.ref s.heap.objs.size)) (PIE X pins σ tg R) E { s with heap := s.heap.push { cls := .type "range", data := .fields #[.int lo t, .int hi u, .int 1 v] }, toks := tk } := by
  refine wpAny_pyIter_range (IsRange.new ..) (small_one h1 h2 h3 h4) ?_
  have I1 : Inv X pins σ H { s with heap := s.heap.push { cls := .type "range", data := .fields #[.int lo t, .int hi u, .int 1 v] }, toks := tk } := I.kept fun b o e => Heap.get?_push_of_some _ e
  refine ⟨(s.heap.push { cls := .type "range", data := .fields #[.int lo t, .int hi u, .int 1 v] }).objs.size, [(s.heap.push { cls := .type "range", data := .fields #[.int lo t, .int hi u, .int 1 v] }).objs.size], _, _, H, rfl,
    I1.kept (t' := tk) fun b o e => Heap.get?_push_of_some _ e, turn_range _ lo (hi - lo).toNat, ?_, fun b hb => ?_, q⟩
  · have e1 : lo + ((0 : Nat) : Int) * 1 = lo := by simp
    have e2 : (((hi - lo).toNat : Nat) : Int) - ((0 : Nat) : Int) = Builtin.Range.rangeSize lo hi 1 := by rw [rangeSize_one]; split <;> omega
    show IsRangeIter _ _ (lo + ((0 : Nat) : Int) * 1) ((((hi - lo).toNat : Nat) : Int) - ((0 : Nat) : Int)) 1
    rw [e1, e2]
    exact Heap.get?_push_size _ rfl
  · have e : b = (s.heap.push { cls := .type "range", data := .fields #[.int lo t, .int hi u, .int 1 v] }).objs.size := by simpa using hb
    subst e
    exact I1.fpOk (Nat.le_refl _) (I1.hok.fresh (Nat.le_refl _))
def iRng1 (ta : TA) : TI := fun σ H R => ta σ H fun vs H1 => ∃ j : Int, vs = [.int j] ∧ -(2 ^ 62) ≤ j ∧ j < 2 ^ 62 ∧ R (Itr 0 j.toNat) H1
theorem pi_range1 {a : Expr} {ta : TA} {p pos : Pos} (hg : Gl X "range") (hm : X.mg "range" = none) (ha : PA X [a] ta) (hs : starEach [a] X.env = [(false, eval a X.env)] := by rfl) : PI X tg (.Call (.Name "range" p) [a] [] pos) (iRng1 ta) := by
  intro pins s σ H R I h
  refine Call_ (ld_blt I hg hm boot_range (PyProof.Rows.callWith_type1 (thn (ha pos pins s σ H _ I h) fun us s1 ⟨vs, H1, I1, r1, q1⟩ => ?_) hs rfl))
  obtain ⟨j, e, q1, q2, q⟩ := q1
  subst e
  cases r1 with
  | cons r rr =>
    cases rr
    obtain ⟨t, rfl⟩ := r
    exact call_range_1 (range_it I1 (by omega) (by omega) q1 q2 (by simpa using q))
def tFor (wi : TI) (g : TG) (tb : TS) : TS := fun D σ H => wi σ H fun J H1 => ∃ W : Nat → Nat → St → Hp → Prop, (∃ m, W 0 m σ H1) ∧ ∀ i m σ H, W i m σ H →
  (J.stop i H ∧ D.nx σ H) ∨ (J.go i H ∧ ∃ N : St → Hp → Prop, (∀ σ' H', N σ' H' → ∃ m', m' < m ∧ W (i + 1) m' σ' H') ∧ ∀ x H', J.yld i H x H' → g x σ H' fun σ2 H2 => tb { D with nx := N, ct := N, bk := D.nx } σ2 H2)
def pinsAt (fp : List Addr) (h : Heap) : List (Addr × Obj) := fp.filterMap fun b => (h.get? b).map fun o => (b, o)
theorem mem_pinsAt {fp : List Addr} {h : Heap} {b : Addr} {o : Obj} (hb : b ∈ fp) (e : h.get? b = some o) : (b, o) ∈ pinsAt fp h := List.mem_filterMap.mpr ⟨b, hb, by rw [e]; rfl⟩
theorem of_pinsAt {fp : List Addr} {h : Heap} {p : Addr × Obj} (hp : p ∈ pinsAt fp h) : p.1 ∈ fp ∧ h.get? p.1 = some p.2 := by
  obtain ⟨b, hb, e⟩ := List.mem_filterMap.mp hp
  cases q : h.get? b with
  | none => rw [q] at e; cases e
  | some o =>
    rw [q] at e
    have e' : (b, o) = p := Option.some.inj e
    subst e'
    exact ⟨hb, q⟩
theorem Inv.pinned {pins : List (Addr × Obj)} {σ : St} {H : Hp} {s : Shared} {fp : List Addr} (I : Inv X pins σ H s) (hf : ∀ b ∈ fp, FpOk X pins H b) (ho : ∀ b ∈ fp, ∃ o, s.heap.get? b = some o ∧ ∀ v, o.data ≠ .cell v) : Inv X (pins ++ pinsAt fp s.heap) σ H s :=
  I.pins_of fun p hp => (List.mem_append.mp hp).elim (fun z => I.pin p (List.mem_append_right _ z)) fun z => by
    obtain ⟨hb, e⟩ := of_pinsAt z
    obtain ⟨f0, f1, f2, _⟩ := hf p.1 hb
    obtain ⟨o, e', d⟩ := ho p.1 hb
    rw [e] at e'; cases e'
    exact ⟨e, f0, f1, f2, d⟩
theorem Inv.unpinned {pins pl : List (Addr × Obj)} {σ : St} {H : Hp} {s : Shared} (I : Inv X (pins ++ pl) σ H s) : Inv X pins σ H s := I.pins_of fun p hp => I.pin p (List.mem_append_right _ (List.mem_append_left _ hp))
theorem ps_for {iter : Expr} {body : List Stmt} {wi : TI} {g : TG} {tb : TS} {pos : Pos} (hp : PassesOwn (model X.prog X.w) X.A X.env X.xe) (hc : X.calm = true) (hi : PI X tg iter wi) (hg : PG X tg g) (hb : PSs X body tb)
    (hs : ∀ x, foldedSetIterable iter X.env x = pure x := by intro _; rfl) : PS X (.For tg iter body [] pos) (tFor wi g tb) := by
  intro pins s σ H D I h
  refine wpAny_For (thn (hi pins s σ H _ I h) fun v s1 h1 => thn h1 fun itv s2 h2 => ?_) hs
  obtain ⟨it, fp, tn, J, H2, e, I2, T, st2, f2, W, ⟨m0, w0⟩, turn⟩ := h2
  subst e
  -- what stays true of the iterator's objects through the loop
  have stat : ∀ {H' : Hp}, (∀ b ∈ fp, H' b = none) → ∀ b ∈ fp, FpOk X pins H' b := fun hn b hb => ⟨hn b hb, (f2 b hb).2⟩
  refine codeAny_forLoop_any (fun n s' => ∃ i σ' H', Inv X pins σ' H' s' ∧ tn i s'.heap ∧ (∀ b ∈ fp, H' b = none) ∧ W i n σ' H') ?_ m0 ⟨0, σ, H2, I2, st2, fun b hb => (f2 b hb).1, w0⟩
  rintro n s3 ⟨i, σ3, H3, I3, st3, fr3, w3⟩
  rcases turn i n σ3 H3 w3 with ⟨stop, qn⟩ | ⟨go, N, hN, step⟩
  · refine wpAny_passesOwn hp (thn (T.done X rfl rfl rfl hc i pins s3 σ3 H3 X.xe I3 (stat fr3) st3 stop) fun r s4 ⟨hr, I4⟩ => ?_)
    subst hr
    exact wpAny_execs_nil ⟨σ3, H3, I4, qn⟩
  · refine wpAny_passesOwn hp (thn (T.item X rfl rfl rfl hc i pins s3 σ3 H3 X.xe I3 (stat fr3) st3 go) fun r s4 ⟨u, hr, h4⟩ => ?_)
    subst hr
    refine wpAny_passesOwn hp (thn h4 fun _ s5 ⟨x, H5, I5, r5, y5, st5, fr5⟩ => ?_)
    have I5' := I5.pinned (stat fr5) (T.obj _ _ st5)
    refine wpAny_passesOwn hp (thn (hg _ s5 σ3 H5 x u _ I5' r5 (step x H5 y5)) fun _ s6 ⟨σ6, H6, I6, q6⟩ => ?_)
    refine wpAny_passesOwn hp (thn (hb _ s6 σ6 H6 _ I6 q6) fun f s7 q7 => ?_)
    have again : ∀ {σ7 : St} {H7 : Hp}, Inv X (pins ++ pinsAt fp s5.heap) σ7 H7 s7 → N σ7 H7 → ∃ m, m < n ∧ ∃ i σ' H', Inv X pins σ' H' s7 ∧ tn i s7.heap ∧ (∀ b ∈ fp, H' b = none) ∧ W i m σ' H' := fun {σ7 H7} I7 n7 => by
      obtain ⟨m', hm, w7⟩ := hN σ7 H7 n7
      refine ⟨m', hm, i + 1, σ7, H7, I7.unpinned, T.keep _ _ _ st5 fun b hb o e => (I7.pin (b, o) (List.mem_append_right _ (List.mem_append_right _ (mem_pinsAt hb e)))).1, fun b hb => ?_, w7⟩
      obtain ⟨o, e, d⟩ := T.obj _ _ st5 b hb
      exact (I7.pin (b, o) (List.mem_append_right _ (List.mem_append_right _ (mem_pinsAt hb e)))).2.1
    cases f with
    | next => obtain ⟨σ7, H7, I7, n7⟩ := q7; exact again I7 n7
    | cont => obtain ⟨σ7, H7, I7, n7⟩ := q7; exact again I7 n7
    | brk => obtain ⟨σ7, H7, I7, q7⟩ := q7; exact ⟨σ7, H7, I7.unpinned, q7⟩
    | ret v => obtain ⟨x7, σ7, H7, I7, r7, q7⟩ := q7; exact ⟨x7, σ7, H7, I7.unpinned, r7, q7⟩
end
theorem for_list {K : PySem.W.Frag} {a : Addr} {xs : List V} {g : TG} {tb : TS} {D : Ends} {σ : St} {H : Hp} (Pv : Nat → St → Hp → Prop) (h0 : Pv 0 σ H) (hl : ∀ i σ H, i ≤ xs.length → Pv i σ H → SqL K H a xs)
    (hs : ∀ i x σ H, xs[i]? = some x → Pv i σ H → g x σ H fun σ2 H2 => tb { D with nx := Pv (i + 1), ct := Pv (i + 1), bk := D.nx } σ2 H2) (hd : ∀ σ H, Pv xs.length σ H → D.nx σ H) :
    ∃ W : Nat → Nat → St → Hp → Prop, (∃ m, W 0 m σ H) ∧ ∀ i m σ H, W i m σ H →
      ((Itl K a).stop i H ∧ D.nx σ H) ∨ ((Itl K a).go i H ∧ ∃ N : St → Hp → Prop, (∀ σ' H', N σ' H' → ∃ m', m' < m ∧ W (i + 1) m' σ' H') ∧ ∀ x H', (Itl K a).yld i H x H' → g x σ H' fun σ2 H2 => tb { D with nx := N, ct := N, bk := D.nx } σ2 H2) := by
  refine ⟨fun i m σ H => m = xs.length - i ∧ i ≤ xs.length ∧ Pv i σ H, ⟨xs.length, by simp, Nat.zero_le _, h0⟩, ?_⟩
  rintro i m σ H ⟨rfl, hi, p⟩
  have q := hl i σ H hi p
  by_cases hlt : i < xs.length
  · refine .inr ⟨⟨xs, xs[i], q, by simp [hlt]⟩, Pv (i + 1), fun σ' H' p' => ⟨xs.length - (i + 1), by omega, rfl, hlt, p'⟩, fun x H' y => ?_⟩
    obtain ⟨e, y⟩ := y
    subst e
    exact hs i x σ _ (y xs q) p
  · have e : i = xs.length := by omega
    subst e
    exact .inl ⟨⟨xs, q, Nat.le_refl _⟩, hd σ H p⟩
theorem for_range {lo : Int} {n : Nat} {g : TG} {tb : TS} {D : Ends} {σ : St} {H : Hp} (Pv : Nat → St → Hp → Prop) (h0 : Pv 0 σ H)
    (hs : ∀ i σ H, i < n → Pv i σ H → g (.int (lo + i)) σ H fun σ2 H2 => tb { D with nx := Pv (i + 1), ct := Pv (i + 1), bk := D.nx } σ2 H2) (hd : ∀ σ H, Pv n σ H → D.nx σ H) :
    ∃ W : Nat → Nat → St → Hp → Prop, (∃ m, W 0 m σ H) ∧ ∀ i m σ H, W i m σ H →
      ((Itr lo n).stop i H ∧ D.nx σ H) ∨ ((Itr lo n).go i H ∧ ∃ N : St → Hp → Prop, (∀ σ' H', N σ' H' → ∃ m', m' < m ∧ W (i + 1) m' σ' H') ∧ ∀ x H', (Itr lo n).yld i H x H' → g x σ H' fun σ2 H2 => tb { D with nx := N, ct := N, bk := D.nx } σ2 H2) := by
  refine ⟨fun i m σ H => m = n - i ∧ i ≤ n ∧ Pv i σ H, ⟨n, by simp, Nat.zero_le _, h0⟩, ?_⟩
  rintro i m σ H ⟨rfl, hi, p⟩
  by_cases hlt : i < n
  · refine .inr ⟨hlt, Pv (i + 1), fun σ' H' p' => ⟨n - (i + 1), by omega, rfl, hlt, p'⟩, fun x H' y => ?_⟩
    obtain ⟨e, y⟩ := y
    subst e y
    exact hs i σ _ hlt p
  · have e : i = n := by omega
    subst e
    exact .inl ⟨Nat.le_refl _, hd σ H p⟩
end L2
namespace L2
open PySem PySem.Spec PyProof.Rows
abbrev R2 := V → V → Hp → VK → Prop
def OpR (X : Cx) (f : Value → Value → Sem Value) (r : R2) : Prop :=
  ∀ (pins : List (Addr × Obj)) (s : Shared) (σ : St) (H : Hp) (x y : V) (v u : Value) (Q : VK), Inv X pins σ H s → RelV x v → RelV y u → r x y H Q →
    wpAny (model X.prog X.w) X.A (f v u) (EP X pins σ Q) X.xe s
def CallR (X : Cx) (f : Value) (r : List V → Hp → VK → Prop) : Prop :=
  ∀ (pins : List (Addr × Obj)) (s : Shared) (σ : St) (H : Hp) (xs : List V) (us : List Value) (Q : VK), Inv X pins σ H s → Vals xs us → r xs H Q →
    wpAny (model X.prog X.w) X.A (call f us) (EP X pins σ Q) X.xe s
def tOp (r : R2) (ta tb : TE) : TE := fun σ H Q => ta σ H fun x H1 => tb σ H1 fun y H2 => r x y H2 Q
def rI (C : Int → Int → Prop) (g : Int → Int → V) : R2 := fun x y H Q => ∃ i j, x = .int i ∧ y = .int j ∧ C i j ∧ Q (g i j) H
def rI0 (g : Int → Int → V) : R2 := fun x y H Q => ∃ i j, x = .int i ∧ y = .int j ∧ Q (g i j) H
section
variable {X : Cx} {a b c : Expr} {ta tb tc : TE} {pos : Pos}
theorem binT (ha : PE X a ta) (hb : PE X b tb) {pins : List (Addr × Obj)} {s : Shared} {σ : St} {H : Hp} {R : V → V → Hp → Prop} (I : Inv X pins σ H s)
    (h : ta σ H fun x H1 => tb σ H1 fun y H2 => R x y H2) {Q : Value → Shared → Prop} {f : Value → Value → Sem Value}
    (hf : ∀ v u s2 x y H2, Inv X pins σ H2 s2 → RelV x v → RelV y u → R x y H2 → wpAny (model X.prog X.w) X.A (f v u) Q X.xe s2) :
    wpAny (model X.prog X.w) X.A (eval a X.env) (fun v s₁ => wpAny (model X.prog X.w) X.A (eval b X.env) (fun u s₂ => wpAny (model X.prog X.w) X.A (f v u) Q X.xe s₂) X.xe s₁) X.xe s := by
  refine thn (ha pins s σ H _ I h) fun v s1 ⟨x, H1, I1, r1, q1⟩ => ?_
  refine thn (hb pins s1 σ H1 _ I1 q1) fun u s2 ⟨y, H2, I2, r2, q2⟩ => ?_
  exact hf v u s2 x y H2 I2 r1 r2 q2
theorem pe_op {op : Operator} {r : R2} (ho : OpR X (binaryOp op) r) (ha : PE X a ta) (hb : PE X b tb) : PE X (.BinOp a op b pos) (tOp r ta tb) := by
  intro pins s σ H Q I h
  exact wpAny_BinOp (binT ha hb I h fun v u s2 x y H2 I2 rx ry q => ho pins s2 σ H2 x y v u Q I2 rx ry q)
theorem opI {f : Value → Value → Sem Value} {C : Int → Int → Prop} {g : Int → Int → Int}
    (rule : ∀ (i j : Int) (t u : Tok) (s : Shared) (Q : Value → Shared → Prop) (E : Value → Shared → Prop), C i j → Q (.int (g i j) s.toks) { s with toks := s.toks + 1 } → wpAny (model X.prog X.w) X.A (f (.int i t) (.int j u)) Q E s) :
    OpR X f (rI C fun i j => .int (g i j)) := by
  intro pins s σ H x y v u Q I rx ry h
  obtain ⟨i, j, rfl, rfl, hc, q⟩ := h
  obtain ⟨t, rfl⟩ := rx
  obtain ⟨t', rfl⟩ := ry
  exact rule i j t t' s _ _ hc ⟨.int (g i j), H, I.tok _, ⟨_, rfl⟩, q⟩
theorem opI0 {f : Value → Value → Sem Value} {g : Int → Int → Int}
    (rule : ∀ (i j : Int) (t u : Tok) (s : Shared) (Q : Value → Shared → Prop) (E : Value → Shared → Prop), Q (.int (g i j) s.toks) { s with toks := s.toks + 1 } → wpAny (model X.prog X.w) X.A (f (.int i t) (.int j u)) Q E s) :
    OpR X f (rI0 fun i j => .int (g i j)) := by
  intro pins s σ H x y v u Q I rx ry h
  obtain ⟨i, j, rfl, rfl, q⟩ := h
  obtain ⟨t, rfl⟩ := rx
  obtain ⟨t', rfl⟩ := ry
  exact rule i j t t' s _ _ ⟨.int (g i j), H, I.tok _, ⟨_, rfl⟩, q⟩
theorem opB0 {f : Value → Value → Sem Value} {g : Int → Int → Bool}
    (rule : ∀ (i j : Int) (t u : Tok) (s : Shared) (Q : Value → Shared → Prop) (E : Value → Shared → Prop), Q (.bool (g i j)) s → wpAny (model X.prog X.w) X.A (f (.int i t) (.int j u)) Q E s) :
    OpR X f (rI0 fun i j => .bl (g i j)) := by
  intro pins s σ H x y v u Q I rx ry h
  obtain ⟨i, j, rfl, rfl, q⟩ := h
  obtain ⟨t, rfl⟩ := rx
  obtain ⟨t', rfl⟩ := ry
  exact rule i j t t' s _ _ ⟨.bl (g i j), H, I, rfl, q⟩
def CDiv (i j : Int) : Prop := 0 < j ∧ j < 1073741824
theorem op_add : OpR X (binaryOp .Add) (rI0 fun i j => .int (i + j)) := opI0 fun _ _ _ _ _ _ _ q => add_int q
theorem op_sub : OpR X (binaryOp .Sub) (rI0 fun i j => .int (i - j)) := opI0 fun _ _ _ _ _ _ _ q => sub_int q
theorem op_fdiv : OpR X (binaryOp .FloorDiv) (rI CDiv fun i j => .int (i / j)) := opI fun i j _ _ _ _ _ hc q => by
  have h1 : (0 : Int) < j := hc.1
  have h2 : j < 1073741824 := hc.2
  exact floordiv_int (by omega) (by rw [Int.fdiv_eq_ediv_of_nonneg i (by omega)]; exact q) (.inl (PyProof.noPylong_small (by omega)))
theorem op_mod : OpR X (binaryOp .Mod) (rI (fun _ j => 0 < j) fun i j => .int (i % j)) := opI fun i j _ _ _ _ _ hc q => by
  have h1 : (0 : Int) < j := hc
  exact mod_int' (by omega) (by rw [Int.fmod_eq_emod_of_nonneg i (by omega)]; exact q)
end
def scal : V → V → Bool
  | .non, .non => true | .non, .int _ => true | .int _, .non => true | .non, .bl _ => true | .bl _, .non => true | .non, .str _ => true | .str _, .non => true
  | .int _, .int _ => true | .bl _, .bl _ => true | .str _, .str _ => true | .byt _, .byt _ => true
  | .int _, .str _ => true | .str _, .int _ => true | .bl _, .str _ => true | .str _, .bl _ => true
  | _, _ => false
def rEq : R2 := fun x y H Q => scal x y = true ∧ Q (.bl (decide (x = y))) H
def rNe : R2 := fun x y H Q => scal x y = true ∧ Q (.bl (!decide (x = y))) H
theorem dec_int {i j : Int} : decide (V.int i = V.int j) = (i == j) := by
  rw [Bool.eq_iff_iff]
  simp
theorem dec_bl {i j : Bool} : decide (V.bl i = V.bl j) = (i == j) := by
  rw [Bool.eq_iff_iff]
  simp
theorem dec_str {i j : Str} : decide (V.str i = V.str j) = (i == j) := by
  rw [Bool.eq_iff_iff]
  simp
theorem dec_byt {i j : Array UInt8} : decide (V.byt i = V.byt j) = (i.toList == j.toList) := by
  rw [Bool.eq_iff_iff]
  cases i
  cases j
  simp
section
variable {X : Cx} {a b c : Expr} {ta tb tc : TE} {pos : Pos}
theorem fin_bl {pins : List (Addr × Obj)} {σ : St} {H : Hp} {s : Shared} {Q : VK} {k k' : Bool} (I : Inv X pins σ H s) (q : Q (.bl k) H) (e : k = k') : EP X pins σ Q (.bool k') s := by
  subst e
  exact ⟨.bl k, H, I, rfl, q⟩
theorem op_eq : OpR X (compareOp .Eq) rEq := by
  intro pins s σ H x y v u Q I rx ry h
  obtain ⟨hs, q⟩ := h
  cases x with
  | non =>
    cases rx
    cases y with
    | non => cases ry; exact PySem.EqNone.eq_none_none (fin_bl I q (by simp))
    | bl j => cases ry; exact PySem.EqNone.eq_none_bool (fin_bl I q (by simp))
    | int j => obtain ⟨t', rfl⟩ := ry; exact PySem.EqNone.eq_none_int (fin_bl I q (by simp))
    | str j => obtain ⟨t', rfl⟩ := ry; exact PySem.EqNone.eq_none_str (fin_bl I q (by simp))
    | _ => exact absurd (show false = true from hs) Bool.false_ne_true
  | bl i =>
    cases rx
    cases y with
    | non => cases ry; exact PySem.EqNone.eq_bool_none (fin_bl I q (by simp))
    | bl j => cases ry; exact eq_bool (fin_bl I q dec_bl)
    | str j => obtain ⟨t', rfl⟩ := ry; exact PySem.EqMixed.eq_bool_str (fin_bl I q (by simp))
    | _ => exact absurd (show false = true from hs) Bool.false_ne_true
  | int i =>
    obtain ⟨t, rfl⟩ := rx
    cases y with
    | non => cases ry; exact PySem.EqNone.eq_int_none (fin_bl I q (by simp))
    | int j => obtain ⟨t', rfl⟩ := ry; exact eq_int (fin_bl I q dec_int)
    | str j => obtain ⟨t', rfl⟩ := ry; exact PySem.EqMixed.eq_int_str (fin_bl I q (by simp))
    | _ => exact absurd (show false = true from hs) Bool.false_ne_true
  | str i =>
    obtain ⟨t, rfl⟩ := rx
    cases y with
    | non => cases ry; exact PySem.EqNone.eq_str_none (fin_bl I q (by simp))
    | bl j => cases ry; exact PySem.EqMixed.eq_str_bool (fin_bl I q (by simp))
    | int j => obtain ⟨t', rfl⟩ := ry; exact PySem.EqMixed.eq_str_int (fin_bl I q (by simp))
    | str j => obtain ⟨t', rfl⟩ := ry; exact eq_str (fin_bl I q dec_str)
    | _ => exact absurd (show false = true from hs) Bool.false_ne_true
  | byt i =>
    obtain ⟨t, rfl⟩ := rx
    cases y with
    | byt j => obtain ⟨t', rfl⟩ := ry; exact PySem.W.eq_bytes (fin_bl I q dec_byt)
    | _ => exact absurd (show false = true from hs) Bool.false_ne_true
  | _ => cases y <;> exact absurd (show false = true from hs) Bool.false_ne_true
theorem op_ne : OpR X (compareOp .NotEq) rNe := by
  intro pins s σ H x y v u Q I rx ry h
  obtain ⟨hs, q⟩ := h
  cases x with
  | non =>
    cases rx
    cases y with
    | non => cases ry; exact PySem.EqNone.ne_none_none (fin_bl I q (by simp))
    | bl j => cases ry; exact PySem.EqNone.ne_none_bool (fin_bl I q (by simp))
    | int j => obtain ⟨t', rfl⟩ := ry; exact PySem.EqNone.ne_none_int (fin_bl I q (by simp))
    | str j => obtain ⟨t', rfl⟩ := ry; exact PySem.EqNone.ne_none_str (fin_bl I q (by simp))
    | _ => exact absurd (show false = true from hs) Bool.false_ne_true
  | bl i =>
    cases rx
    cases y with
    | non => cases ry; exact PySem.EqNone.ne_bool_none (fin_bl I q (by simp))
    | bl j => cases ry; exact ne_bool (fin_bl I q (congrArg not dec_bl))
    | str j => obtain ⟨t', rfl⟩ := ry; exact PySem.EqMixed.ne_bool_str (fin_bl I q (by simp))
    | _ => exact absurd (show false = true from hs) Bool.false_ne_true
  | int i =>
    obtain ⟨t, rfl⟩ := rx
    cases y with
    | non => cases ry; exact PySem.EqNone.ne_int_none (fin_bl I q (by simp))
    | int j => obtain ⟨t', rfl⟩ := ry; exact ne_int (fin_bl I q (congrArg not dec_int))
    | str j => obtain ⟨t', rfl⟩ := ry; exact PySem.EqMixed.ne_int_str (fin_bl I q (by simp))
    | _ => exact absurd (show false = true from hs) Bool.false_ne_true
  | str i =>
    obtain ⟨t, rfl⟩ := rx
    cases y with
    | non => cases ry; exact PySem.EqNone.ne_str_none (fin_bl I q (by simp))
    | bl j => cases ry; exact PySem.EqMixed.ne_str_bool (fin_bl I q (by simp))
    | int j => obtain ⟨t', rfl⟩ := ry; exact PySem.EqMixed.ne_str_int (fin_bl I q (by simp))
    | str j => obtain ⟨t', rfl⟩ := ry; exact ne_str (fin_bl I q (congrArg not dec_str))
    | _ => exact absurd (show false = true from hs) Bool.false_ne_true
  | byt i =>
    obtain ⟨t, rfl⟩ := rx
    cases y with
    | byt j => obtain ⟨t', rfl⟩ := ry; exact PySem.W.ne_bytes (fin_bl I q (congrArg not dec_byt))
    | _ => exact absurd (show false = true from hs) Bool.false_ne_true
  | _ => cases y <;> exact absurd (show false = true from hs) Bool.false_ne_true
theorem op_lt : OpR X (compareOp .Lt) (rI0 fun i j => .bl (decide (i < j))) := opB0 fun _ _ _ _ _ _ _ q => lt_int q
theorem op_gt : OpR X (compareOp .Gt) (rI0 fun i j => .bl (decide (j < i))) := opB0 fun _ _ _ _ _ _ _ q => gt_int q
theorem op_isN : OpR X (compareOp .Is) (fun x y H Q => y = .non ∧ Q (.bl (decide (x = .non))) H) := by
  intro pins s σ H x y v u Q I rx ry h
  obtain ⟨rfl, q⟩ := h
  cases ry
  refine is_none_gen (fin_bl I q ?_)
  cases x <;> first
    | (cases rx; rfl)
    | (obtain ⟨t, rfl⟩ := rx; rfl)
theorem op_notN : OpR X (compareOp .IsNot) (fun x y H Q => y = .non ∧ Q (.bl (!decide (x = .non))) H) := by
  intro pins s σ H x y v u Q I rx ry h
  obtain ⟨rfl, q⟩ := h
  cases ry
  refine isnot_none_gen (fin_bl I q ?_)
  cases x <;> first
    | (cases rx; rfl)
    | (obtain ⟨t, rfl⟩ := rx; rfl)
theorem nomark (b : Expr) {op : CmpOp} (h : op ≠ .In := by decide) (h2 : op ≠ .NotIn := by decide) : behindInMarks op b = false := by
  have e1 : (op == CmpOp.In) = false := by cases op <;> first | rfl | exact absurd rfl h
  have e2 : (op == CmpOp.NotIn) = false := by cases op <;> first | rfl | exact absurd rfl h2
  cases b <;> simp [behindInMarks, e1, e2]
theorem pe_cmpR {op : CmpOp} {r : R2} (ho : OpR X (compareOp op) r) (ha : PE X a ta) (hb : PE X b tb) (hm : behindInMarks op b = false) : PE X (.Compare a [op] [b] pos) (tOp r ta tb) := by
  intro pins s σ H Q I h
  exact wpAny_Compare1 (binT ha hb I h fun v u s2 x y H2 I2 rx ry q => ho pins s2 σ H2 x y v u Q I2 rx ry q) hm
def tTest (t : TE) : TT := fun σ H Q => t σ H fun x H' => ∃ k, x = .bl k ∧ Q k H'
theorem pt_cmpR {op : CmpOp} {r : R2} (ho : OpR X (compareOp op) r) (ha : PE X a ta) (hb : PE X b tb) (hm : behindInMarks op b = false) : PT X (.Compare a [op] [b] pos) (tTest (tOp r ta tb)) := by
  intro pins s σ H Q I h
  refine wpAny_isTrue_Compare1 (thn (ha pins s σ H _ I h) fun v s1 ⟨x, H1, I1, r1, q1⟩ => thn (hb pins s1 σ H1 _ I1 q1) fun u s2 ⟨y, H2, I2, r2, q2⟩ =>
    thn (ho pins s2 σ H2 x y v u _ I2 r1 r2 q2) fun c s3 ⟨z, H3, I3, r3, k, e, q3⟩ => ?_) hm
  subst e
  cases r3
  exact wpAny_truthy_bool ⟨H3, I3, q3⟩
theorem line63 : (sizeLine : Nat) < 2 ^ 63 := by rw [sizeLine_eq]; decide
theorem op_add_str : OpR X (binaryOp .Add) (fun x y H Q => ∃ i j, x = .str i ∧ y = .str j ∧ i.length + j.length ≤ sizeLine ∧ Q (.str (i ++ j)) H) := by
  intro pins s σ H x y v u Q I rx ry h
  obtain ⟨i, j, rfl, rfl, hz, q⟩ := h
  obtain ⟨t, rfl⟩ := rx
  obtain ⟨t', rfl⟩ := ry
  exact add_str (fun t' tk => ⟨.str (i ++ j), H, I.tok _, ⟨_, rfl⟩, q⟩) hz
theorem vals1 {x : V} {us : List Value} (r : Vals [x] us) : ∃ u, us = [u] ∧ RelV x u := by
  cases r with
  | cons r1 r2 => cases r2; exact ⟨_, rfl, r1⟩
theorem call_str_int : CallR X (.type "str") (fun xs H Q => ∃ i, xs = [.int i] ∧ i.natAbs.log2 < 1920 ∧ Q (.str (toString i)) H) := by
  intro pins s σ H xs us Q I r h
  obtain ⟨i, rfl, hz, q⟩ := h
  obtain ⟨u, rfl, t, rfl⟩ := vals1 r
  exact PySem.P.str_of_int hz ⟨.str _, H, I.tok _, ⟨_, rfl⟩, q⟩
end
end L2
namespace L2
open PySem PySem.Spec PyProof.Rows
structure ObjM (h : Heap) (x dx C : Addr) (mA : Str → Option Value) : Prop where
  obj : h.get? x = some (PySem.W.instObj C dx)
  ns : h.Ns1 dx mA
  ne : dx ≠ x
section
variable {prog : Program} {w : World} {A : Around} {E : Value → Shared → Prop} {s : Shared} {K : PySem.W.Frag} {x dx C f : Addr} {mA : Str → Option Value} {name : Str} {v : Value}
end
section
variable {P : Program} {w : World} {H H' : Hp} {h h' : Heap} {a C dx : Addr} {fs fs' : List (Str × V)}
end
structure Cls (K : PySem.W.Frag) (C : Addr) : Prop where
  pg : PySem.W.plainGet K C Str.empty = true
  hd : PySem.W.hasDictIn K C = true
  po : PySem.W.plainOver K C = true
  sa : PySem.W.findIn K (.ref C) "__setattr__" = some (some (.builtin "object.__setattr__"))
structure Con (K : PySem.W.Frag) (C : Addr) (f : Str) (v : V) (u : Value) : Prop where
  at_ : PySem.W.findIn K (.ref C) f = some (some u)
  rel : RelV v u
  get : PySem.W.specialIn K u "__get__" = some none
  cp : PySem.W.copiedNames.contains f = false
structure Meth (K : PySem.W.Frag) (C : Addr) (m : Str) (f : Addr) : Prop where
  at_ : PySem.W.findIn K (.ref C) m = some (some (.ref f))
  fn : PySem.W.isFn K (.ref f) = true
  kp : PySem.W.keepIn K (.ref f) = true
section
variable {X : Cx} {pins : List (Addr × Obj)} {σ : St} {H : Hp} {s : Shared} {a C dx : Addr} {fs : List (Str × V)} {f : Str} {v : V} {A : Around} {E : Value → Shared → Prop}
end
section
variable {X : Cx} {o e value : Expr} {f : Str} {pos pos' tpos : Pos} {ta tv : TE}
end
section
variable {X : Cx} {pins : List (Addr × Obj)} {σ : St} {H : Hp} {s : Shared} {A : Around} {E : Value → Shared → Prop} {Q : Value → Shared → Prop} {c : Value} {b : Bool}
inductive TyOf (K : PySem.W.Frag) (H : Hp) : V → Value → Prop where
  | non : TyOf K H .non (.type "NoneType")
  | bl (x : Bool) : TyOf K H (.bl x) (.type "bool")
  | int (i : Int) : TyOf K H (.int i) (.type "int")
  | str (x : Str) : TyOf K H (.str x) (.type "str")
  | flt (x : UInt64) : TyOf K H (.flt x) (.type "float")
  | lst {a : Addr} {xs : List V} (e : H a = some (.lst xs)) : TyOf K H (.ref a) (.type "list")
  | frz {a : Addr} {o : Obj} {xs : List V} (e : H a = some (.frz o (.lst xs))) : TyOf K H (.ref a) (.type "list")
  | tup {a : Addr} {xs : List V} (e : H a = some (.tup xs)) : TyOf K H (.ref a) (.type "tuple")
  | dK {a : Addr} {kvs : List (Key × V)} (e : H a = some (.dK kvs)) : TyOf K H (.ref a) (.type "dict")
  | dT {a : Addr} {kvs : List (List Key × V)} (e : H a = some (.dT kvs)) : TyOf K H (.ref a) (.type "dict")
  | ins {a C dx : Addr} {fs : List (Str × V)} (e : H a = some (.ins C dx fs)) (cl : Cls K C) (ha : PySem.W.findIn K (.ref C) "__class__" = some (some (.builtin "object.__class__")))
      (hn : PySem.W.specialIn K (.builtin "object.__class__") "__get__" = some (some (.builtin "getset_descriptor.__get__"))) (htk : PySem.W.takesIn K (.builtin "object.__class__") = some true)
      (hm : PySem.W.mroIn K C (.type "object") = some true) : TyOf K H (.ref a) (.ref C)
end
end L2
namespace L2
open PySem PySem.Spec PyProof.Rows
structure Room (k : Nat) (A : Around) : Prop where
  hd : A.handled = none
  dp : A.depth + 3 * k + 5 < recursionLimit
  un : A.units + 16 * k + 200 < cLine
theorem Room.mono {j k : Nat} {A : Around} (r : Room k A) (h : j ≤ k) : Room j A := ⟨r.hd, by have := r.dp; omega, by have := r.un; omega⟩
theorem Room.deeper {k : Nat} {A : Around} (r : Room (k + 1) A) (env : Env) : Room k (A.deeper env) :=
  ⟨r.hd, by have := r.dp; show A.depth + 1 + 3 * k + 5 < _; omega, by have := r.un; show A.units + 3 + 16 * k + 200 < _; omega⟩
theorem Room.depth {k : Nat} {A : Around} (r : Room k A) : A.depth < recursionLimit := by have := r.dp; omega
theorem Room.units {k : Nat} {A : Around} (r : Room k A) : A.units + 64 < cLine := by have := r.un; omega
def tNil : TA := fun _ H Q => Q [] H
def tCons (ta : TE) (tr : TA) : TA := fun σ H Q => ta σ H fun x H1 => tr σ H1 fun xs H2 => Q (x :: xs) H2
section
variable {X : Cx} {e : Expr} {es : List Expr} {te : TE} {t : TA} {pos : Pos}
theorem pa_nil : PA X [] tNil := fun _ _ _ _ H Q I h => Calls.spliced_nil ⟨[], H, I, .nil, h⟩
theorem pa_cons (ha : PE X e te) (hr : PA X es t) (hs : starEach (e :: es) X.env = (false, eval e X.env) :: starEach es X.env := by rfl) : PA X (e :: es) (tCons te t) := by
  intro pos pins s σ H Q I h
  rw [hs]
  show wpAny _ _ (spliced ((false, eval e X.env) :: backTo pos (starEach es X.env))) _ _ s
  refine Calls.spliced_cons (thn (ha pins s σ H _ I h) fun u s1 ⟨x, H1, I1, r1, q1⟩ => ?_)
  exact thn (hr pos pins s1 σ H1 _ I1 q1) fun us s2 ⟨xs, H2, I2, r2, q2⟩ => ⟨x :: xs, H2, I2, .cons r1 r2, q2⟩
def tTup (t : TA) : TE := fun σ H Q => t σ H fun xs H1 => xs.length ≤ sizeLine ∧ ∀ p, H1 p = none → Q (.ref p) (upd H1 p (.tup xs))
def tLst (t : TA) : TE := fun σ H Q => t σ H fun xs H1 => xs.length ≤ sizeLine ∧ ∀ p, H1 p = none → Q (.ref p) (upd H1 p (.lst xs))
theorem pe_tup {x1} (h : PA X es t) : PE X (.Tuple es x1 pos) (tTup t) := by
  intro pins s σ H Q I hq
  refine wpAny_Tuple_spliced (thn (h pos pins s σ H _ I hq) fun us s1 ⟨xs, H1, I1, r, z, q⟩ => ⟨by rw [← r.length]; exact z, ?_⟩)
  have hf : H1 s1.heap.objs.size = none := I1.hok.fresh (Nat.le_refl _)
  refine ⟨.ref s1.heap.objs.size, upd H1 s1.heap.objs.size (.tup xs), I1.laid (t' := s1.toks) (fun b u e => Heap.get?_push_of_some _ e) (Nat.le_refl _) ?_, rfl, q _ hf⟩
  exact ⟨z, us, r, ⟨_, Heap.get?_push_size _ rfl, rfl, rfl, _, rfl⟩⟩
theorem pe_lst (h : PA X es t) : PE X (.List es pos) (tLst t) := by
  intro pins s σ H Q I hq
  refine wpAny_List_spliced (thn (h pos pins s σ H _ I hq) fun us s1 ⟨xs, H1, I1, r, z, q⟩ => ⟨by rw [← r.length]; exact z, ?_⟩)
  have hf : H1 s1.heap.objs.size = none := I1.hok.fresh (Nat.le_refl _)
  refine ⟨.ref s1.heap.objs.size, upd H1 s1.heap.objs.size (.lst xs), I1.laid (t' := s1.toks) (fun b u e => Heap.get?_push_of_some _ e) (Nat.le_refl _) ?_, rfl, q _ hf⟩
  exact ⟨z, us, 0, r, Heap.get?_push_size _ rfl⟩
end
abbrev Sp := List V → Hp → VK → XK → Prop
abbrev CXT := List Env → Hp → Shared → XK → Value → Shared → Prop
structure Env0 (P : Program) (w : World) (K : PySem.W.Frag) (mg : Str → Option Value) (base : Heap) (A : Around) (outer : List Env) (s : Shared) (H : Hp) : Prop where
  frames : A.frames = some outer
  mod : Mod K mg base
  bs : ∀ b o, base.get? b = some o → s.heap.get? b = some o ∧ H b = none
  bsz : base.objs.size ≤ s.heap.objs.size
  funs : s.heap.FunFrames base outer
  frf : ∀ b ∈ frs outer, H b = none
  hok : HOk P w H s.heap
  bare : AllBare s.gens
def CE (outer : List Env) (P : Program) (w : World) (H : Hp) (s : Shared) (Q : VK) (u : Value) (s' : Shared) : Prop :=
  ∃ v H', s'.os = s.os ∧ AllBare s'.gens ∧ Un (frs outer) [] H H' s.heap s'.heap ∧ HOk P w H' s'.heap ∧ RelV v u ∧ Q v H'
def CR (CX : CXT) (outer : List Env) (P : Program) (w : World) (H : Hp) (s : Shared) (Q : VK) (E : XK) (r : Result) (s' : Shared) : Prop :=
  match r with
  | .ok (.ret u) => CE outer P w H s Q u s'
  | .ok _ => False
  | .error e => CX outer H s E e s'
structure FnOk (P : Program) (w : World) (K : PySem.W.Frag) (mg : Str → Option Value) (base : Heap) (CX : CXT) (k : Nat) (f : Addr) (fd : FuncData) (ps : List Str) (sp : Sp) : Prop where
  len : ∀ vs H Q E, sp vs H Q E → vs.length = ps.length
  run : ∀ (A : Around) (outer : List Env) (s : Shared) (H : Hp) (args : Args) (us : List Value) (vs : List V) (Q : VK) (E : XK), Room k A → Env0 P w K mg base A outer s H → BindsTo s fd args (ps.zip us) → Vals vs us → sp vs H Q E →
    codeAny (model P w) A (.call (.ref f) args) (CR CX outer P w H s Q E) s
section
variable {X : Cx} {pins : List (Addr × Obj)} {σ : St} {H : Hp} {s s' : Shared}
theorem Inv.env0 (I : Inv X pins σ H s) : Env0 X.prog X.w X.K X.mg X.base X.A X.stack s H :=
  ⟨I.ok.frames, I.ok.mod, I.bs, Nat.le_trans I.ok.bsz I.sz, I.stack, I.stkFree, I.hok, I.bare⟩
theorem Inv.after {Q : VK} {u : Value} (I : Inv X pins σ H s) (h : CE X.stack X.prog X.w H s Q u s') : EP X pins σ Q u s' := by
  obtain ⟨v, H', os, bare, un, hok, r, q⟩ := h
  obtain ⟨hh, g, d, t, os'⟩ := s'
  obtain rfl : os' = s.os := os
  exact ⟨v, H', I.call (h' := hh) (g' := g) (d' := d) (t' := t) (ch := []) un hok bare (fun b z => absurd z (by simp)), r, q⟩
end
def tCall (sp : Sp) (dvs : List V) (E : XK) (t : TA) : TE := fun σ H Q => t σ H fun vs H1 => sp (vs ++ dvs) H1 Q E
def Binds (K : PySem.W.Frag) (fd : FuncData) (ps : List Str) (ds : List Value) : Prop :=
  ∀ (s : Shared) (us : List Value), K.In s.heap → (us ++ ds).length = ps.length → BindsTo s fd ⟨us, []⟩ (ps.zip (us ++ ds))
theorem Binds.all {K : PySem.W.Frag} {fd : FuncData} {ps : List Str} (h : ∀ us : List Value, us.length = ps.length → bindArgs fd ⟨us, []⟩ = pure (ps.zip us)) : Binds K fd ps [] := fun s us _ hl => by
  rw [List.append_nil] at hl ⊢
  exact .of_eq (h us hl)
def Passes (CX : CXT) (X : Cx) (E : XK) : Prop := ∀ (pins : List (Addr × Obj)) (σ : St) (H : Hp) (s : Shared) (e : Value) (s' : Shared), Inv X pins σ H s → CX X.stack H s E e s' → X.xe e s'
section
variable {X : Cx} {CX : CXT} {k : Nat} {f C : Addr} {fd : FuncData} {ps : List Str} {sp : Sp} {dvs : List V} {ds : List Value} {E : XK} {x m : Str} {p pos apos : Pos} {e o : Expr} {es : List Expr} {ta : TE} {t : TA}
theorem run_fn {pins : List (Addr × Obj)} {σ : St} {H : Hp} {s : Shared} {Q : VK} {us : List Value} {vs : List V} (F : FnOk X.prog X.w X.K X.mg X.base CX k f fd ps sp) (hr : Room k X.A) (hb : Binds X.K fd ps ds) (hd : Vals dvs ds) (hx : Passes CX X E)
    (I : Inv X pins σ H s) (r : Vals vs us) (h : sp (vs ++ dvs) H Q E) : wpAny (model X.prog X.w) X.A (call (.ref f) us) (EP X pins σ Q) X.xe s := by
  have r2 : Vals (vs ++ dvs) (us ++ ds) := r.append hd
  have hl : (us ++ ds).length = ps.length := by rw [← r2.length]; exact F.len _ _ _ _ h
  refine wpAny_call (codeAny_mono (F.run X.A X.stack s H ⟨us, []⟩ (us ++ ds) (vs ++ dvs) Q E hr I.env0 (hb s us I.kIn hl) r2 h) fun r s' hq => ?_)
  cases r with
  | error e => exact hx pins σ H s e s' I hq
  | ok fl =>
    cases fl with
    | ret u => exact I.after hq
    | next => exact False.elim hq
    | brk => exact False.elim hq
    | cont => exact False.elim hq
theorem pe_call (F : FnOk X.prog X.w X.K X.mg X.base CX k f fd ps sp) (hr : Room k X.A) (hg : Gl X x) (hm : X.mg x = some (.ref f)) (hk : PySem.W.keepIn X.K (.ref f) = true) (hb : Binds X.K fd ps ds) (hd : Vals dvs ds) (hx : Passes CX X E)
    (ha : PA X (e :: es) t) (hdb : (x == ("__debug__" : Str)) = false := by decide) (he : starEach (e :: es) X.env = (false, eval e X.env) :: starEach es X.env := by rfl) (hpl : (backTo pos (starEach es X.env)).any (·.1) = false := by rfl) :
    PE X (.Call (.Name x p) (e :: es) [] pos) (tCall sp dvs E t) := by
  intro pins s σ H Q I h
  refine wpAny_Call_Name_kw (ld_glob I hg hm ?_ hdb)
  refine PySem.W.callWith_K (h₀ := X.base) I.ok.mod.kin hk (thn (ha pos pins s σ H _ I h) fun us s1 ⟨vs, H1, I1, r, q⟩ => ⟨I1.kIn, ?_⟩) he hpl
  exact run_fn F hr hb hd hx I1 r q
structure Mk (K : PySem.W.Frag) (C f : Addr) : Prop where
  makes : PySem.W.makesIn K C = true
  init : PySem.W.findIn K (.ref C) "__init__" = some (some (.ref f))
  fn : PySem.W.isFn K (.ref f) = true
  kp : PySem.W.keepIn K (.ref C) = true
end
section
variable {X : Cx} {CX : CXT} {k : Nat} {f C : Addr} {fd : FuncData} {ps ks : List Str} {sp : Sp} {E : XK} {x m : Str} {p pos apos kpos : Pos} {e o : Expr} {es : List Expr} {kws : List Keyword} {te ta : TE} {t tk : TA} {nm : Option Str}
structure KBinds (K : PySem.W.Frag) (fd : FuncData) (ps ks : List Str) (g : List Value → List Value → List Value) (gV : List V → List V → List V) : Prop where
  to : ∀ (s : Shared) (us ws : List Value), K.In s.heap → (g us ws).length = ps.length → BindsTo s fd ⟨us, ks.zip ws⟩ (ps.zip (g us ws))
  rel : ∀ {vs : List V} {us : List Value} {zs : List V} {ws : List Value}, Vals vs us → Vals zs ws → Vals (gV vs zs) (g us ws)
variable {g : List Value → List Value → List Value} {gV : List V → List V → List V}
end
structure FnScope (N P : List Str) (sc : Scope) : Prop where
  kind : sc.kind = .function
  co : sc.isCoroutine = false
  gen : sc.isGenerator = false
  nd : N.Nodup
  pre : N.take P.length = P
  par : ∀ x ∈ P, sc.names.lookup x = some .local ∨ sc.names.lookup x = some .cell
  nofree : ∀ y ∈ sc.names, y.2 ≠ .free
theorem bindL_out {kindOf : Str → Option NameKind} {x : Str} : ∀ {binds : List (Str × Value)} {m : Str → Option Value}, (∀ v, (x, v) ∉ binds) → bindL kindOf binds m x = m x
  | [], _, _ => rfl
  | (n, v) :: r, m, h => by
    unfold bindL
    rw [bindL_out fun w hw => h w (List.mem_cons_of_mem _ hw)]
    split
    · have : x ≠ n := by rintro rfl; exact h v List.mem_cons_self
      simp [this]
    · rfl
theorem bindC_out {kindOf : Str → Option NameKind} {x : Str} : ∀ {binds : List (Str × Value)} {m : Str → Option Value}, (∀ v, (x, v) ∉ binds) → bindC kindOf binds m x = m x
  | [], _, _ => rfl
  | (n, v) :: r, m, h => by
    unfold bindC
    rw [bindC_out fun w hw => h w (List.mem_cons_of_mem _ hw)]
    split
    · rfl
    · have : x ≠ n := by rintro rfl; exact h v List.mem_cons_self
      simp [this]
theorem bindL_get {kindOf : Str → Option NameKind} {x : Str} {v : Value} : ∀ {P : List Str} {vs : List Value} {i : Nat} {m : Str → Option Value}, P.Nodup → P[i]? = some x → vs[i]? = some v → kindOf x = some .local →
    bindL kindOf (P.zip vs) m x = some v
  | [], _, _, _, _, h, _, _ => by simp at h
  | _ :: _, [], _, _, _, _, h, _ => by simp at h
  | p :: P, w :: vs, 0, m, nd, h1, h2, hk => by
    simp at h1 h2; subst h1; subst h2
    show bindL kindOf ((p, w) :: P.zip vs) m p = _
    unfold bindL
    rw [bindL_out fun v hv => (List.nodup_cons.mp nd).1 (List.of_mem_zip hv).1, if_pos hk]
    simp
  | p :: P, w :: vs, i + 1, m, nd, h1, h2, hk => by
    show bindL kindOf ((p, w) :: P.zip vs) m x = _
    unfold bindL
    exact bindL_get (i := i) (List.nodup_cons.mp nd).2 (by simpa using h1) (by simpa using h2) hk
theorem bindC_get {kindOf : Str → Option NameKind} {x : Str} {v : Value} : ∀ {P : List Str} {vs : List Value} {i : Nat} {m : Str → Option Value}, P.Nodup → P[i]? = some x → vs[i]? = some v → kindOf x ≠ some .local →
    bindC kindOf (P.zip vs) m x = some v
  | [], _, _, _, _, h, _, _ => by simp at h
  | _ :: _, [], _, _, _, _, h, _ => by simp at h
  | p :: P, w :: vs, 0, m, nd, h1, h2, hk => by
    simp at h1 h2; subst h1; subst h2
    show bindC kindOf ((p, w) :: P.zip vs) m p = _
    unfold bindC
    rw [bindC_out fun v hv => (List.nodup_cons.mp nd).1 (List.of_mem_zip hv).1, if_neg hk]
    simp
  | p :: P, w :: vs, i + 1, m, nd, h1, h2, hk => by
    show bindC kindOf ((p, w) :: P.zip vs) m x = _
    unfold bindC
    exact bindC_get (i := i) (List.nodup_cons.mp nd).2 (by simpa using h1) (by simpa using h2) hk
def start (N : List Str) (vs : List V) : St := vs.map some ++ List.replicate (N.length - vs.length) none
def cxOf (CX : CXT) (P : Program) (w : World) (K : PySem.W.Frag) (mg : Str → Option Value) (base : Heap) (N : List Str) (qual : Str) (scope : Scope) (f : Addr) (cd : Value) (A : Around) (outer : List Env) (s : Shared) (H : Hp) (E : XK) : Cx where
  prog := P
  w := w
  K := K
  mg := mg
  base := base
  A := A.deeper (envOfC qual scope s.heap.objs.size f cd)
  N := N
  s₀ := s
  H₀ := H
  env := envOfC qual scope s.heap.objs.size f cd
  outer := outer
  stack := envOfC qual scope s.heap.objs.size f cd :: outer
  ex := []
  calm := true
  fn := fun _ => true
  pn := []
  xe := fun e s' => wpAny (model P w) (A.deeper (envOfC qual scope s.heap.objs.size f cd)) (leaving (envOfC qual scope s.heap.objs.size f cd) e) (fun _ s'' => CX outer H s E e s'') (fun e' s'' => CX outer H s E e' s'') s'
theorem cell_has {sc : Scope} {n : Nat} {x : Str} (h : sc.names.lookup x = some .cell) : ∃ c, (cellsFrom n sc.names []).lookup x = some c := by
  have q := PySem.W.cellsFrom_some sc.names n [] (.inl h)
  exact Option.isSome_iff_exists.mp q
theorem inv_start {CX : CXT} {P : Program} {w : World} {K : PySem.W.Frag} {mg : Str → Option Value} {base : Heap} {N ps : List Str} {qual : Str} {scope : Scope} {f : Addr} {cd : Value} {A : Around} {outer : List Env} {s s1 : Shared} {H : Hp} {E : XK} {us : List Value} {vs : List V}
    (S : FnScope N ps scope) (hd : A.handled = none) (e0 : Env0 P w K mg base A outer s H) (hl : vs.length = ps.length) (r : Vals vs us)
    (x : InCallC s s.heap.objs.size (bindL (envOfC qual scope s.heap.objs.size f cd).kindOf (ps.zip us) fun _ => none) (cellsFrom (s.heap.objs.size + 1) scope.names []) (bindC (envOfC qual scope s.heap.objs.size f cd).kindOf (ps.zip us) fun _ => none) s1) :
    Inv (cxOf CX P w K mg base N qual scope f cd A outer s H E) [] (start N vs) H s1 := by
  have hpl : ps.length ≤ N.length := by have := congrArg List.length S.pre; rw [List.length_take] at this; omega
  obtain ⟨h1, tk, rfl, hk⟩ := x.done
  have noA : ∀ b : Addr, b ∉ (cxOf CX P w K mg base N qual scope f cd A outer s H E).ex := fun b z => absurd (show b ∈ ([] : List Addr) from z) (by simp)
  refine ⟨⟨e0.mod, S.kind, rfl, rfl, Nat.le_refl _, fun y z c h1 h2 => ?_, fun y hy => ?_, fun y c _ h => ?_, fun _ => hd, Around.frames_deeper e0.frames, .inr ⟨rfl, rfl⟩, fun b z => absurd z (noA b), e0.bs, e0.bsz, fun b _ _ => noA b, fun b z => absurd z (noA b), e0.funs, e0.frf⟩,
    rfl, e0.bare, Un.kept hk, ⟨_, x.toInCall.ns, fun i y v h1 h2 h3 => ?_⟩, fun y c h => ⟨_, x.cell y c h⟩, e0.hok.fresh (Nat.le_refl _), fun y c h => ?_, fun p hp => absurd (show p ∈ ([] : List (Addr × Obj)) from hp) (by simp), e0.hok.kept hk, ?_⟩
  · exact name_of_addr x.apart (PySem.mem_of_lookup h1) (PySem.mem_of_lookup h2)
  · have hy : scope.names.lookup y = some .cell ∨ scope.names.lookup y = some .free := hy
    rcases hy with hy | hy
    · exact cell_has hy
    · exact absurd rfl (S.nofree _ (PySem.mem_of_lookup hy))
  · exact Nat.le_of_lt (x.above y c (PySem.mem_of_lookup h))
  · have hi : i < vs.length := by
      unfold start at h2
      by_cases hi : i < vs.length
      · exact hi
      · rw [List.getElem?_append_right (by simpa using hi)] at h2
        rw [List.getElem?_replicate] at h2
        split at h2 <;> cases h2
    have ha : vs[i]? = some v := by
      unfold start at h2
      rw [List.getElem?_append_left (by simpa using hi), List.getElem?_map] at h2
      cases e : vs[i]? with
      | none => rw [e] at h2; cases h2
      | some a => rw [e] at h2; cases h2; rfl
    obtain ⟨u, hu, rv⟩ := r.get ha
    have hp : ps[i]? = some y := by
      rw [← S.pre, List.getElem?_take_of_lt (by omega)]; exact h1
    have ndP : ps.Nodup := by rw [← S.pre]; exact S.nd.sublist (List.take_sublist _ _)
    refine ⟨u, rv, ?_⟩
    rcases S.par y (List.mem_of_getElem? hp) with k | k
    · exact .inl ⟨k, bindL_get ndP hp hu k⟩
    · obtain ⟨c, e⟩ := cell_has (n := s.heap.objs.size + 1) k
      refine .inr ⟨.inl k, c, e, ?_⟩
      have q := x.cell y c e
      rw [bindC_get ndP hp hu (by show scope.names.lookup y ≠ _; rw [k]; decide)] at q
      exact q
  · exact e0.hok.fresh (Nat.le_of_lt (x.above y c (PySem.mem_of_lookup h)))
  · unfold start
    show _ = N.length
    rw [List.length_append, List.length_map, List.length_replicate]
    omega
theorem fn_of {CX : CXT} {P : Program} {w : World} {K : PySem.W.Frag} {mg : Str → Option Value} {base : Heap} {k : Nat} {f : Addr} {name qual : Str} {params : Arguments} {body : List Stmt} {scope : Scope} {dV kV doc pm cdv ct oc : Value} {an od : Option Addr}
    {osl : Array (Option Value)} {N ps : List Str} {sp : Sp} (lk : K.lookup f = some ⟨oc, od, .func (PySem.W.fnOf name qual params body scope dV kV doc pm an cdv ct), osl⟩) (hcd : PySem.W.codeIn K cdv qual = true) (S : FnScope N ps scope)
    (len : ∀ vs H Q E, sp vs H Q E → vs.length = ps.length)
    (hbody : ∀ (A : Around) (outer : List Env) (s : Shared) (H : Hp) (vs : List V) (Q : VK) (E : XK), Room k (A.deeper (envOfC qual scope s.heap.objs.size f cdv)) → sp vs H Q E →
      ∃ t, PSs (cxOf CX P w K mg base N qual scope f cdv A outer s H E) body t ∧ t { nx := fun _ H' => Q .non H', rt := Q } (start N vs) H) :
    FnOk P w K mg base CX (k + 1) f (PySem.W.fnOf name qual params body scope dV kV doc pm an cdv ct) ps sp := by
  refine ⟨len, fun A outer s H args us vs Q E hr e0 hb r hsp => ?_⟩
  have hl := len _ _ _ _ hsp
  have KX : K.In s.heap := e0.mod.kin.keeps fun b o e => (e0.bs b o e).1
  have lim : s.heap.NoLimit := e0.mod.nolimit.keeps fun b o e => (e0.bs b o e).1
  have hkind : ∀ y ∈ ps.zip us, scope.names.lookup y.1 = some .local ∨ (scope.names.lookup y.1 = some .cell ∧ ((cellsFrom (s.heap.objs.size + 1) scope.names []).lookup y.1).isSome = true) := fun ⟨n, v⟩ hy => by
    rcases S.par n (List.of_mem_zip hy).1 with q | q
    · exact .inl q
    · exact .inr ⟨q, PySem.W.cellsFrom_some _ _ _ (.inl q)⟩
  refine codeAny_call_function hr.depth (KX _ _ lk) rfl S.co S.gen rfl (PySem.W.codeRec_of KX hcd) (hb _ _ _ _ ?_)
  refine wpAny_newFunctionEnv_cells S.kind hkind fun env he s1 x => ?_
  subst he
  refine ⟨lim.keeps x.toInCall.keep, codeAny_func ?_⟩
  obtain ⟨t, ht, hq⟩ := hbody A outer s H vs Q E (hr.deeper _) hsp
  have I : Inv (cxOf CX P w K mg base N qual scope f cdv A outer s H E) [] (start N vs) H s1 := inv_start S hr.hd e0 hl r x
  refine wpAny_mono (ht [] s1 (start N vs) H _ I hq) (fun fl s' hs => ?_) fun e s' hs => hs
  have fin : ∀ {σ' : St} {H' : Hp} {v : V} {u : Value}, Inv (cxOf CX P w K mg base N qual scope f cdv A outer s H E) [] σ' H' s' → RelV v u → Q v H' → CE outer P w H s Q u s' :=
    fun {σ' H' v u} J rv q => ⟨v, H', J.os, J.bare, J.base, J.hok, rv, q⟩
  cases fl with
  | ret u =>
    obtain ⟨v, σ', H', J, rv, q⟩ := hs
    exact fin J rv q
  | next =>
    obtain ⟨σ', H', J, q⟩ := hs
    exact fin (v := V.non) (u := Value.none) J rfl q
  | brk =>
    obtain ⟨_, _, _, q⟩ := hs
    exact False.elim q
  | cont =>
    obtain ⟨_, _, _, q⟩ := hs
    exact False.elim q
end L2
namespace L2
open PySem PySem.Spec PyProof.Rows
section
variable {X : Cx} {x : Str} {p pos : Pos} {e : Expr} {es : List Expr} {t : TA} {id T : String} {r : List V → Hp → VK → Prop}
def tCB (r : List V → Hp → VK → Prop) (t : TA) : TE := fun σ H Q => t σ H fun vs H1 => r vs H1 Q
theorem pe_callB (hc : CallR X (.builtin id) r) (hg : Gl X x) (hm : X.mg x = none) (hv : bootBuiltins x = some (.builtin id)) (ha : PA X (e :: es) t) (hn : x ≠ "__name__" := by decide) (hdb : (x == ("__debug__" : Str)) = false := by decide)
    (he : starEach (e :: es) X.env = (false, eval e X.env) :: starEach es X.env := by rfl) (hpl : (backTo pos (starEach es X.env)).any (·.1) = false := by rfl) : PE X (.Call (.Name x p) (e :: es) [] pos) (tCB r t) := by
  intro pins s σ H Q I h
  refine wpAny_Call_Name_kw (ld_blt I hg hm hv ?_ hn hdb)
  exact PyProof.Rows.callWith_builtin1 (thn (ha pos pins s σ H _ I h) fun us s1 ⟨vs, H1, I1, r1, q1⟩ => hc pins s1 σ H1 vs us Q I1 r1 q1) he hpl
theorem pe_callTy (hc : CallR X (.type T) r) (hg : Gl X x) (hm : X.mg x = none) (hv : bootBuiltins x = some (.type T)) (ha : PA X (e :: es) t) (hn : x ≠ "__name__" := by decide) (hdb : (x == ("__debug__" : Str)) = false := by decide)
    (he : starEach (e :: es) X.env = (false, eval e X.env) :: starEach es X.env := by rfl) (hpl : (backTo pos (starEach es X.env)).any (·.1) = false := by rfl) : PE X (.Call (.Name x p) (e :: es) [] pos) (tCB r t) := by
  intro pins s σ H Q I h
  refine wpAny_Call_Name_kw (ld_blt I hg hm hv ?_ hn hdb)
  exact PyProof.Rows.callWith_type1 (thn (ha pos pins s σ H _ I h) fun us s1 ⟨vs, H1, I1, r1, q1⟩ => hc pins s1 σ H1 vs us Q I1 r1 q1) he hpl
end
end L2
namespace HT
open PySem PyProof.Rows
section
open PySem.SeqAt
open PySem.AutoSeq1 (wpAny_loadPart')
open PySem.MeetsSeq PySem.MeetsSeq2 PySem.MeetsSeq3
end
section
variable {prog : Program} {w : World} {A : Around} {E : Value → Shared → Prop} {s : Shared}
def sIx (n d : Nat) : Option Int → Nat
  | none => d
  | some v => if v < 0 then (v + (n : Int)).toNat else min v.toNat n
end
end HT
namespace L2
open PySem PySem.Spec PyProof.Rows
abbrev TO := St → Hp → (Option Int → Hp → Prop) → Prop
def PO (X : Cx) (e : Option Expr) (t : TO) : Prop :=
  ∀ (pins : List (Addr × Obj)) (s : Shared) (σ : St) (H : Hp) (Q : Option Int → Hp → Prop), Inv X pins σ H s → t σ H Q →
    wpAny (model X.prog X.w) X.A (evalPart e X.env) (fun u s' => ∃ o H', Inv X pins σ H' s' ∧ IsPart u o ∧ Q o H') X.xe s
def tNoPart : TO := fun _ H Q => Q none H
def tPart (t : TE) : TO := fun σ H Q => t σ H fun x H1 => ∃ i, x = .int i ∧ Q (some i) H1
theorem intsAre_of {ns : List Int} : ∀ {us : List Value}, Vals (ns.map V.int) us → IntsAre us ns := by
  induction ns with
  | nil => intro us r; rw [List.map_nil] at r; cases r; exact .nil
  | cons n ns ih =>
    intro us r
    rw [List.map_cons] at r
    cases r with
    | cons r1 r2 =>
      obtain ⟨t, e⟩ := r1
      subst e
      exact .cons n t (ih r2)
section
variable {X : Cx} {e : Expr} {te : TE} {lo hi : Option Expr} {tl th : TO} {pos p2 : Pos}
theorem po_none : PO X none tNoPart := by
  intro pins s σ H Q I h
  rw [evalPart_none]
  exact wpAny_pure ⟨none, H, I, .none, h⟩
theorem po_some (h : PE X e te) : PO X (some e) (tPart te) := by
  intro pins s σ H Q I hw
  rw [evalPart_some]
  refine thn (h pins s σ H _ I hw) fun u s1 ⟨x, H1, I1, r1, q1⟩ => ?_
  obtain ⟨i, rfl, q⟩ := q1
  obtain ⟨t, rfl⟩ := r1
  exact ⟨some i, H1, I1, .int i t, q⟩
def SlR (X : Cx) (r : V → Option Int → Option Int → Hp → VK → Prop) : Prop :=
  ∀ (pins : List (Addr × Obj)) (s : Shared) (σ : St) (H : Hp) (x : V) (v vl vu : Value) (lo hi : Option Int) (sl : Addr) (Q : VK), Inv X pins σ H s → RelV x v → s.heap.IsSliceOf sl vl vu .none → IsPart vl lo → IsPart vu hi → r x lo hi H Q →
    ∃ T id, typeLookup (.type T) "__getitem__" = pure (some (.builtin id)) ∧ s.TypeIs v T ∧ wpAny (model X.prog X.w) X.A (getItem v (.ref sl)) (EP X pins σ Q) X.xe s
def tSl (r : V → Option Int → Option Int → Hp → VK → Prop) (te : TE) (tl th : TO) : TE := fun σ H Q => te σ H fun x H1 => tl σ H1 fun l H2 => th σ H2 fun u H3 => r x l u H3 Q
theorem pe_slice {r : V → Option Int → Option Int → Hp → VK → Prop} (hr : SlR X r) (he : PE X e te) (hl : PO X lo tl) (hu : PO X hi th) : PE X (.Subscript e (.Slice lo hi none p2) pos) (tSl r te tl th) := by
  intro pins s σ H Q I h
  refine Subscript_ (thn (he pins s σ H _ I h) fun v s1 ⟨x, H1, I1, r1, q1⟩ => ?_)
  refine wpAny_Slice (thn (hl pins s1 σ H1 _ I1 q1) fun vl s2 ⟨l, H2, I2, pl, q2⟩ => thn (hu pins s2 σ H2 _ I2 q2) fun vu s3 ⟨u, H3, I3, pu, q3⟩ => ?_)
  rw [evalPart_none]
  refine wpAny_pure ?_
  have I4 : Inv X pins σ H3 { s3 with heap := s3.heap.push { cls := .type "slice", data := .fields #[vl, vu, .none] } } := I3.kept (t' := s3.toks) fun b ob q => Heap.get?_push_of_some _ q
  obtain ⟨T, id, hT, ht, hg⟩ := hr pins { s3 with heap := s3.heap.push { cls := .type "slice", data := .fields #[vl, vu, .none] } } σ H3 x v vl vu l u s3.heap.objs.size Q I4 r1 (Heap.IsSliceOf.new ..) pl pu q3
  show wpAny (model X.prog X.w) X.A (subscriptTail e (.Slice lo hi none p2) v (.ref s3.heap.objs.size)) (EP X pins σ Q) X.xe { s3 with heap := s3.heap.push { cls := .type "slice", data := .fields #[vl, vu, .none] } }
  exact tail_any (ops := [.ref s3.heap.objs.size, v]) ht hT hg (by with_unfolding_all rfl)
def cutV (xs : List V) (lo hi : Option Int) : List V := (xs.drop (HT.sIx xs.length 0 lo)).take (HT.sIx xs.length xs.length hi - HT.sIx xs.length 0 lo)
theorem cutV_length (xs : List V) (lo hi : Option Int) : (cutV xs lo hi).length ≤ xs.length := by
  unfold cutV
  rw [List.length_take, List.length_drop]
  omega
end
end L2
namespace L2
open PySem PySem.Spec PyProof.Rows
def ixN (n : Nat) (i : Int) : Option Nat := if 0 ≤ i then (if i < n then some i.toNat else none) else if -(n : Int) ≤ i then some (i + n).toNat else none
def atI {α : Type} (xs : List α) (i : Int) : Option α := (ixN xs.length i).bind fun j => xs[j]?
theorem ixN_seq {n : Nat} {i : Int} {j : Nat} (h : ixN n i = some j) : seqIndex? i n = some j ∧ j < n ∧ -(n : Int) ≤ i ∧ i < n := by
  unfold ixN at h
  by_cases h0 : 0 ≤ i
  · rw [if_pos h0] at h
    by_cases h1 : i < n
    · rw [if_pos h1] at h
      have e : i.toNat = j := Option.some.inj h
      exact ⟨by rw [seqIndex_of h0 h1, e], by omega, by omega, h1⟩
    · rw [if_neg h1] at h; cases h
  · rw [if_neg h0] at h
    by_cases h1 : -(n : Int) ≤ i
    · rw [if_pos h1] at h
      have e : (i + n).toNat = j := Option.some.inj h
      exact ⟨by rw [seqIndex_neg (by omega) h1, e], by omega, h1, by omega⟩
    · rw [if_neg h1] at h; cases h
theorem atI_get {α : Type} {xs : List α} {i : Int} {v : α} (h : atI xs i = some v) : ∃ j, seqIndex? i xs.length = some j ∧ xs[j]? = some v ∧ j < xs.length ∧ -(xs.length : Int) ≤ i ∧ i < xs.length := by
  unfold atI at h
  cases e : ixN xs.length i with
  | none => rw [e] at h; cases h
  | some j =>
    rw [e] at h
    obtain ⟨h1, h2, h3, h4⟩ := ixN_seq e
    exact ⟨j, h1, h, h2, h3, h4⟩
theorem atI_nat {α : Type} {xs : List α} {j : Nat} {v : α} (h : xs[j]? = some v) : atI xs (j : Int) = some v := by
  have hj : j < xs.length := (List.getElem?_eq_some_iff.mp h).1
  have e : ixN xs.length (j : Int) = some j := by
    unfold ixN
    rw [if_pos (by omega), if_pos (by omega)]; simp
  unfold atI; rw [e]; exact h
def PlainIx (b : Expr) : Prop := ∀ o i, subscripted b false o i = operate [o, i] (getItem o i)
def IxR (X : Cx) (r : R2) : Prop :=
  ∀ (value slice : Expr) (pins : List (Addr × Obj)) (s : Shared) (σ : St) (H : Hp) (x y : V) (v u : Value) (Q : VK), Inv X pins σ H s → RelV x v → RelV y u → r x y H Q →
    subscripted slice false v u = operate [v, u] (getItem v u) → wpAny (model X.prog X.w) X.A (subscriptTail value slice v u) (EP X pins σ Q) X.xe s
def MtR (X : Cx) (id : String) (r : V → List V → Hp → VK → Prop) : Prop :=
  ∀ (pins : List (Addr × Obj)) (s : Shared) (σ : St) (H : Hp) (x : V) (xs : List V) (v : Value) (us : List Value) (Q : VK), Inv X pins σ H s → RelV x v → Vals xs us → r x xs H Q →
    wpAny (model X.prog X.w) X.A (call (.builtin id) (v :: us)) (EP X pins σ Q) X.xe s
section
variable {X : Cx} {a b : Expr} {ta tb : TE} {pos : Pos}
theorem pe_ix {r : R2} (hr : IxR X r) (ha : PE X a ta) (hb : PE X b tb) (hs : PlainIx b) : PE X (.Subscript a b pos) (tOp r ta tb) := by
  intro pins s σ H Q I h
  exact Subscript_ (binT ha hb I h fun v u s2 x y H2 I2 rx ry q => hr a b pins s2 σ H2 x y v u Q I2 rx ry q (hs _ _))
def rIxL (K : PySem.W.Frag) : R2 := fun x y H Q => ∃ p xs i v, x = .ref p ∧ y = .int i ∧ SqL K H p xs ∧ atI xs i = some v ∧ Q v H
def rIxT (K : PySem.W.Frag) : R2 := fun x y H Q => ∃ p xs i v, x = .ref p ∧ y = .int i ∧ SqT K H p xs ∧ atI xs i = some v ∧ Q v H
def rIxS : R2 := fun x y H Q => ∃ z i c, x = .str z ∧ y = .int i ∧ z.length ≤ sizeLine ∧ atI z.cps.toList i = some c ∧ Q (.str ⟨#[c]⟩) H
theorem ix_list : IxR X (rIxL X.K) := by
  intro value slice pins s σ H x y v u Q I rx ry h hs
  obtain ⟨p, xs, i, z, rfl, rfl, hq, he, q⟩ := h
  cases rx
  obtain ⟨t, rfl⟩ := ry
  obtain ⟨its, r, pl, hz⟩ := I.list hq
  obtain ⟨j, h1, h2, h3, h4, h5⟩ := atI_get he
  obtain ⟨w, ew, rw'⟩ := r.get h2
  have hl := r.length
  have hn := line63
  have fin : EP X pins σ Q w s := ⟨z, H, I, rw', q⟩
  by_cases h0 : 0 ≤ i
  · have hj : i.toNat = j := by
      rw [seqIndex_of h0 h5] at h1
      exact Option.some.inj h1
    exact item_listR pl.isList h0 (by omega) (by rw [hj]; simpa using ew) fin hs
  · have hj : (i + (its.toArray.size : Int)).toNat = j := by
      rw [seqIndex_neg (by omega) h4] at h1
      rw [List.size_toArray, ← hl]
      exact Option.some.inj h1
    exact subscriptTail_builtinR (x := w) pl.isList.typeIs slot_list_getitem.lookup
      (wpAny_getItem_list_neg (Q := fun r s' => r = w ∧ EP X pins σ Q r s') pl.isList (by omega) (by rw [List.size_toArray] <;> omega) (by omega) (by rw [hj]; simpa using ew) ⟨rfl, fin⟩) hs
theorem ix_tup : IxR X (rIxT X.K) := by
  intro value slice pins s σ H x y v u Q I rx ry h hs
  obtain ⟨p, xs, i, z, rfl, rfl, hq, he, q⟩ := h
  cases rx
  obtain ⟨t, rfl⟩ := ry
  obtain ⟨its, r, pl, hz⟩ := I.tuple hq
  obtain ⟨j, h1, h2, h3, h4, h5⟩ := atI_get he
  obtain ⟨w, ew, rw'⟩ := r.get h2
  have hl := r.length
  have hn := line63
  have fin : EP X pins σ Q w s := ⟨z, H, I, rw', q⟩
  exact subscriptTail_builtinR (x := w) pl.typeIs slot_tuple_getitem.lookup
    (getItem_tuple (j := j) (Q := fun r s' => r = w ∧ EP X pins σ Q r s') pl (by omega) (by omega) (by rw [List.size_toArray, ← hl]; exact h1) (by simpa using ew) ⟨rfl, fin⟩) hs
theorem ix_str : IxR X rIxS := by
  intro value slice pins s σ H x y v u Q I rx ry h hs
  obtain ⟨z, i, c, rfl, rfl, hz, he, q⟩ := h
  obtain ⟨t, rfl⟩ := rx
  obtain ⟨t', rfl⟩ := ry
  obtain ⟨j, h1, h2, h3, h4, h5⟩ := atI_get he
  have hl : z.cps.toList.length = z.length := by simp [Str.length]
  rw [hl] at h1 h4 h5
  have hn := line63
  exact tail_any (typeIs_str s z t) slot_str_getitem.lookup (getItem_str (c := c) (by
    have e1 : decide (i < -(2 ^ 63 : Int)) = false := decide_eq_false (by omega)
    have e2 : decide (i ≥ 2 ^ 63) = false := decide_eq_false (by omega)
    rw [e1, e2, Bool.or_false]) (by rw [h1]; simpa using h2) ⟨.str ⟨#[c]⟩, H, I.tok _, ⟨_, rfl⟩, q⟩) hs
theorem mapSeq_set (its : List Value) (n j : Nat) (u : Value) : Obj.mapSeq (·.setIfInBounds j u) { cls := .type "list", data := .seq its.toArray n } = { cls := .type "list", data := .seq (its.set j u).toArray n } := by
  simp [Obj.mapSeq]
theorem Inv.lst {pins : List (Addr × Obj)} {σ : St} {H : Hp} {s : Shared} {p : Addr} {xs : List V} (I : Inv X pins σ H s) (h : H p = some (.lst xs)) :
    ∃ (its : List Value) (n : Nat), Vals xs its ∧ s.heap.get? p = some { cls := .type "list", data := .seq its.toArray n } ∧ xs.length ≤ sizeLine := by
  obtain ⟨z, its, n, r, e⟩ := I.hok p _ h
  exact ⟨its, n, r, e, z⟩
theorem Inv.lstUpd {pins : List (Addr × Obj)} {σ : St} {H : Hp} {s : Shared} {p : Addr} {xs ys : List V} {its its' : List Value} {n n' : Nat} {f : Obj → Obj} (I : Inv X pins σ H s) (h : H p = some (.lst xs))
    (ho : s.heap.get? p = some { cls := .type "list", data := .seq its.toArray n }) (hf : f { cls := .type "list", data := .seq its.toArray n } = { cls := .type "list", data := .seq its'.toArray n' }) (r : Vals ys its') (hz : ys.length ≤ sizeLine) (t : Nat) :
    Inv X pins σ (upd H p (.lst ys)) { s with heap := s.heap.update p f, toks := t } := by
  have e : (s.heap.update p f).get? p = some { cls := .type "list", data := .seq its'.toArray n' } := by
    rw [Heap.get?_update_self f ho (by rw [hf] <;> rfl), hf]
  refine I.write (x := p) (e := p) (by rw [h]; trivial) (.inl rfl) (fun b u hb q => (Heap.get?_update_other _ _ (Ne.symm hb)).trans q) ⟨_, e⟩ ?_
  exact ⟨hz, its', n', r, e⟩
def rSetL : V → V → V → Hp → (Hp → Prop) → Prop := fun o i v H Q => ∃ p xs k j, o = .ref p ∧ i = .int k ∧ H p = some (.lst xs) ∧ ixN xs.length k = some j ∧ Q (upd H p (.lst (xs.set j v)))
theorem set_list : PSet X rSetL := by
  intro pins s σ H o i v ov iv u Q I ro ri rv h
  obtain ⟨p, xs, k, j, rfl, rfl, hp, hj, q⟩ := h
  cases ro
  obtain ⟨t, rfl⟩ := ri
  obtain ⟨its, n, r, ho, hz⟩ := I.lst hp
  obtain ⟨h1, h2, h3, h4⟩ := ixN_seq hj
  have hl := r.length
  have hn := line63
  have I' : Inv X pins σ (upd H p (.lst (xs.set j v))) { s with heap := s.heap.update p (Obj.mapSeq (·.setIfInBounds j u)) } :=
    I.lstUpd hp ho (mapSeq_set its n j u) (r.set rv j) (by rw [List.length_set]; exact hz) s.toks
  by_cases h0 : 0 ≤ k
  · have hk : k.toNat = j := by
      rw [seqIndex_of h0 h4] at h1
      exact Option.some.inj h1
    exact PySem.W.ki_setAt ho h0 (by omega) (by rw [List.size_toArray, ← hl]; exact h4) (by rw [hk]; exact ⟨_, I', q⟩)
  · have hk : (k + (its.toArray.size : Int)).toNat = j := by
      rw [seqIndex_neg (by omega) h3] at h1
      rw [List.size_toArray, ← hl]
      exact Option.some.inj h1
    exact PySem.W.ki_setBack ho (by omega) (by rw [List.size_toArray, ← hl]; exact h3) (by omega) (by rw [hk]; exact ⟨_, I', q⟩)
theorem slice_bounds (lo hi : Option Int) (n : Nat) : (sliceBounds lo hi none n).1 = ((HT.sIx n 0 lo : Nat) : Int) ∧ (sliceBounds lo hi none n).2.1 = ((HT.sIx n n hi : Nat) : Int) ∧ (sliceBounds lo hi none n).2.2 = 1 := by
  refine ⟨?_, ?_, rfl⟩
  · cases lo with
    | none => simp [sliceBounds, HT.sIx]
    | some i =>
      simp only [sliceBounds, HT.sIx, Option.getD_none, show (1 : Int) > 0 by decide, if_true]
      by_cases h : i < 0
      · simp only [h, if_true] <;> omega
      · simp only [h, if_false] <;> omega
  · cases hi with
    | none => simp [sliceBounds, HT.sIx]
    | some i =>
      simp only [sliceBounds, HT.sIx, Option.getD_none, show (1 : Int) > 0 by decide, if_true]
      by_cases h : i < 0
      · simp only [h, if_true] <;> omega
      · simp only [h, if_false] <;> omega
theorem slicePick_cut (its : List Value) (lo hi : Option Int) : slicePick its.toArray lo hi none = ((its.drop (HT.sIx its.length 0 lo)).take (HT.sIx its.length its.length hi - HT.sIx its.length 0 lo)).toArray := by
  obtain ⟨h1, h2, h3⟩ := slice_bounds lo hi its.toArray.size
  unfold slicePick
  rw [h1, h2, h3]
  simp only [sliceRange_one, pick_run, List.size_toArray] <;> rfl
def rSlL (K : PySem.W.Frag) : V → Option Int → Option Int → Hp → VK → Prop := fun x lo hi H Q => ∃ a xs, x = .ref a ∧ SqL K H a xs ∧ ∀ p, H p = none → Q (.ref p) (upd H p (.lst (cutV xs lo hi)))
theorem sl_list : SlR X (rSlL X.K) := by
  intro pins s σ H x v vl vu lo hi sl Q I rx hs pl pu h
  obtain ⟨a, xs, rfl, hx, q⟩ := h
  cases rx
  obtain ⟨its, r, ht, hz⟩ := I.list hx
  have hlen := r.length
  refine ⟨"list", _, slot_list_getitem.lookup, ht.isList.typeIs, ?_⟩
  refine wpAny_getItem_list_slice ht.isList hs pl pu .none (by simp) ?_ (by rw [List.size_toArray] <;> omega)
  rw [slicePick_cut, ← hlen]
  refine ⟨.ref s.heap.objs.size, _, I.laid (t' := s.toks) (o := .lst (cutV xs lo hi)) (fun b ob q => Heap.get?_push_of_some _ q) (Nat.le_refl _) ?_, rfl, q _ (I.hok.fresh (Nat.le_refl _))⟩
  exact ⟨Nat.le_trans (cutV_length xs lo hi) hz, _, 0, (r.drop (HT.sIx xs.length 0 lo)).take (HT.sIx xs.length xs.length hi - HT.sIx xs.length 0 lo), Heap.get?_push_size _ rfl⟩
theorem op_notIn_str : OpR X (compareOp .NotIn) (fun x y H Q => ∃ i j, x = .str i ∧ y = .str j ∧ Q (.bl (!(!(Builtin.Str.occurrences j i 0 j.length 1).isEmpty))) H) := by
  intro pins s σ H x y v u Q I rx ry h
  obtain ⟨i, j, rfl, rfl, q⟩ := h
  obtain ⟨t, rfl⟩ := rx
  obtain ⟨t', rfl⟩ := ry
  exact notIn_str ⟨.bl _, H, I, rfl, q⟩
theorem call_len_seq : CallR X (.builtin "len") (fun xs H Q => ∃ p ys, xs = [.ref p] ∧ (SqL X.K H p ys ∨ SqT X.K H p ys) ∧ Q (.int ys.length) H) := by
  intro pins s σ H xs us Q I r h
  obtain ⟨p, ys, rfl, hq, q⟩ := h
  obtain ⟨u, rfl, rx⟩ := vals1 r
  cases rx
  have hn := line63
  rcases hq with hq | hq
  · obtain ⟨its, r', pl, hz⟩ := I.list hq
    have hlen := r'.length
    exact Calls.call_len_list pl.isList (by simp only [List.size_toArray] <;> omega) ⟨.int ys.length, H, I.tok _, ⟨s.toks + 1, by rw [List.size_toArray, hlen]⟩, q⟩
  · obtain ⟨its, r', pl, hz⟩ := I.tuple hq
    have hlen := r'.length
    exact len_tuple pl (by simp only [List.size_toArray] <;> omega) ⟨.int ys.length, H, I.tok _, ⟨s.toks + 1, by rw [List.size_toArray, hlen]⟩, q⟩
theorem call_len_str : CallR X (.builtin "len") (fun xs H Q => ∃ z, xs = [.str z] ∧ z.length ≤ sizeLine ∧ Q (.int z.length) H) := by
  intro pins s σ H xs us Q I r h
  obtain ⟨z, rfl, hz, q⟩ := h
  obtain ⟨u, rfl, t, rfl⟩ := vals1 r
  have hn := line63
  exact len_str (by omega) ⟨.int z.length, H, I.tok _, ⟨_, rfl⟩, q⟩
theorem call_list_of : CallR X (.type "list") (fun xs H Q => ∃ p ys, xs = [.ref p] ∧ (SqL X.K H p ys ∨ SqT X.K H p ys) ∧ ∀ l, H l = none → Q (.ref l) (upd H l (.lst ys))) := by
  intro pins s σ H xs us Q I r h
  obtain ⟨p, ys, rfl, hq, q⟩ := h
  obtain ⟨u, rfl, rx⟩ := vals1 r
  cases rx
  have fin : ∀ (its : List Value), Vals ys its → ys.length ≤ sizeLine → ∀ (h' : Heap) (c' : Nat), (∀ b o', s.heap.get? b = some o' → h'.get? b = some o') →
      h'.get? s.heap.objs.size = some { cls := .type "list", dict := none, data := .seq its.toArray c', slots := #[] } → EP X pins σ Q (.ref s.heap.objs.size) { s with heap := h' } := fun its r' hz h' c' kp e =>
    ⟨.ref s.heap.objs.size, _, I.laid (t' := s.toks) kp (Nat.le_refl _) (show ObjOk X.prog X.w _ h' _ (.lst ys) from ⟨hz, its, c', r', e⟩), rfl, q _ (I.hok.fresh (Nat.le_refl _))⟩
  rcases hq with hq | hq
  · obtain ⟨its, r', pl, hz⟩ := I.list hq
    have hlen := r'.length
    obtain ⟨o, ho, hc, n, hd⟩ := pl.isList
    exact call_list_seq p (.inl rfl) ho hc hd (fun h' c' kp e => fin its r' hz h' c' kp e) (by simp only [List.size_toArray] <;> omega)
  · obtain ⟨its, r', pl, hz⟩ := I.tuple hq
    have hlen := r'.length
    obtain ⟨o, ho, hc, n, hd⟩ := pl
    exact call_list_seq p (.inr rfl) ho hc hd (fun h' c' kp e => fin its r' hz h' c' kp e) (by simp only [List.size_toArray] <;> omega)
theorem call_tuple_of : CallR X (.type "tuple") (fun xs H Q => ∃ p ys, xs = [.ref p] ∧ ((SqL X.K H p ys ∧ ∀ l, H l = none → Q (.ref l) (upd H l (.tup ys))) ∨ (SqT X.K H p ys ∧ Q (.ref p) H))) := by
  intro pins s σ H xs us Q I r h
  obtain ⟨p, ys, rfl, h⟩ := h
  obtain ⟨u, rfl, rx⟩ := vals1 r
  cases rx
  rcases h with ⟨hq, q⟩ | ⟨hq, q⟩
  · obtain ⟨its, r', pl, hz⟩ := I.list hq
    have hlen := r'.length
    refine call_tuple_list pl.isList (fun h' kp => ?_) (by simp only [List.size_toArray] <;> omega)
    have I1 : Inv X pins σ H { s with heap := h' } := I.kept (t' := s.toks) kp
    have I2 : Inv X pins σ (upd H h'.objs.size (.tup ys)) { s with heap := h'.push { cls := .type "tuple", data := .seq its.toArray } } :=
      I1.laid (t' := s.toks) (fun b o e => Heap.get?_push_of_some _ e) (Nat.le_refl _) (show ObjOk X.prog X.w _ _ _ (.tup ys) from ⟨hz, its, r', TupP.new _ _⟩)
    exact ⟨.ref h'.objs.size, _, I2, rfl, q _ (I1.hok.fresh (Nat.le_refl _))⟩
  · obtain ⟨its, r', pl, hz⟩ := I.tuple hq
    exact call_tuple_same pl ⟨.ref p, H, I, rfl, q⟩
def tyV (K : PySem.W.Frag) (T : String) (x : V) (H : Hp) : Prop := match x with
  | .str _ => T = "str"
  | .int _ => T = "int"
  | .ref p => (T = "list" ∧ ∃ xs, SqL K H p xs) ∨ (T = "tuple" ∧ ∃ o, K.lookup p = some o ∧ o.cls = .type "tuple" ∧ o.dict = none) ∨
      (T = "dict" ∧ ((∃ kvs, H p = some (.dK kvs)) ∨ ∃ kvs, H p = some (.dT kvs))) ∨ (T = "set" ∧ ∃ S n, H p = some (.set S n))
  | _ => False
theorem tyV_is {pins : List (Addr × Obj)} {σ : St} {H : Hp} {s : Shared} {T : String} {x : V} {v : Value} (I : Inv X pins σ H s) (r : RelV x v) (ty : tyV X.K T x H) :
    s.TypeIs v T ∧ ∀ a, v = .ref a → ∃ ob, s.heap.get? a = some ob ∧ ob.dict = none := by
  cases x with
  | str z =>
    obtain ⟨t, rfl⟩ := r
    cases (show T = "str" from ty)
    exact ⟨typeIs_str s z t, fun _ e => nomatch e⟩
  | int i =>
    obtain ⟨t, rfl⟩ := r
    cases (show T = "int" from ty)
    exact ⟨typeIs_int s i t, fun _ e => nomatch e⟩
  | ref p =>
    cases r
    rcases ty with ⟨rfl, xs, hq⟩ | ⟨rfl, o, hk, hc, hd⟩ | ⟨rfl, hk⟩ | ⟨rfl, S, n, hk⟩
    · obtain ⟨its, _, pl, _⟩ := I.list hq
      refine ⟨pl.isList.typeIs, fun a e => ?_⟩
      cases e
      obtain ⟨o, n, e, c, hd, _⟩ := pl
      exact ⟨o, e, hd⟩
    · refine ⟨⟨o, I.kIn p o hk, hc⟩, fun a e => ?_⟩
      cases e
      exact ⟨o, I.kIn _ o hk, hd⟩
    · have z : ∃ o, s.heap.get? p = some o ∧ o.ExactDict := by
        rcases hk with ⟨kvs, hk⟩ | ⟨kvs, hk⟩
        · obtain ⟨_, _, _, _, o, _, _, e, ex, _⟩ := I.hok p _ hk
          exact ⟨o, e, ex⟩
        · obtain ⟨_, _, _, _, o, _, _, e, ex, _⟩ := I.hok p _ hk
          exact ⟨o, e, ex⟩
      obtain ⟨o, e, ex⟩ := z
      refine ⟨⟨o, e, ex.1⟩, fun a e2 => ?_⟩
      cases e2
      exact ⟨o, e, ex.2.1⟩
    · obtain ⟨o, _, _, _, e, ex, _⟩ := I.hok p _ hk
      refine ⟨⟨o, e, ex.1⟩, fun a e2 => ?_⟩
      cases e2
      exact ⟨o, e, ex.2.1⟩
  | _ => exact False.elim ty
def tBM (K : PySem.W.Frag) (T : String) (r : V → List V → Hp → VK → Prop) (to : TE) (t : TA) : TE := fun σ H Q => to σ H fun x H1 => tyV K T x H1 ∧ t σ H1 fun xs H2 => r x xs H2 Q
variable {o e : Expr} {es : List Expr} {to : TE} {t : TA} {name : Str} {apos cpos : Pos} {T id : String} {r : V → List V → Hp → VK → Prop}
theorem pe_bm (pa : PlainAttrs T) (slot : Slot T name id) (hty : typeOf (.builtin id) = pure (.type "method_descriptor")) (hm : MtR X id r) (ho : PE X o to) (ha : PA X (e :: es) t)
    (hbase : attributeBase o name X.env (eval o X.env) = eval o X.env := by rfl)
    (hfew : ((backTo cpos (starEach (e :: es) X.env)).all (fun x => !x.1) && (backToKw cpos (keywordEach [] X.env)).all (fun x => x.1.isSome)
      && decide ((e :: es).length + ([] : List Keyword).length + (if ([] : List Keyword).isEmpty then 0 else 1) < 30)) = true := by rfl)
    (hline : (apos.endLine == cpos.line) = true := by rfl) (hs : starEach (e :: es) X.env = (false, eval e X.env) :: starEach es X.env := by rfl) (hplain : (backTo cpos (starEach es X.env)).any (·.1) = false := by rfl) :
    PE X (.Call (.Attribute o name apos) (e :: es) [] cpos) (tBM X.K T r to t) := by
  intro pins s σ H Q I h
  refine wpAny_Call_method_late hbase hfew hline rfl (thn (ho pins s σ H _ I h) fun v s1 ⟨x, H1, I1, r1, ty, q1⟩ => ?_)
  obtain ⟨h1, h2⟩ := tyV_is I1 r1 ty
  refine ⟨T, id, pa, slot, hty, h1, h2, ?_⟩
  have hA := ha cpos pins s1 σ H1 _ I1 q1
  rw [hs] at hA ⊢
  refine Calls.callWith_builtin (by show (false || (backTo cpos (starEach es X.env)).any (·.1)) = false; rw [hplain] <;> rfl) (Calls.evalArgs_plain ?_)
  exact thn hA fun us s2 ⟨vs, H2, I2, r2, q2⟩ => hm pins s2 σ H2 x vs v us Q I2 r1 r2 q2
end
end L2
namespace L2
open PySem PySem.Spec PyProof.Rows
def MtM (X : Cx) (id : String) (r : V → List V → Hp → VK → Prop) : Prop :=
  ∀ (pins : List (Addr × Obj)) (s : Shared) (σ : St) (H : Hp) (x : V) (xs : List V) (v : Value) (us : List Value) (Q : VK), Inv X pins σ H s → RelV x v → Vals xs us → r x xs H Q →
    wpAny (model X.prog X.w) X.A (call (.builtin id) (v :: us)) (EP X pins σ Q) X.xe s
theorem Vals.one : ∀ {x : V} {us : List Value}, Vals [x] us → ∃ u, us = [u] ∧ RelV x u
  | _, _, .cons r .nil => ⟨_, rfl, r⟩
theorem Vals.two : ∀ {x y : V} {us : List Value}, Vals [x, y] us → ∃ u v, us = [u, v] ∧ RelV x u ∧ RelV y v
  | _, _, _, .cons r (.cons q .nil) => ⟨_, _, rfl, r, q⟩
theorem Vals.eraseIdx : ∀ {xs : List V} {us : List Value} (i : Nat), Vals xs us → Vals (xs.eraseIdx i) (us.eraseIdx i)
  | _, _, _, .nil => .nil
  | _, _, 0, .cons _ t => t
  | _, _, i + 1, .cons r t => .cons r (Vals.eraseIdx i t)
theorem Vals.rep {xs : List V} {us : List Value} (h : Vals xs us) : ∀ k : Nat, Vals (List.replicate k xs).flatten (List.replicate k us).flatten
  | 0 => .nil
  | k + 1 => by
    rw [List.replicate_succ, List.replicate_succ, List.flatten_cons, List.flatten_cons]
    exact Vals.append h (Vals.rep h k)
theorem len_erase {α : Type} : ∀ (l : List α) (i : Nat), (l.eraseIdx i).length ≤ l.length
  | [], _ => Nat.le_refl _
  | _ :: _, 0 => Nat.le_succ _
  | _ :: r, i + 1 => Nat.succ_le_succ (len_erase r i)
theorem foldl_rep (its : List Value) : ∀ (k : Nat) (acc : List Value),
    List.foldl (fun x1 x2 => x1 ++ x2) acc.toArray (List.replicate k its.toArray) = (acc ++ (List.replicate k its).flatten).toArray
  | 0, acc => by simp
  | k + 1, acc => by
    have e : acc.toArray ++ its.toArray = (acc ++ its).toArray := by simp
    have e2 : (acc ++ its) ++ (List.replicate k its).flatten = acc ++ (List.replicate (k + 1) its).flatten := by
      rw [List.replicate_succ, List.flatten_cons, List.append_assoc]
    rw [← e2, ← foldl_rep its k (acc ++ its), ← e, List.replicate_succ, List.foldl_cons]
section
variable {X : Cx} {pins : List (Addr × Obj)} {σ : St} {H : Hp} {s : Shared} {l b : Addr} {xs ys zs : List V}
theorem Inv.lset {its its' : List Value} {n : Nat} {f : Array Value → Array Value} {t' : Nat} (I : Inv X pins σ H s) (hH : H l = some (.lst xs))
    (e : s.heap.get? l = some { cls := .type "list", data := .seq its.toArray n }) (hf : f its.toArray = its'.toArray) (hv : Vals ys its') (hz : ys.length ≤ sizeLine) :
    Inv X pins σ (upd H l (.lst ys)) { s with heap := s.heap.update l (Obj.mapSeq f), toks := t' } := by
  have q := PySem.IsL.update e f
  rw [hf] at q
  refine I.write (x := l) (e := l) (by rw [hH]; exact trivial) (.inl rfl) (fun b' u hb hu => (Heap.get?_update_other s.heap (Obj.mapSeq f) (Ne.symm hb)).trans hu) ⟨_, q⟩ ?_
  exact ⟨hz, its', _, hv, q⟩
theorem Inv.lnew {its : List Value} {t' : Nat} (I : Inv X pins σ H s) (hv : Vals ys its) (hz : ys.length ≤ sizeLine) :
    Inv X pins σ (upd H s.heap.objs.size (.lst ys)) { s with heap := s.heap.push { cls := .type "list", data := .seq its.toArray }, toks := t' } :=
  I.laid (fun _ _ q => Heap.get?_push_of_some _ q) (Nat.le_refl _) ⟨hz, its, 0, hv, Heap.get?_push_size _ rfl⟩
theorem Inv.fresh (I : Inv X pins σ H s) : H s.heap.objs.size = none := I.hok.fresh (Nat.le_refl _)
theorem Inv.lstM (I : Inv X pins σ H s) (hH : H l = some (.lst xs)) : xs.length ≤ sizeLine ∧ ∃ (its : List Value) (n : Nat), Vals xs its ∧ xs.length = its.length ∧ s.heap.get? l = some { cls := .type "list", data := .seq its.toArray n } := by
  obtain ⟨z, its, n, r, e⟩ := I.hok l _ hH
  exact ⟨z, its, n, r, r.length, e⟩
theorem notLongL {n : Nat} (h : n ≤ sizeLine) : Builtin.List.listTooLong n = false := by
  unfold Builtin.List.listTooLong
  exact decide_eq_false (by omega)
end
section
variable {X : Cx}
def rAppend : V → List V → Hp → VK → Prop := fun x vs H Q => ∃ l xs y, x = .ref l ∧ vs = [y] ∧ H l = some (.lst xs) ∧ xs.length < sizeLine ∧ Q .non (upd H l (.lst (xs ++ [y])))
theorem mt_append : MtM X "list.append" rAppend := by
  intro pins s σ H x vs v us Q I rx rv h
  obtain ⟨l, xs, y, rfl, rfl, hH, hz, q⟩ := h
  cases rx
  obtain ⟨u, rfl, ru⟩ := rv.one
  obtain ⟨z, its, n, r, hl, e⟩ := I.lstM hH
  refine call_meets F.slot_list_append ⟨_, e, rfl⟩ F.entry_list_append (F.args_list_append_2 _ _) (PySem.list_append l its.toArray n u (by rw [List.size_toArray]; omega)) ⟨e, ?_⟩
  refine ⟨.non, _, I.lset (its' := its ++ [u]) hH e (by simp) (r.append (.cons ru .nil)) ?_, rfl, q⟩
  rw [List.length_append, List.length_singleton]
  omega
def rPopAt : V → List V → Hp → VK → Prop := fun x vs H Q => ∃ l xs i k y, x = .ref l ∧ vs = [.int i] ∧ H l = some (.lst xs) ∧ -(2 ^ 63) ≤ i ∧ i < 2 ^ 63 ∧ seqIndex? i xs.length = some k ∧ xs[k]? = some y ∧ Q y (upd H l (.lst (xs.eraseIdx k)))
theorem mt_popAt : MtM X "list.pop" rPopAt := by
  intro pins s σ H x vs v us Q I rx rv h
  obtain ⟨l, xs, i, k, y, rfl, rfl, hH, h1, h2, hk, hy, q⟩ := h
  cases rx
  obtain ⟨u, rfl, ru⟩ := rv.one
  obtain ⟨t, rfl⟩ := ru
  obtain ⟨z, its, n, r, hl, e⟩ := I.lstM hH
  obtain ⟨w, hw, rw'⟩ := r.get hy
  refine call_meets F.slot_list_pop ⟨_, e, rfl⟩ F.entry_list_pop (F.args_list_pop_2 _ _)
    (MeetsSeq.list_pop_at l its.toArray n i t k w (fitsIndex_both h1 h2) (by rw [List.size_toArray, ← hl]; exact hk) (by rw [← Array.getElem?_toList]; exact hw) (by rw [List.size_toArray]; omega)) ⟨e, ?_⟩
  refine ⟨y, _, I.lset (its' := its.eraseIdx k) hH e ?_ (r.eraseIdx k) ?_, rw', q⟩
  · show its.toArray.eraseIdxIfInBounds k = (its.eraseIdx k).toArray
    rw [List.eraseIdxIfInBounds_toArray]
  · have := len_erase xs k
    omega
def rCat : R2 := fun x y H Q => ∃ l b xs zs, x = .ref l ∧ y = .ref b ∧ H l = some (.lst xs) ∧ H b = some (.lst zs) ∧ xs.length + zs.length ≤ sizeLine ∧ ∀ p, H p = none → Q (.ref p) (upd H p (.lst (xs ++ zs)))
theorem op_cat : OpR X (binaryOp .Add) rCat := by
  intro pins s σ H x y v u Q I rx ry h
  obtain ⟨l, b, xs, zs, rfl, rfl, hH, hB, hz, q⟩ := h
  cases rx
  cases ry
  obtain ⟨z, its, n, r, hl, e⟩ := I.lstM hH
  obtain ⟨z2, its2, n2, r2, hl2, e2⟩ := I.lstM hB
  refine PySem.P.add_list e e2 ?_ (by rw [List.size_toArray, List.size_toArray]; omega)
  have ea : its.toArray ++ its2.toArray = (its ++ its2).toArray := by simp
  rw [ea]
  exact ⟨.ref _, _, I.lnew (t' := s.toks) (r.append r2) (by rw [List.length_append]; omega), rfl, q _ I.fresh⟩
def rRep : R2 := fun x y H Q => ∃ l k xs, x = .ref l ∧ y = .int k ∧ H l = some (.lst xs) ∧ -(2 ^ 63) ≤ k ∧ k < 2 ^ 63 ∧ xs.length * k.toNat ≤ sizeLine ∧
  ∀ p, H p = none → Q (.ref p) (upd H p (.lst (List.replicate k.toNat xs).flatten))
theorem len_rep {α : Type} (xs : List α) (k : Nat) : (List.replicate k xs).flatten.length = k * xs.length := by
  induction k with
  | zero => simp
  | succ k ih => rw [List.replicate_succ, List.flatten_cons, List.length_append, ih, Nat.succ_mul, Nat.add_comm]
theorem op_rep : OpR X (binaryOp .Mult) rRep := by
  intro pins s σ H x y v u Q I rx ry h
  obtain ⟨l, k, xs, rfl, rfl, hH, h1, h2, hz, q⟩ := h
  cases rx
  obtain ⟨t, rfl⟩ := ry
  obtain ⟨z, its, n, r, hl, e⟩ := I.lstM hH
  have hlen : its.toArray.size * k.toNat ≤ sizeLine := by rw [List.size_toArray, ← hl]; exact hz
  have hcap : ¬ its.toArray.size * k.toNat > (2 ^ 63 - 1) / 8 := by
    have : (sizeLine : Nat) ≤ (2 ^ 63 - 1) / 8 := by decide
    omega
  have hfit : ¬ (!Builtin.List.listFitsIndex k) = true := by
    rw [fitsIndex_both h1 h2]
    exact Bool.false_ne_true
  have hlong : ¬ Builtin.List.listTooLong (its.toArray.size * k.toNat) = true := by
    rw [notLongL hlen]
    exact Bool.false_ne_true
  have hnew : List.foldl (fun x1 x2 => x1 ++ x2) #[] (List.replicate (if its.toArray.isEmpty = true then 0 else k.toNat) its.toArray) = (List.replicate k.toNat its).flatten.toArray := by
    have f0 : ∀ m : Nat, List.foldl (fun x1 x2 => x1 ++ x2) #[] (List.replicate m its.toArray) = (List.replicate m its).flatten.toArray := fun m => by
      have := foldl_rep its m []
      rw [List.nil_append] at this
      exact this
    rw [f0]
    cases its with
    | nil => simp
    | cons a r' => rw [if_neg (by simp)]
  refine wpAny_binaryOp_repeat_ref (T := "list") (U := "int") (by decide) ⟨_, e, rfl⟩ (fun s' => typeIs_int s' k t) noFill_list_mul F.fills_int_mul F.slot_int_rmul repeat_list F.slot_int_index.lookup
    (call_meets F.slot_int_rmul (typeIs_int s k t) F.entry_int_rmul (F.args_int_rmul_2 _ _) (int___rmul___int_list k t l its.toArray n)
      ⟨e, rfl, ⟨_, e, rfl⟩, call_meets F.slot_list_mul ⟨_, e, rfl⟩ F.entry_list_mul (F.args_list_mul_2 _ _) (AutoListH.list___mul___list_int_3 l its.toArray n k t hfit hcap hlong) ⟨e, ?_⟩⟩)
  rw [hnew]
  exact ⟨.ref _, _, I.lnew (t' := s.toks) (r.rep k.toNat) (by rw [len_rep, Nat.mul_comm]; exact hz), rfl, q _ I.fresh⟩
end
section
variable {prog : Program} {w : World} {A : Around} {E : Value → Shared → Prop} {s : Shared}
end
section
variable {X : Cx}
end
end L2
namespace L2
open PySem PySem.Spec PyProof.Rows
section
variable {κ : Type} [DecidableEq κ]
end
section
variable {P : Program} {w : World} {H : Hp} {h : Heap} {a : Addr}
end
section
variable {X : Cx} {pins : List (Addr × Obj)} {σ : St} {H : Hp} {s : Shared} {a : Addr} {y v : V} {u r : Value} {o : Option V} {A : Around} {E : Value → Shared → Prop}
end
section
variable {X : Cx} {pins : List (Addr × Obj)} {σ : St} {H : Hp} {s : Shared} {a : Addr} {kvs : List (Key × V)} {k : Key} {u : Value} {A : Around} {E : Value → Shared → Prop}
end
section
variable {X : Cx} {o i e value : Expr} {pos pos' tpos : Pos} {td ty tv : TE}
end
section
variable {X : Cx} {pos : Pos}
end
structure M1 (X : Cx) (o : Expr) (m : Str) (apos : Pos) (e : Expr) (cpos : Pos) : Prop where
  base : attributeBase o m X.env (eval o X.env) = eval o X.env
  few : ((backTo cpos (starEach [e] X.env)).all (fun x => !x.1) && (backToKw cpos (keywordEach [] X.env)).all (fun x => x.1.isSome)
    && decide (([e] : List Expr).length + ([] : List Keyword).length + (if ([] : List Keyword).isEmpty then 0 else 1) < 30)) = true
  line : (apos.endLine == cpos.line) = true
  trees : backTo cpos (starEach [e] X.env) = [(false, eval e X.env)]
structure M2 (X : Cx) (o : Expr) (m : Str) (apos : Pos) (e f : Expr) (cpos : Pos) : Prop where
  base : attributeBase o m X.env (eval o X.env) = eval o X.env
  few : ((backTo cpos (starEach [e, f] X.env)).all (fun x => !x.1) && (backToKw cpos (keywordEach [] X.env)).all (fun x => x.1.isSome)
    && decide (([e, f] : List Expr).length + ([] : List Keyword).length + (if ([] : List Keyword).isEmpty then 0 else 1) < 30)) = true
  line : (apos.endLine == cpos.line) = true
  trees : backTo cpos (starEach [e, f] X.env) = [(false, eval e X.env), (false, eval f X.env)]
section
variable {X : Cx} {pins : List (Addr × Obj)} {σ : St} {H : Hp} {s : Shared} {a : Addr} {y d : V} {u r : Value} {o : Option V} {A : Around} {E : Value → Shared → Prop}
end
section
variable {X : Cx} {o e f : Expr} {apos cpos : Pos} {td ty tx : TE}
end
section
variable {X : Cx} {pins : List (Addr × Obj)} {σ : St} {H : Hp} {s : Shared} {a : Addr} {kvs : List (Key × V)} {A : Around} {E : Value → Shared → Prop}
end
section
variable {X : Cx} {pins : List (Addr × Obj)} {σ : St} {H : Hp} {s : Shared} {a : Addr} {y : V} {u : Value} {A : Around} {E : Value → Shared → Prop}
end
end L2
namespace Att
open PySem PySem.W PySem.Calls PyProof.Rows
theorem ints_of_wellAll {P : Params} {h : Heap} : ∀ (ns : List Int) (vs : List Value), WellAll P h vs (ns.map WData.int) → IntsAre vs ns := by
  intro ns
  induction ns with
  | nil =>
    intro vs w
    rw [List.map_nil] at w
    cases w
    exact .nil
  | cons n ns ih =>
    intro vs w
    rw [List.map_cons] at w
    cases w with
    | cons a b =>
      cases a
      exact .cons _ _ (ih _ b)
theorem script_of {l : OpenLaw} {n : Nat} (hn : l.most = some n) {P : Params} {h : Heap} {args : List WData} {vals : List Value}
    (hpre : l.row.toRowW.claim.pre args = true) (hwl : WellAll P h vals args) :
    ∃ a vs ns, vals = [Value.ref a] ∧ args = [WData.list (ns.map WData.int)] ∧ h.get? a = some { cls := .type "list", data := .seq vs.toArray } ∧ IntsAre vs ns ∧ ns.length ≤ n := by
  have hsh : WShape.hasAll [] args [.list .int] = true := (pre_splitW hpre).1
  have hc : l.pre.holds [] { args := args } = true := (pre_splitW hpre).2
  obtain ⟨d, r, rfl, h1, h2⟩ := hasAllW_cons hsh
  obtain rfl := hasAllW_nil h2
  obtain ⟨xs, rfl, h3⟩ := hasW_list h1
  obtain ⟨ns, rfl⟩ := items_int h3
  have hlen : ns.length ≤ n := by
    unfold OpenLaw.pre at hc
    have h4 : (WTm.not (.lt (.lit (.int (n : Int))) (.len (.arg 0)))).holds [] { args := [.list (ns.map .int)] } = true := by
      have h4 := (holds_andW hc).1
      rw [hn] at h4
      exact h4
    have h5 := condW_of h4 (w_not (w_lt w_lit (w_len_list (w_arg rfl))))
    rw [List.length_map] at h5
    refine Nat.le_of_not_lt fun q => ?_
    have q' : (n : Int) < ((ns.length : Nat) : Int) := by omega
    first
      | (rw [decide_eq_true q'] at h5; exact absurd h5 (by decide))
      | (simp at h5; omega)
  cases hwl with
  | cons w1 w2 =>
    cases w2
    cases w1 with
    | list ho hall => exact ⟨_, _, ns, rfl, rfl, ho, ints_of_wellAll ns _ hall, hlen⟩
theorem post_true (l : OpenLaw) (args : List WData) : l.row.toRowW.claim.post args (.bool true) args = true :=
  postW_of (r := l.row.toRowW) (X := (true == true))
    (show WShape.has [] (.bool true) .bool = true by first | rfl | decide | simp [WShape.has, WShape.arms, WShape.armsAll])
    (show (WTm.eq .res (.lit (.bool true))).value [] { args := args, res := some (.bool true), after := args } = some (.bool (true == true)) from w_eq_bool (w_res rfl) w_lit) rfl
theorem attach_call {l : OpenLaw} {n : Nat} {q : Program} {loose : List Str} {XP : (Str → Option Value) → Heap → Prop} {YP : World → Heap → Prop} {d : DefRec}
    (hn : l.most = some n) (hdf : d.params.defaults = [])
    (call : ∀ (w : World) (s₀ s₁ : Shared) (mg mb : Str → Option Value) (fa : Addr) (o : Obj) (pm cd doc : Value) (a : Addr) (vs : List Value) (ns : List Int),
      Ground q loose [] XP w s₀ mg mb s₁.heap → YP w s₁.heap →
      s₁.heap.get? fa = some o → o.data = .func (docDef d.name d.params d.body d.scope pm cd doc) → s₁.heap.CodeRec cd d.name → mg d.name = some (.ref fa) →
      s₁.heap.get? a = some { cls := .type "list", data := .seq vs.toArray } → IntsAre vs ns → ns.length ≤ n → s₁.gens = #[] →
      codeAny (model l.prog w) callerA (.call (.ref fa) ⟨[.ref a], []⟩) (fun r s' => r = .ok (.ret (.bool true)) ∧ OldK s₁.heap s'.heap ∧ s'.os = s₁.os ∧ AllBare s'.gens) s₁) :
    WalkO q loose XP YP l.row.toRowW d [] (fun f vs => PySem.call f vs) := by
  intro w s₀ s₁ mg mb G Y fa o pm cd doc dV kV ho hd hcd hD hmg hg args vals as hpre hlay hrd hwl hlo
  obtain rfl : dV = .none := Dflts.none hD hdf
  obtain rfl : kV = .none := Dflts.noKw hD
  obtain ⟨a, vs, ns, rfl, rfl, hobj, hints, hlen⟩ := script_of hn hpre hwl
  refine enter_call (codeAny_mono (call w s₀ s₁ mg mb fa o pm cd doc a vs ns G Y ho (fd_plain hd) hcd hmg hobj hints hlen hg) fun r s' hq => ?_)
  obtain ⟨rfl, h2, h3, h4⟩ := hq
  exact ⟨.inl ⟨.bool true, .bool true, [], rfl, fun _ => rfl, .bool true, post_true l _, fun _ => ⟨List.Pairwise.nil, fun _ hm => (nomatch hm)⟩⟩, h2, h3, h4⟩
section
variable {prog : Program} {w : World} {A : Around} {E : Value → Shared → Prop} {s : Shared} {K : Frag}
end
end Att
namespace L2
open PySem PySem.Spec PyProof.Rows
theorem vals_ints : ∀ {vs : List Value} {ns : List Int}, IntsAre vs ns → Vals (ns.map V.int) vs
  | _, _, .nil => .nil
  | _, _, .cons n t h => .cons ⟨t, rfl⟩ (vals_ints h)
def Only (H : Hp) : Prop := ∀ b, H b = none ∨ ∃ o xs, H b = some (.frz o (.lst xs))
theorem law_call {P : Program} {w : World} {K : PySem.W.Frag} {mg mb : Str → Option Value} {CX : CXT} {k : Nat} {fa a : Addr} {fd : FuncData} {x : Str} {sp : Sp} {s₁ : Shared} {vs : List Value} {ns : List Int}
    (KX : K.In s₁.heap) (hns : s₁.heap.Ns mainGlobals mg) (hb : s₁.heap.Ns builtinsNs mb) (hbb : ∀ x : Str, x ≠ "__name__" → mb x = bootBuiltins x) (hlim : s₁.heap.NoLimit) (hg : s₁.gens = #[])
    (ha : s₁.heap.get? a = some { cls := .type "list", data := .seq vs.toArray }) (hi : IntsAre vs ns) (hl : ns.length ≤ sizeLine) (hr : Room k callerA)
    (F : ∀ base : Heap, K.In base → base.Ns mainGlobals mg → FnOk P w K mg base CX k fa fd [x] sp) (hbind : ∀ (s : Shared) (u : Value), BindsTo s fd ⟨[u], []⟩ [(x, u)])
    (hsp : ∀ H : Hp, Only H → SqL K H a (ns.map V.int) → sp [.ref a] H (fun v _ => v = .bl true) fun _ _ _ => False)
    (hCX : ∀ H e s', CX [] H s₁ (fun _ _ _ => False) e s' → False) :
    codeAny (model P w) callerA (.call (.ref fa) ⟨[.ref a], []⟩) (fun r s' => r = .ok (.ret (.bool true)) ∧ OldK s₁.heap s'.heap ∧ s'.os = s₁.os ∧ AllBare s'.gens) s₁ := by
  have rv := vals_ints hi
  have lenV := hi.length
  -- from an abstract heap in which nothing but the script may be tracked
  have core : ∀ H : Hp, Only H → SqL K H a (ns.map V.int) → HOk P w H s₁.heap → (∀ b, H b ≠ none → b = a) → (H a ≠ none → K.lookup a = none) →
      codeAny (model P w) callerA (.call (.ref fa) ⟨[.ref a], []⟩) (fun r s' => r = .ok (.ret (.bool true)) ∧ OldK s₁.heap s'.heap ∧ s'.os = s₁.os ∧ AllBare s'.gens) s₁ := by
    intro H hO hS hok hA hK
    have base_of : ∀ {b : Addr} {o : Obj}, s₁.heap.get? b = some o → H b = none → (hidT s₁.heap H).get? b = some o := fun e n => hidT_get e n
    have noA : ∀ {b : Addr} {o : Obj} {es : Array DictEntry} {ep : Nat}, s₁.heap.get? b = some o → o.data = .dict es ep → H b = none := fun {b o es ep} e d => by
      cases q : H b with
      | none => rfl
      | some u =>
        have e' : b = a := hA b (by rw [q]; simp)
        subst e'
        rw [ha] at e; cases e
        have d' : Data.seq vs.toArray _ = Data.dict es ep := d
        cases d'
    have nsK : ∀ {b : Addr} {m : Str → Option Value}, s₁.heap.Ns b m → (hidT s₁.heap H).Ns b m := fun {b m} ⟨o, es, ep, e, d, r⟩ => ⟨o, es, ep, base_of e (noA e d), d, r⟩
    have hKb : K.In (hidT s₁.heap H) := fun b o e => base_of (KX b o e) (by
      cases q : H b with
      | none => rfl
      | some u =>
        have e' : b = a := hA b (by rw [q]; simp)
        subst e'
        rw [hK (by rw [q]; simp)] at e; cases e)
    have hM : Mod K mg (hidT s₁.heap H) := ⟨hKb, nsK hns, ⟨mb, nsK hb, hbb⟩, let ⟨mc, h1, h2⟩ := hlim; ⟨mc, nsK h1, h2⟩⟩
    have e0 : Env0 P w K mg (hidT s₁.heap H) callerA [] s₁ H := ⟨rfl, hM, fun b o e => of_hidT e, Nat.le_of_eq (hidT_size _ _), trivial, fun b hb => absurd (show b ∈ ([] : List Addr) from hb) (by simp), hok, .of_eq hg⟩
    refine codeAny_mono ((F _ hKb (nsK hns)).run callerA [] s₁ H ⟨[.ref a], []⟩ [.ref a] [.ref a] _ _ hr e0 (hbind s₁ (.ref a)) (.cons rfl .nil) (hsp H hO hS)) fun r s' h => ?_
    cases r with
    | error e => exact (hCX H e s' h).elim
    | ok fl =>
      cases fl with
      | next => exact False.elim h
      | brk => exact False.elim h
      | cont => exact False.elim h
      | ret u =>
        obtain ⟨v, H', os, bare, un, hok', r', q⟩ := h
        have q' : v = .bl true := q
        subst q'
        obtain rfl : u = Value.bool true := r'
        refine ⟨rfl, OldK.of_keep fun b o e => ?_, os, bare⟩
        cases q : H b with
        | none => exact un.keep b o e q (by intro z; exact absurd (show b ∈ ([] : List Addr) from z) (by simp)) (by simp)
        | some u =>
          rcases hO b with z | ⟨ob, xs, z⟩
          · rw [q] at z; cases z
          · have z2 := un.frzs b ob _ z
            obtain ⟨e1, _⟩ := hok b _ z
            obtain ⟨e2, _⟩ := hok' b _ z2
            rw [e] at e1; cases e1
            exact e2
  cases hk : K.lookup a with
  | some o =>
    -- the script is one of the module's own objects
    have e := KX a o hk
    rw [ha] at e
    cases e
    refine core (fun _ => none) (fun _ => .inl rfl) (.inr ⟨_, vs.toArray, _, hk, rfl, rfl, rfl, by rw [List.size_toArray, lenV]; exact hl, by simpa using rv⟩) (fun b u z => by have z' : (none : Option HO) = some u := z; cases z') (fun b z => absurd rfl z) fun z => absurd rfl z
  | none =>
    refine core (fun b => if b = a then some (.frz { cls := .type "list", data := .seq vs.toArray } (.lst (ns.map V.int))) else none) (fun b => ?_) (.inl (.inr ⟨{ cls := .type "list", data := .seq vs.toArray }, if_pos rfl⟩)) (fun b u z => ?_) (fun b z => ?_) fun _ => hk
    · by_cases hb : b = a
      · exact .inr ⟨_, _, if_pos hb⟩
      · exact .inl (if_neg hb)
    · by_cases hb : b = a
      · have z' := (if_pos hb).symm.trans z
        cases z'
        subst hb
        exact ⟨ha, by rw [List.length_map]; exact hl, vs, _, rv, ha⟩
      · have z' := (if_neg hb).symm.trans z
        cases z'
    · by_cases hb : b = a
      · exact hb
      · exact absurd (if_neg hb) z
end L2
namespace L2
open PySem PySem.Spec PyProof.Rows
theorem walk_of {l : PySem.W.OpenLaw} {n k : Nat} {q : Program} {loose : List Str} {XP : (Str → Option Value) → Heap → Prop} {YP : World → Heap → Prop} {d : DefRec} {K : Params → PySem.W.Frag} {CX : World → CXT} {sp : World → Sp} {x : Str}
    (hn : l.most = some n) (hn2 : n ≤ sizeLine) (hdf : d.params.defaults = []) (hr : Room k callerA)
    (hY : ∀ (w : World) (h : Heap), YP w h → (K w.params).In h)
    (F : ∀ (w : World) (mg : Str → Option Value) (fa : Addr) (h : Heap), (K w.params).In h → h.Ns mainGlobals mg → mg d.name = some (.ref fa) →
      ∃ fd : FuncData, (∀ (s : Shared) (u : Value), BindsTo s fd ⟨[u], []⟩ [(x, u)]) ∧
        ∀ base : Heap, (K w.params).In base → base.Ns mainGlobals mg → FnOk l.prog w (K w.params) mg base (CX w) k fa fd [x] (sp w))
    (hsp : ∀ (w : World) (H : Hp) (a : Addr) (ns : List Int), ns.length ≤ n → Only H → SqL (K w.params) H a (ns.map V.int) → sp w [.ref a] H (fun v _ => v = .bl true) fun _ _ _ => False)
    (hCX : ∀ (w : World) (H : Hp) (s : Shared) (e : Value) (s' : Shared), CX w [] H s (fun _ _ _ => False) e s' → False) :
    PySem.W.WalkO q loose XP YP l.row.toRowW d [] (fun f vs => PySem.call f vs) := by
  refine Att.attach_call hn hdf fun w s₀ s₁ mg mb fa o pm cd doc a vs ns G Y ho hd hcd hmg hobj hints hlen hg => ?_
  have KX := hY w _ Y
  obtain ⟨fd, hb, hF⟩ := F w mg fa _ KX G.T.g hmg
  exact law_call KX G.T.g G.T.b G.T.builtins G.T.nolimit hg hobj hints (Nat.le_trans hlen hn2) hr hF hb (fun H hO hS => hsp w H a ns hlen hO hS) fun H e s' => hCX w H s₁ e s'
end L2
namespace L2
open PySem PySem.Spec PyProof.Rows
def defArgs (s : Stmt) : Arguments := match s with
  | .FunctionDef _ a _ _ _ _ _ _ _ _ => a
  | _ => { posonlyargs := [], args := [], vararg := none, kwonlyargs := [], kw_defaults := [], kwarg := none, defaults := [] }
def defBody (s : Stmt) : List Stmt := match s with
  | .FunctionDef _ _ b _ _ _ _ _ _ _ => b
  | _ => []
def defScope (s : Stmt) : Scope := match s with
  | .FunctionDef _ _ _ _ _ _ sc _ _ _ => sc
  | _ => { kind := .function, names := [], isGenerator := false, isCoroutine := false }
abbrev CX0 : CXT := fun _ _ _ _ _ _ => False
abbrev E0 : XK := fun _ _ _ => False
theorem pass0 {X : Cx} : Passes CX0 X E0 := fun _ _ _ _ _ _ _ h => h.elim
structure Fun (K : PySem.W.Frag) (x qual : Str) (st : Stmt) (f : Addr) (fd : FuncData) : Prop where
  ex : ∃ (oc : Value) (od : Option Addr) (kV doc pm : Value) (an : Option Addr) (cdv ct : Value) (osl : Array (Option Value)),
    fd = PySem.W.fnOf x qual (defArgs st) (defBody st) (defScope st) .none kV doc pm an cdv ct ∧ K.lookup f = some ⟨oc, od, .func fd, osl⟩ ∧ PySem.W.codeIn K cdv qual = true
  kp : PySem.W.keepIn K (.ref f) = true
section
variable {P : Program} {w : World} {K : PySem.W.Frag} {mg : Str → Option Value} {base : Heap}
theorem Fun.ok {x qual : Str} {st : Stmt} {f : Addr} {fd : FuncData} {N ps : List Str} {k : Nat} {sp : Sp} (F : Fun K x qual st f fd) (S : FnScope N ps (defScope st)) (len : ∀ vs H Q E, sp vs H Q E → vs.length = ps.length)
    (hbody : ∀ (cdv : Value) (A : Around) (outer : List Env) (s : Shared) (H : Hp) (vs : List V) (Q : VK) (E : XK), Room k (A.deeper (envOfC qual (defScope st) s.heap.objs.size f cdv)) → sp vs H Q E →
      ∃ t, PSs (cxOf CX0 P w K mg base N qual (defScope st) f cdv A outer s H E).nox (defBody st) t ∧ t { nx := fun _ H' => Q .non H', rt := Q } (start N vs) H) : FnOk P w K mg base CX0 (k + 1) f fd ps sp := by
  obtain ⟨oc, od, kV, doc, pm, an, cdv, ct, osl, rfl, lk, hcd⟩ := F.ex
  refine fn_of lk hcd S len fun A outer s H vs Q E hr hsp => ?_
  obtain ⟨t, h, q⟩ := hbody cdv A outer s H vs Q E hr hsp
  exact ⟨t, h.nox, q⟩
theorem Fun.binds {x qual : Str} {st : Stmt} {f : Addr} {fd : FuncData} {ps : List Str} (F : Fun K x qual st f fd)
    (h : ∀ (kV doc pm : Value) (an : Option Addr) (cdv ct : Value) (us : List Value), us.length = ps.length → bindArgs (PySem.W.fnOf x qual (defArgs st) (defBody st) (defScope st) .none kV doc pm an cdv ct) ⟨us, []⟩ = pure (ps.zip us)) : Binds K fd ps [] := by
  obtain ⟨oc, od, kV, doc, pm, an, cdv, ct, osl, rfl, lk, hcd⟩ := F.ex
  exact .all (h kV doc pm an cdv ct)
theorem fun_mk {x qual : Str} {st : Stmt} {f : Addr} {oc : Value} {od an : Option Addr} {osl : Array (Option Value)} {kV doc pm cdv ct : Value} (l : K.lookup f = some ⟨oc, od, .func (PySem.W.fnOf x qual (defArgs st) (defBody st) (defScope st) .none kV doc pm an cdv ct), osl⟩)
    (c : PySem.W.codeIn K cdv qual = true) (k : PySem.W.keepIn K (.ref f) = true) : Fun K x qual st f (PySem.W.fnOf x qual (defArgs st) (defBody st) (defScope st) .none kV doc pm an cdv ct) := ⟨⟨oc, od, kV, doc, pm, an, cdv, ct, osl, rfl, l, c⟩, k⟩
end
theorem hu_of {A : Around} {k : Nat} (hr : Room k A) : A.units + 1 < cLine := Nat.lt_of_le_of_lt (Nat.add_le_add_left (by decide : 1 ≤ 64) _) hr.units
theorem small1000 {n : Nat} (h : n ≤ 1000) : n < sizeLine := Nat.lt_of_le_of_lt h (by decide)
section
variable {X : Cx}
theorem pv (i : Nat) {x : Str} {pos : Pos} (hN : X.N[i]? = some x := by rfl) (hv : Vis X.env.scope x := by first | exact Or.inl rfl | exact Or.inr (Or.inl rfl) | exact Or.inr (Or.inr rfl)) (hd : (x == ("__debug__" : Str)) = false := by decide)
    (hcd : (x == ("__classdict__" : Str)) = false := by decide) : PE X (.Name x pos) (tVar i) := pe_var hN hv hd hcd
end
theorem iteF {A B : Prop} (h : B) : if false = true then A else B := by
  rw [if_neg Bool.false_ne_true]
  exact h
theorem ite2 {c A B : Prop} [Decidable c] (h1 : c → A) (h2 : ¬ c → B) : if c then A else B := by
  by_cases h : c
  · rw [if_pos h]
    exact h1 h
  · rw [if_neg h]
    exact h2 h
theorem iteNS {c A B : Prop} [Decidable c] (hc : c) (h : B) : if (!decide c) = true then A else B := by
  rw [decide_eq_true hc]
  exact iteF h
def Same (H H' : Hp) : Prop := ∀ b o, H b = some o → H' b = some o
theorem Same.refl (H : Hp) : Same H H := fun _ _ h => h
theorem Same.trans {H H1 H2 : Hp} (a : Same H H1) (b : Same H1 H2) : Same H H2 := fun c o h => b c o (a c o h)
theorem Same.free {H H' : Hp} (e : Same H H') {l : Addr} (h : H' l = Option.none) : H l = Option.none := by
  cases q : H l with
  | none => rfl
  | some o =>
    rw [e l o q] at h
    cases h
theorem Same.seq {K : PySem.W.Frag} {H H' : Hp} {a : Addr} {xs : List V} (e : Same H H') (h : SqL K H a xs) : SqL K H' a xs := by
  rcases h with (h | ⟨o, h⟩) | h
  · exact .inl (.inl (e _ _ h))
  · exact .inl (.inr ⟨o, e _ _ h⟩)
  · exact .inr h
section
variable {κ : Type} [DecidableEq κ]
end
end L2
set_option maxHeartbeats 4000000
namespace L2
open PySem PySem.Spec PyProof.Rows
section
variable {prog : Program} {w : World} {A : Around} {R : Result → Shared → Prop} {s : Shared}
theorem compLoop_own {elt target iter : Expr} {ifs : List Expr} {scope : Scope} {pos : Pos} {it acc : Value} {env : Env} (I : Nat → Shared → Prop)
    (turn : ∀ n s, I n s → wpAny (model prog w) A (pyNext it) (fun r s₁ => match r with
      | none => R (.ok .next) s₁
      | some v => wpAny (model prog w) A (letOwnedTupleGo target it v) (fun _ s₁' => wpAny (model prog w) A (assign target env v) (fun _ s₂ =>
          wpAny (model prog w) A (forIn ifs true fun c r => if r = true then do let ok ← isTrue c env (eval c env); pure (ForInStep.yield ok) else pure (ForInStep.yield r)) (fun ok s₃ =>
            if ok = true then wpAny (model prog w) A (eval elt env) (fun x s₄ =>
              wpAny (model prog w) A (call (.builtin "list.append") [acc, x]) (fun _ s₅ => ∃ m, m < n ∧ I m s₅) (fun _ _ => False) s₄) (fun _ _ => False) s₃
            else ∃ m, m < n ∧ I m s₃) (fun _ _ => False) s₂) (fun _ _ => False) s₁') (fun _ _ => False) s₁) (fun _ _ => False) s)
    (n : Nat) (h : I n s) :
    codeAny (model prog w) A (.compLoop (.ListComp elt [⟨target, iter, ifs, 0⟩] scope pos) 0 it acc env) R s := by
  refine codeAny_loop rfl I (fun n s hI => ?_) n h
  show wpAny _ A ((compTurn (.ListComp elt [⟨target, iter, ifs, 0⟩] scope pos) 0 it acc env).onRaise (fun x => do noteFrame x env; theTreesLotGoes x)) _ _ s
  refine wpAny_noted ?_
  rw [compTurn_list]
  refine wpAny_bind (wpAny_standAt (wpAny_bind (wpAny_mono (turn n s hI) (fun r s₁ h₁ => ?_) fun _ _ h' => h'.elim)))
  cases r with
  | none => exact wpAny_pure h₁
  | some v =>
    refine wpAny_bind (wpAny_mono h₁ (fun _ s₁' h₁' => ?_) fun _ _ h' => h'.elim)
    refine wpAny_bind (wpAny_mono h₁' (fun _ s₂ h₂ => wpAny_bind (wpAny_mono h₂ (fun ok s₃ h₃ => ?_) fun _ _ h' => h'.elim)) fun _ _ h' => h'.elim)
    cases ok with
    | false => exact wpAny_pure ⟨rfl, h₃⟩
    | true =>
      exact wpAny_bind (wpAny_bind (wpAny_mono h₃ (fun x s₄ h₄ => wpAny_bind (wpAny_mono h₄ (fun _ s₅ h₅ => wpAny_pure (wpAny_pure ⟨rfl, h₅⟩)) fun _ _ h' => h'.elim)) fun _ _ h' => h'.elim))
end
theorem forIn_yields {α β : Type} {f : α → β → Sem (ForInStep β)} (g : β → α → β) : ∀ (l : List α) (c : β), (∀ x ∈ l, ∀ c, f x c = pure (.yield (g c x))) → forIn l c f = pure (l.foldl g c)
  | [], _, _ => rfl
  | x :: l, c, h => by
    rw [List.forIn_cons, h x List.mem_cons_self, pure_bind]
    exact forIn_yields g l (g c x) fun y hy => h y (List.mem_cons_of_mem _ hy)
def clAdd (env : Env) (cs : List (Str × Addr)) (y : Str × NameKind) : List (Str × Addr) := if (y.2 == NameKind.free) = true then (y.1, (env.cells.lookup y.1).getD 0) :: cs else cs
def clOf (scope : Scope) (env : Env) : List (Str × Addr) := scope.names.foldl (clAdd env) []
def HasFree (scope : Scope) (env : Env) : Prop := ∀ y ∈ scope.names, y.2 = .free → ∃ c, env.cells.lookup y.1 = some c
theorem closure_ok {scope : Scope} {env : Env} (h : HasFree scope env) : closureFor scope env = pure (clOf scope env) := by
  simp only [closureFor]
  rw [forIn_yields (clAdd env) scope.names [] (fun x hx c => by
    obtain ⟨n, k⟩ := x
    by_cases hk : (k == NameKind.free) = true
    · obtain ⟨a, ha⟩ := h (n, k) hx (by simpa using hk)
      have ha' : env.cells.lookup n = some a := ha
      unfold clAdd cellOf
      simp only [hk, if_true, ha', Option.getD_some, pure_bind]
    · unfold clAdd
      have hk' : (k == NameKind.free) = false := by simpa using hk
      simp only [hk', Bool.false_eq_true, if_false])]
  rfl
theorem clFold_mem {env : Env} : ∀ (l : List (Str × NameKind)) (cs : List (Str × Addr)) (p : Str × Addr), (∀ y ∈ l, y.2 = .free → ∃ c, env.cells.lookup y.1 = some c) → (∀ q ∈ cs, env.cells.lookup q.1 = some q.2) → p ∈ l.foldl (clAdd env) cs → env.cells.lookup p.1 = some p.2
  | [], cs, p, _, hc, hp => hc p hp
  | y :: l, cs, p, h, hc, hp => by
    refine clFold_mem l (clAdd env cs y) p (fun z hz => h z (List.mem_cons_of_mem _ hz)) (fun q hq => ?_) hp
    unfold clAdd at hq
    by_cases hk : (y.2 == NameKind.free) = true
    · rw [if_pos hk] at hq
      rcases List.mem_cons.mp hq with e | hq
      · obtain ⟨c, hcc⟩ := h y List.mem_cons_self (by simpa using hk)
        subst e
        show env.cells.lookup y.1 = some ((env.cells.lookup y.1).getD 0)
        rw [hcc]; rfl
      · exact hc q hq
    · rw [if_neg hk] at hq
      exact hc q hq
theorem clFold_has {env : Env} {n : Str} : ∀ (l : List (Str × NameKind)) (cs : List (Str × Addr)), ((n, NameKind.free) ∈ l ∨ ∃ c, (n, c) ∈ cs) → ∃ c, (n, c) ∈ l.foldl (clAdd env) cs
  | [], cs, h => by
    rcases h with h | h
    · cases h
    · exact h
  | y :: l, cs, h => by
    refine clFold_has l (clAdd env cs y) ?_
    unfold clAdd
    rcases h with h | ⟨c, h⟩
    · rcases List.mem_cons.mp h with e | h
      · subst e
        exact .inr ⟨(env.cells.lookup n).getD 0, show (n, (env.cells.lookup n).getD 0) ∈ (n, (env.cells.lookup n).getD 0) :: cs from List.mem_cons_self⟩
      · exact .inl h
    · refine .inr ⟨c, ?_⟩
      split
      · exact List.mem_cons_of_mem _ h
      · exact h
theorem lookup_of_mem {β : Type} {n : Str} : ∀ {l : List (Str × β)}, (∃ c, (n, c) ∈ l) → ∃ c, l.lookup n = some c
  | [], ⟨_, h⟩ => by cases h
  | (m, d) :: l, ⟨c, h⟩ => by
    rw [List.lookup_cons]
    cases e : n == m with
    | true => exact ⟨d, rfl⟩
    | false =>
      rcases List.mem_cons.mp h with z | z
      · cases z; simp at e
      · exact lookup_of_mem ⟨c, z⟩
theorem clOf_sub {scope : Scope} {env : Env} (h : HasFree scope env) {n : Str} {c : Addr} (e : (clOf scope env).lookup n = some c) : env.cells.lookup n = some c :=
  clFold_mem scope.names [] (n, c) h (fun _ hq => by cases hq) (PySem.mem_of_lookup e)
theorem clOf_has {scope : Scope} {env : Env} {n : Str} (h : scope.names.lookup n = some .free) : ∃ c, (clOf scope env).lookup n = some c :=
  lookup_of_mem (clFold_has scope.names [] (.inl (PySem.mem_of_lookup h)))
theorem relabel_kind {env : Env} : ∀ {names : List (Str × NameKind)} {x : Str} {k : NameKind},
    (names.map fun (n, k) => if (k == NameKind.free && env.scope.kind == .function && env.kindOf n == some .cell) then (n, NameKind.cell) else (n, k)).lookup x = some k →
    names.lookup x = some k ∨ (names.lookup x = some .free ∧ k = .cell)
  | [], _, _, h => by simp at h
  | (n, j) :: r, x, k, h => by
    have ih := @relabel_kind env r x k
    rw [List.map_cons] at h
    cases hx : x == n with
    | true =>
      rw [List.lookup_cons, hx]
      by_cases hc : (j == NameKind.free && env.scope.kind == .function && env.kindOf n == some .cell) = true
      · simp only [hc, if_true, List.lookup_cons, hx] at h
        have hj : j = NameKind.free := by
          rw [Bool.and_eq_true, Bool.and_eq_true] at hc
          simpa using hc.1.1
        exact .inr ⟨by rw [hj], (Option.some.inj h).symm⟩
      · have hc' := Bool.eq_false_iff.mpr hc
        simp only [hc', Bool.false_eq_true, if_false, List.lookup_cons, hx] at h
        exact .inl h
    | false =>
      rw [List.lookup_cons, hx]
      by_cases hc : (j == NameKind.free && env.scope.kind == .function && env.kindOf n == some .cell) = true
      · simp only [hc, if_true, List.lookup_cons, hx] at h
        exact ih h
      · have hc' := Bool.eq_false_iff.mpr hc
        simp only [hc', Bool.false_eq_true, if_false, List.lookup_cons, hx] at h
        exact ih h
theorem relabel_free {env : Env} : ∀ {names : List (Str × NameKind)} {x : Str}, names.lookup x = some .free →
    (names.map fun (n, k) => if (k == NameKind.free && env.scope.kind == .function && env.kindOf n == some .cell) then (n, NameKind.cell) else (n, k)).lookup x = some .free ∨
    (names.map fun (n, k) => if (k == NameKind.free && env.scope.kind == .function && env.kindOf n == some .cell) then (n, NameKind.cell) else (n, k)).lookup x = some .cell
  | [], _, h => by simp at h
  | (n, j) :: r, x, h => by
    have ih := @relabel_free env r x
    rw [List.map_cons]
    cases hx : x == n with
    | true =>
      rw [List.lookup_cons, hx] at h
      have hj : j = NameKind.free := Option.some.inj h
      subst hj
      by_cases hc : (NameKind.free == NameKind.free && env.scope.kind == .function && env.kindOf n == some .cell) = true
      · simp only [hc, if_true, List.lookup_cons, hx]
        exact .inr trivial
      · have hc' := Bool.eq_false_iff.mpr hc
        simp only [hc', Bool.false_eq_true, if_false, List.lookup_cons, hx]
        exact .inl trivial
    | false =>
      rw [List.lookup_cons, hx] at h
      by_cases hc : (j == NameKind.free && env.scope.kind == .function && env.kindOf n == some .cell) = true
      · simp only [hc, if_true, List.lookup_cons, hx]
        exact ih h
      · have hc' := Bool.eq_false_iff.mpr hc
        simp only [hc', Bool.false_eq_true, if_false, List.lookup_cons, hx]
        exact ih h
def cxC (X : Cx) (scope : Scope) (C : Addr) (N : List Str) (s0 : Shared) (H0 : Hp) (ex : List Addr) : Cx :=
  { X with N := N, s₀ := s0, H₀ := H0, env := compEnvC scope (clOf scope X.env) C X.env, outer := X.stack, stack := X.stack, ex := ex, fn := fun _ => false, pn := [], xe := fun _ _ => False }
def sgC (n : Nat) (fs : List (Nat × Str)) (σ : St) : St := List.replicate n none ++ fs.map fun p => (σ[p.1]?).join
def FsOk (N : List Str) (scope : Scope) : List (Nat × Str) → Prop
  | [] => True
  | (j, x) :: r => N[j]? = some x ∧ scope.names.lookup x = some .free ∧ FsOk N scope r
theorem FsOk.mem {N : List Str} {scope : Scope} : ∀ {fs : List (Nat × Str)}, FsOk N scope fs → ∀ p ∈ fs, N[p.1]? = some p.2 ∧ scope.names.lookup p.2 = some .free
  | [], _, _, h => by cases h
  | (j, x) :: r, ⟨h1, h2, h3⟩, p, hp => by
    rcases List.mem_cons.mp hp with e | hp
    · subst e; exact ⟨h1, h2⟩
    · exact FsOk.mem h3 p hp
structure CScope (X : Cx) (scope : Scope) (ts : List Str) (fs : List (Nat × Str)) : Prop where
  kind : scope.kind = .function
  nocell : ∀ y ∈ scope.names, y.2 ≠ .cell
  locs : ∀ y ∈ scope.names, y.2 = .local → scope.names.lookup y.1 = some .local
  frees : ∀ y ∈ scope.names, y.2 = .free → X.env.kindOf y.1 = some .cell ∨ X.env.kindOf y.1 = some .free
  fs : FsOk X.N scope fs
section
variable {X : Cx} {scope : Scope} {ts : List Str} {fs : List (Nat × Str)} {pins : List (Addr × Obj)} {σ : St} {H : Hp} {s : Shared}
theorem CScope.has (S : CScope X scope ts fs) (ok : X.Ok) : HasFree scope X.env := fun y hy hk => ok.has y.1 (S.frees y hy hk)
theorem fp_stack (I : Inv X pins σ H s) {b : Addr} (f : FpOk X pins H b) : b ∉ frs X.stack := fun z =>
  (List.mem_cons.mp (I.stkSub b z)).elim f.2.1 f.2.2.1
theorem ok_comp (S : CScope X scope ts fs) (I : Inv X pins σ H s) {fp : List Addr} (hf : ∀ b ∈ fp, FpOk X pins H b) (ho : ∀ b ∈ fp, b < s.heap.objs.size) {C : Addr} (hC : s.heap.objs.size ≤ C) (N : List Str) : (cxC X scope C N s H fp).Ok where
  mod := I.ok.mod
  kind := S.kind
  glob := I.ok.glob
  blt := I.ok.blt
  above := hC
  inj := fun x y c h1 h2 => I.ok.inj x y c (clOf_sub (S.has I.ok) h1) (clOf_sub (S.has I.ok) h2)
  has := fun x hx => by
    have hx' : (relabel scope X.env).names.lookup x = some .cell ∨ (relabel scope X.env).names.lookup x = some .free := hx
    rcases hx' with h | h
    · rcases relabel_kind h with h | ⟨h, _⟩
      · exact absurd rfl (S.nocell _ (PySem.mem_of_lookup h))
      · exact clOf_has h
    · rcases relabel_kind h with h | ⟨h, _⟩
      · exact clOf_has h
      · exact clOf_has h
  cab := fun x c h => absurd (show false = true from h) Bool.false_ne_true
  hd := I.ok.hd
  frames := I.ok.frames
  stk := .inl rfl
  exf := fun b hb => ⟨Nat.ne_of_lt (Nat.lt_of_lt_of_le (ho b hb) hC), fun x c e => (hf b hb).2.2.2.2.1 x c (clOf_sub (S.has I.ok) e)⟩
  bs := I.bs
  bsz := Nat.le_trans I.ok.bsz I.sz
  noex := fun b o e hb => by
    rcases (hf b hb).2.2.2.1 with z | z
    · exact I.ok.noex b o e z
    · exact absurd (Nat.lt_of_lt_of_le (Heap.lt_size e) (Nat.le_trans I.ok.bsz z)) (Nat.lt_irrefl _)
  exfs := fun b hb => fp_stack I (hf b hb)
  funs := I.stack
  frf := I.stkFree
theorem sgC_get {n : Nat} {σ : St} {i : Nat} {v : V} (h : (sgC n fs σ)[i]? = some (some v)) : n ≤ i ∧ ∃ p, fs[i - n]? = some p ∧ σ[p.1]? = some (some v) := by
  unfold sgC at h
  by_cases hi : i < n
  · rw [List.getElem?_append_left (by simpa using hi), List.getElem?_replicate, if_pos hi] at h
    cases h
  · have hi' : n ≤ i := Nat.le_of_not_lt hi
    rw [List.getElem?_append_right (by simpa using hi'), List.length_replicate, List.getElem?_map] at h
    refine ⟨hi', ?_⟩
    cases e : fs[i - n]? with
    | none => rw [e] at h; cases h
    | some p =>
      rw [e] at h
      refine ⟨p, rfl, ?_⟩
      have h' : (σ[p.1]?).join = some v := Option.some.inj h
      cases q : σ[p.1]? with
      | none => rw [q] at h'; cases h'
      | some z => rw [q] at h'; exact congrArg some h'
theorem inv_comp (S : CScope X scope ts fs) (I : Inv X pins σ H s) {fp : List Addr} (hf : ∀ b ∈ fp, FpOk X pins H b) (ho : ∀ b ∈ fp, b < s.heap.objs.size) {h₁ : Heap} {tk : Nat} {m : Str → Option Value}
    (hn : h₁.Ns s.heap.objs.size m) (k : ∀ b o, s.heap.get? b = some o → h₁.get? b = some o) :
    Inv (cxC X scope s.heap.objs.size (ts ++ fs.map (·.2)) s H fp) [] (sgC ts.length fs σ) H { s with heap := h₁, toks := tk } := by
  have hh := S.has I.ok
  refine ⟨ok_comp S I hf ho (Nat.le_refl _) _, rfl, I.bare, Un.kept k, ⟨m, hn, fun i x v h1 h2 h3 => ?_⟩, fun x c e => ?_, I.hok.fresh (Nat.le_refl _), fun x c e => ?_, fun p hp => absurd (show p ∈ ([] : List (Addr × Obj)) from hp) (by simp), I.hok.kept k, ?_⟩
  · obtain ⟨hi, p, hp, hv⟩ := sgC_get h2
    have h1' : (ts ++ fs.map (·.2))[i]? = some x := h1
    rw [List.getElem?_append_right hi, List.getElem?_map, hp] at h1'
    have hx : p.2 = x := Option.some.inj h1'
    obtain ⟨hN, hl⟩ := S.fs.mem p (List.mem_of_getElem? hp)
    rw [hx] at hN hl
    have hk : X.env.kindOf x = some .cell ∨ X.env.kindOf x = some .free := S.frees (x, .free) (PySem.mem_of_lookup hl) rfl
    obtain ⟨m0, _, hm0⟩ := I.loc
    obtain ⟨u, r, l⟩ := hm0 p.1 x v hN hv (.inr hk)
    refine ⟨u, r, ?_⟩
    rcases l with ⟨z, _⟩ | ⟨_, c, hc, hcell⟩
    · rcases hk with hk | hk <;> · rw [hk] at z; cases z
    · refine .inr ⟨(relabel_free hl).symm, c, ?_, ?_⟩
      · obtain ⟨c', hc'⟩ := clOf_has (env := X.env) hl
        have e := clOf_sub hh hc'
        rw [hc] at e
        cases e
        exact hc'
      · obtain ⟨o, ho, hd⟩ := hcell
        exact ⟨o, k _ _ ho, hd⟩
  · obtain ⟨v, o, ho, hd⟩ := I.cell x c (clOf_sub hh e)
    exact ⟨v, o, k _ _ ho, hd⟩
  · exact I.freeC x c (clOf_sub hh e)
  · show (sgC ts.length fs σ).length = (ts ++ fs.map (·.2)).length
    unfold sgC
    rw [List.length_append, List.length_append, List.length_replicate, List.length_map, List.length_map]
end
end L2
namespace L2
open PySem PySem.Spec PyProof.Rows
def Wk (n : Nat) (σ σ2 : St) : Prop := σ2.length = σ.length ∧ σ2.drop n = σ.drop n
def CompW (n : Nat) (fs : List (Nat × Str)) (J : It) (g : TG) (tc : TT) (te : TE) (σ : St) (H1 : Hp) (Q : VK) (l : Addr) : Prop :=
  ∃ W : Nat → Nat → List V → Hp → Prop, (∃ m, W 0 m [] (upd H1 l (.lst []))) ∧ ∀ i m acc H, W i m acc H → H l = some (.lst acc) ∧
    ((J.stop i H ∧ Q (.ref l) H) ∨ (acc.length < sizeLine ∧ J.go i H ∧ ∀ x H', J.yld i H x H' → g x (sgC n fs σ) H' fun σ2 H2 => Wk n (sgC n fs σ) σ2 ∧ tc σ2 H2 fun b H3 =>
      if b = true then te σ2 H3 fun y H4 => H4 l = some (.lst acc) ∧ ∃ m', m' < m ∧ W (i + 1) m' (acc ++ [y]) (upd H4 l (.lst (acc ++ [y]))) else ∃ m', m' < m ∧ W (i + 1) m' acc H3))
def tComp (n : Nat) (fs : List (Nat × Str)) (wi : TI) (g : TG) (tc : TT) (te : TE) : TE := fun σ H Q => wi σ H fun J H1 => ∀ l, H1 l = none → CompW n fs J g tc te σ H1 Q l
def PTs (X : Cx) (ifs : List Expr) (t : TT) : Prop :=
  ∀ (pins : List (Addr × Obj)) (s : Shared) (σ : St) (H : Hp) (Q : Bool → Hp → Prop), Inv X pins σ H s → t σ H Q →
    wpAny (model X.prog X.w) X.A (forIn ifs true fun c r => if r = true then do let ok ← isTrue c X.env (eval c X.env); pure (ForInStep.yield ok) else pure (ForInStep.yield r)) (TP X pins σ Q) X.xe s
def tYes : TT := fun _ H Q => Q true H
theorem pts_nil {X : Cx} : PTs X [] tYes := fun _ _ _ H _ I h => wpAny_tests_nil ⟨H, I, h⟩
section
variable {X : Cx} {scope : Scope} {ts : List Str} {fs : List (Nat × Str)} {pins : List (Addr × Obj)} {σ : St} {elt target iter : Expr} {ifs : List Expr} {pos : Pos} {g : TG} {tc : TT} {te : TE} {wi : TI}
theorem wk_weak {X' : Cx} {pins : List (Addr × Obj)} {n : Nat} {σ σ2 : St} {H : Hp} {s : Shared} (I : Inv X' pins σ2 H s) (w : Wk n (sgC n fs σ) σ2) : Inv X' pins (sgC n fs σ) H s := by
  refine I.weak w.1.symm fun i v h => ?_
  obtain ⟨hi, _⟩ := sgC_get h
  have e : (σ2.drop n)[i - n]? = ((sgC n fs σ).drop n)[i - n]? := by rw [w.2]
  rw [List.getElem?_drop, List.getElem?_drop, Nat.add_sub_cancel' hi] at e
  rw [e]; exact h
theorem comp_core {H1 : Hp} {s2 : Shared} {it : Addr} {fp : List Addr} {tn : Nat → Heap → Prop} {J : It} {Q : VK} {E : Value → Shared → Prop} {RR : Value → Addr → Result → Shared → Prop} (hc : X.calm = true) (S : CScope X scope ts fs)
    (hg : ∀ C s0 H0 ex, PG (cxC X scope C (ts ++ fs.map (·.2)) s0 H0 ex) target g) (ht : ∀ C s0 H0 ex, PTs (cxC X scope C (ts ++ fs.map (·.2)) s0 H0 ex) ifs tc) (he : ∀ C s0 H0 ex, PE (cxC X scope C (ts ++ fs.map (·.2)) s0 H0 ex) elt te)
    (I : Inv X pins σ H1 s2) (T : Turn X.prog X.w X.K target J fp it tn) (t0 : tn 0 s2.heap) (hf : ∀ b ∈ fp, FpOk X pins H1 b)
    (R : ∀ l, H1 l = none → CompW ts.length fs J g tc te σ H1 Q l)
    (hRR : ∀ l C s' H' m, Inv X pins σ H' s' → Q (.ref l) H' → s'.heap.Ns C m → FpOk X pins H' C → RR (.ref l) C (.ok .next) s') :
    wpAny (model X.prog X.w) X.A (newList []) (fun acc s₃ => wpAny (model X.prog X.w) X.A (newFunctionEnv scope X.env.globals (clOf scope X.env) [] X.env.qual none .none (some X.env)) (fun cenv s₄ =>
      codeAny (model X.prog X.w) X.A (.compStart (.ListComp elt [⟨target, iter, ifs, 0⟩] scope pos) 0 (.ref it) acc { cenv with scope := relabel scope X.env }) (RR acc cenv.locals) s₄) E s₃) E s2 := by
  refine wpAny_newObj_type (wpAny_newFunctionEnv S.nocell (by intro y hy; simp at hy) (fun h₁ hns hsb => ?_) S.kind)
  dsimp only at hns hsb ⊢
  have ho2 : ∀ b ∈ fp, b < s2.heap.objs.size := fun b hb => by
    obtain ⟨o, e, _⟩ := T.obj _ _ t0 b hb
    exact Heap.lt_size e
  have I3 : Inv X pins σ (upd H1 s2.heap.objs.size (.lst [])) { s2 with heap := s2.heap.push { cls := .type "list", dict := none, data := .seq ([] : List Value).toArray }, toks := s2.toks } := I.lnew (its := []) (t' := s2.toks) .nil (Nat.zero_le _)
  obtain ⟨W, ⟨m0, w0⟩, step⟩ := R s2.heap.objs.size I.fresh
  have hf3 : ∀ b ∈ fp, FpOk X pins (upd H1 s2.heap.objs.size (.lst [])) b := fun b hb => ⟨by rw [upd_ne (Nat.ne_of_lt (ho2 b hb))]; exact (hf b hb).1, (hf b hb).2⟩
  have k : ∀ b o, (s2.heap.push { cls := .type "list", dict := none, data := .seq ([] : List Value).toArray }).get? b = some o → h₁.get? b = some o := fun b o e =>
    hsb.extBut b o (Nat.ne_of_lt (Heap.lt_size e)) (Heap.get?_push_of_some _ e)
  have ho3 : ∀ b ∈ fp, b < (s2.heap.push { cls := .type "list", dict := none, data := .seq ([] : List Value).toArray }).objs.size := fun b hb => by
    rw [Heap.size_push]; exact Nat.lt_succ_of_lt (ho2 b hb)
  have I4 := inv_comp (tk := s2.toks + ([] : List (Str × Value)).length) S I3 hf3 ho3 hns k
  have st4 : tn 0 h₁ := T.keep _ _ _ t0 fun b hb o e => k b o (Heap.get?_push_of_some _ e)
  generalize hX : cxC X scope (s2.heap.push { cls := .type "list", dict := none, data := .seq ([] : List Value).toArray }).objs.size (ts ++ fs.map (·.2)) { s2 with heap := s2.heap.push { cls := .type "list", dict := none, data := .seq ([] : List Value).toArray }, toks := s2.toks } (upd H1 s2.heap.objs.size (.lst [])) fp = X' at I4
  have fpk : ∀ {H' : Hp}, (∀ b ∈ fp, H' b = none) → ∀ b ∈ fp, FpOk X' [] H' b := fun {H'} hn b hb => by
    subst hX
    refine ⟨hn b hb, Nat.ne_of_lt (ho3 b hb), fp_stack I3 (hf3 b hb), .inl hb, fun x c e => (hf3 b hb).2.2.2.2.1 x c (clOf_sub (S.has I.ok) e), fun p hp => absurd (show p ∈ ([] : List (Addr × Obj)) from hp) (by simp)⟩
  have hP : X'.prog = X.prog := by subst hX; rfl
  have hW : X'.w = X.w := by subst hX; rfl
  have hK : X'.K = X.K := by subst hX; rfl
  have hcalm : X'.calm = true := by subst hX; exact hc
  have hA : X'.A = X.A := by subst hX; rfl
  have hEnv : X'.env = compEnvC scope (clOf scope X.env) (s2.heap.push { cls := .type "list", dict := none, data := .seq ([] : List Value).toArray }).objs.size X.env := by subst hX; rfl
  have hxe : X'.xe = fun _ _ => False := by subst hX; rfl
  have hg' : PG X' target g := by subst hX; exact hg _ _ _ _
  have ht' : PTs X' ifs tc := by subst hX; exact ht _ _ _ _
  have he' : PE X' elt te := by subst hX; exact he _ _ _ _
  have back : ∀ {H' : Hp} {s' : Shared}, Inv X' [] (sgC ts.length fs σ) H' s' → Inv X pins σ H' s' ∧ (∃ m, s'.heap.Ns X'.env.locals m) ∧ FpOk X pins H' X'.env.locals := fun {H' s'} J' => by
    subst hX
    refine ⟨I3.call' (ch := fp) J'.os J'.base J'.hok J'.bare fun b hb => ⟨(hf3 b hb).2.2.2.1, (hf3 b hb).2.1, (hf3 b hb).2.2.2.2.1, (hf3 b hb).2.2.2.2.2⟩, ?_, I3.fpOk (Nat.le_refl _) J'.free⟩
    obtain ⟨m, hn, _⟩ := J'.loc
    exact ⟨m, hn⟩
  clear hX
  have loop : codeAny (model X.prog X.w) X.A (.compLoop (.ListComp elt [⟨target, iter, ifs, 0⟩] scope pos) 0 (.ref it) (.ref s2.heap.objs.size) X'.env) (RR (.ref s2.heap.objs.size) X'.env.locals)
      { s2 with heap := h₁, toks := s2.toks + ([] : List (Str × Value)).length } := by
    refine compLoop_own (fun n s' => ∃ i acc H', Inv X' [] (sgC ts.length fs σ) H' s' ∧ tn i s'.heap ∧ (∀ b ∈ fp, H' b = none) ∧ W i n acc H') ?_ m0 ⟨0, [], _, I4, st4, fun b hb => (hf3 b hb).1, w0⟩
    rintro n s5 ⟨i, acc, H5, I5, st5, fr5, w5⟩
    obtain ⟨hl, alt⟩ := step i n acc H5 w5
    rw [← hP, ← hW, ← hK] at T
    rcases alt with ⟨stop, q⟩ | ⟨hz, go, stp⟩
    · have d := T.done X' rfl rfl rfl hcalm i [] s5 _ H5 (fun _ _ => False) I5 (fpk fr5) st5 stop
      rw [hP, hW, hA] at d
      refine thn d fun r s6 ⟨hr, I6⟩ => ?_
      subst hr
      obtain ⟨b1, ⟨m, b2⟩, b3⟩ := back I6
      exact hRR _ _ s6 H5 m b1 q b2 b3
    · have d := T.item X' rfl rfl rfl hcalm i [] s5 _ H5 (fun _ _ => False) I5 (fpk fr5) st5 go
      rw [hP, hW, hA] at d
      refine thn d fun r s6 ⟨u, hr, h6⟩ => ?_
      subst hr
      refine thn h6 fun _ s7 ⟨x, H7, I7, r7, y7, st7, fr7⟩ => ?_
      have I7' := I7.pinned (fpk fr7) (T.obj _ _ st7)
      have a := hg' _ s7 _ H7 x u _ I7' r7 (stp x H7 y7)
      rw [hP, hW, hA, hxe] at a
      refine thn a fun _ s8 ⟨σ8, H8, I8, wk, q8⟩ => ?_
      have b := ht' _ s8 σ8 H8 _ I8 q8
      rw [hP, hW, hA, hxe] at b
      have again : ∀ {s9 : Shared} {H9 : Hp} {acc' : List V}, Inv X' ([] ++ pinsAt fp s7.heap) σ8 H9 s9 → (∃ m', m' < n ∧ W (i + 1) m' acc' H9) → ∃ m, m < n ∧ ∃ i acc H', Inv X' [] (sgC ts.length fs σ) H' s9 ∧ tn i s9.heap ∧ (∀ b ∈ fp, H' b = none) ∧ W i m acc H' := fun {s9 H9 acc'} I9 ⟨m', hm, w9⟩ => by
        refine ⟨m', hm, i + 1, acc', H9, wk_weak I9.unpinned wk, T.keep _ _ _ st7 fun b hb o e => (I9.pin (b, o) (List.mem_append_right _ (List.mem_append_right _ (mem_pinsAt hb e)))).1, fun b hb => ?_, w9⟩
        obtain ⟨o, e, d⟩ := T.obj _ _ st7 b hb
        exact (I9.pin (b, o) (List.mem_append_right _ (List.mem_append_right _ (mem_pinsAt hb e)))).2.1
      refine thn b fun ok s9 ⟨H9, I9, q9⟩ => ?_
      cases ok with
      | false =>
        rw [if_neg Bool.false_ne_true] at q9 ⊢
        exact again I9 q9
      | true =>
        rw [if_pos rfl] at q9 ⊢
        have c := he' _ s9 σ8 H9 _ I9 q9
        rw [hP, hW, hA, hxe] at c
        refine thn c fun y s10 ⟨v, H10, I10, r10, hl10, q10⟩ => ?_
        have d := mt_append (X := X') _ s10 σ8 H10 (.ref s2.heap.objs.size) [v] (.ref s2.heap.objs.size) [y] (fun v' H' => H' = upd H10 s2.heap.objs.size (.lst (acc ++ [v]))) I10 rfl (.cons r10 .nil) ⟨_, acc, v, rfl, rfl, hl10, hz, rfl⟩
        rw [hP, hW, hA, hxe] at d
        refine thn d fun _ s11 ⟨_, H11, I11, _, e11⟩ => ?_
        subst e11
        exact again I11 q10
  rw [hEnv] at loop
  exact codeAny_compStart_list loop (T.self _ 0 _ _ _ st4 loop)
theorem pe_comp {gF : Addr → Shared → Hp → List Addr → TG} {tF : Addr → Shared → Hp → List Addr → TT} {eF : Addr → Shared → Hp → List Addr → TE} (hc : X.calm = true) (S : CScope X scope ts fs) (hi : PI X target iter wi)
    (hg : ∀ C s0 H0 ex, PG (cxC X scope C (ts ++ fs.map (·.2)) s0 H0 ex) target (gF C s0 H0 ex)) (ht : ∀ C s0 H0 ex, PTs (cxC X scope C (ts ++ fs.map (·.2)) s0 H0 ex) ifs (tF C s0 H0 ex)) (he : ∀ C s0 H0 ex, PE (cxC X scope C (ts ++ fs.map (·.2)) s0 H0 ex) elt (eF C s0 H0 ex))
    (eg : ∀ C s0 H0 ex, gF C s0 H0 ex = gF 0 X.s₀ X.H₀ [] := by intros; rfl) (et : ∀ C s0 H0 ex, tF C s0 H0 ex = tF 0 X.s₀ X.H₀ [] := by intros; rfl) (ee : ∀ C s0 H0 ex, eF C s0 H0 ex = eF 0 X.s₀ X.H₀ [] := by intros; rfl)
    (hs : ∀ x, foldedSetIterable iter X.env x = pure x := by intro _; rfl) : PE X (.ListComp elt [⟨target, iter, ifs, 0⟩] scope pos) (tComp ts.length fs wi (gF 0 X.s₀ X.H₀ []) (tF 0 X.s₀ X.H₀ []) (eF 0 X.s₀ X.H₀ [])) := by
  intro pins s σ H Q I h
  rw [eval_ListComp]
  refine wpAny_comprehension_free (use := none) rfl hs (closure_ok (S.has I.ok)) S.kind S.locs (thn (hi pins s σ H _ I h) fun v s1 h1 => thn h1 fun itv s2 h2 => ?_)
  obtain ⟨it, fp, tn, J, H2, e, I2, T, st2, f2, R⟩ := h2
  subst e
  refine comp_core (RR := fun acc C => compPost (model X.prog X.w) X.A X.xe none (EP X pins σ Q) acc C) hc S (fun C s0 H0 ex => by rw [← eg C s0 H0 ex]; exact hg C s0 H0 ex) (fun C s0 H0 ex => by rw [← et C s0 H0 ex]; exact ht C s0 H0 ex) (fun C s0 H0 ex => by rw [← ee C s0 H0 ex]; exact he C s0 H0 ex) I2 T st2 f2 R fun l C s' H' m I' q hn f => ?_
  refine ⟨m, hn, fun h' hs' => ⟨.ref l, H', ?_, rfl, q⟩⟩
  obtain ⟨f0, f1, f2, f3, f4, f5⟩ := f
  exact I'.turned (t' := s'.toks) (fun b o hb e => hs'.extBut b o hb e) f0 f1 f3 f4 f5
theorem ps_setC {gF : Addr → Shared → Hp → List Addr → TG} {tF : Addr → Shared → Hp → List Addr → TT} {eF : Addr → Shared → Hp → List Addr → TE} {i : Nat} {y : Str} {py spos : Pos} (hN : X.N.Nodup) (hy : X.N[i]? = some y) (hl : Loc X.env.scope y) (hc : X.calm = true) (S : CScope X scope ts fs) (hi : PI X target iter wi)
    (hg : ∀ C s0 H0 ex, PG (cxC X scope C (ts ++ fs.map (·.2)) s0 H0 ex) target (gF C s0 H0 ex)) (ht : ∀ C s0 H0 ex, PTs (cxC X scope C (ts ++ fs.map (·.2)) s0 H0 ex) ifs (tF C s0 H0 ex)) (he : ∀ C s0 H0 ex, PE (cxC X scope C (ts ++ fs.map (·.2)) s0 H0 ex) elt (eF C s0 H0 ex))
    (eg : ∀ C s0 H0 ex, gF C s0 H0 ex = gF 0 X.s₀ X.H₀ [] := by intros; rfl) (et : ∀ C s0 H0 ex, tF C s0 H0 ex = tF 0 X.s₀ X.H₀ [] := by intros; rfl) (ee : ∀ C s0 H0 ex, eF C s0 H0 ex = eF 0 X.s₀ X.H₀ [] := by intros; rfl)
    (hs : ∀ x, foldedSetIterable iter X.env x = pure x := by intro _; rfl) (hsw : swapsWith (.ListComp elt [⟨target, iter, ifs, 0⟩] scope pos) (some (.Name y py)) spos.line X.env = pure true := by rfl)
    (hf : X.fn y = true ∨ X.env.scope.names.lookup y = some .local := by first | exact .inl rfl | exact .inr rfl | assumption) :
    PS X (.Assign [.Name y py] (.ListComp elt [⟨target, iter, ifs, 0⟩] scope pos) spos) (tAsg (tComp ts.length fs wi (gF 0 X.s₀ X.H₀ []) (tF 0 X.s₀ X.H₀ []) (eF 0 X.s₀ X.H₀ [])) (gName i)) := by
  intro pins s σ H D I h
  rw [exec_Assign_Name_used _ _ _ _ hsw]
  refine wpAny_bind (wpAny_standAt (wpAny_bind ?_))
  show wpAny _ X.A (do let _ ← comprehension (.ListComp elt [⟨target, iter, ifs, 0⟩] scope pos) scope X.env _ (newList []) false (eval iter X.env) (some (assign (.Name y py) X.env))) _ _ s
  refine wpAny_bind (wpAny_mono (wpAny_comprehension_free (use := some (assign (.Name y py) X.env)) (Q := fun _ s' => SP X pins D .next s') rfl hs (closure_ok (S.has I.ok)) S.kind S.locs
    (thn (hi pins s σ H _ I h) fun v s1 h1 => thn h1 fun itv s2 h2 => ?_)) (fun _ s' hq => wpAny_pure (wpAny_pure hq)) fun _ _ e => e)
  obtain ⟨it, fp, tn, J, H2, e, I2, T, st2, f2, R⟩ := h2
  subst e
  refine comp_core (RR := fun acc C => compPost (model X.prog X.w) X.A X.xe (some (assign (.Name y py) X.env)) (fun _ s' => SP X pins D .next s') acc C) hc S (fun C s0 H0 ex => by rw [← eg C s0 H0 ex]; exact hg C s0 H0 ex) (fun C s0 H0 ex => by rw [← et C s0 H0 ex]; exact ht C s0 H0 ex) (fun C s0 H0 ex => by rw [← ee C s0 H0 ex]; exact he C s0 H0 ex) I2 T st2 f2 R fun l C s' H' m I' q hn f => ?_
  obtain ⟨f0, f1, f2, f3, f4, f5⟩ := f
  show wpAny _ X.A (assign (.Name y py) X.env (.ref l)) _ _ _
  refine wpAny_assign_Name (store_ok2 (v := .ref l) I' hN hy hl rfl (fun s'' I'' ⟨a, hsb, ha⟩ => ?_) hf)
  have hne : C ≠ a := by
    rcases ha with z | z
    · rw [z]; exact f1
    · exact fun e => f4 _ _ z e.symm
  refine ⟨m, hn.sameBut hsb hne, fun h' hs' => ⟨σ.set i (some (.ref l)), H', ?_, q⟩⟩
  exact I''.turned (t' := s''.toks) (fun b o hb e => hs'.extBut b o hb e) f0 f1 f3 f4 f5
end
end L2
namespace L2
open PySem PySem.Spec PyProof.Rows PySem.SeqAt
open AutoSeq1 (wpAny_loadPart')
open MeetsSeq MeetsSeq2 MeetsSeq3 SeqRoads2
section
variable {X : Cx} {pins : List (Addr × Obj)} {σ : St} {H : Hp} {s : Shared}
variable {o e : Expr} {es : List Expr} {to : TE} {t : TA} {name : Str} {apos cpos : Pos} {T id : String} {r : V → List V → Hp → VK → Prop}
end
section
variable {prog : Program} {w : World} {A : Around} {E : Value → Shared → Prop} {s : Shared}
theorem collect_tup {l : Addr} {vs : List Value} {Q : List Value → Shared → Prop} (hl : IsTup s.heap l vs.toArray)
    (h : Q vs { s with heap := (s.heap.push (seqObj "list" #[] 0)).update s.heap.objs.size (Obj.mapSeq (· ++ vs.toArray)) }) (hsz : vs.length ≤ sizeLine) :
    wpAny (model prog w) A (collect (.ref l)) Q E s := by
  obtain ⟨o, ho, hc, n, hd⟩ := id hl
  unfold collect
  refine wpAny_bind (wpAny_runValue (codeAny_builtin entry_proto_collect' ?_))
  show wpAny _ _ (do again (.builtin "list.__iadd__" ⟨[← newList [], .ref l], []⟩)) _ _ s
  refine wpAny_bind (wpAny_newList (wpAny_pure ⟨Code.quiet_builtin _ (by decide +kernel), codeAny_builtin entry_list_iadd' ?_⟩))
  show wpAny _ _ (Builtin.List.listExtendWith (.ref s.heap.objs.size) (.ref l) (.ref s.heap.objs.size)) _ _ { s with heap := s.heap.push (seqObj "list" #[] 0) }
  unfold Builtin.List.listExtendWith
  have ho' : (s.heap.push (seqObj "list" #[] 0)).get? l = some o := Heap.get?_push_of_some _ ho
  refine wpAny_bind (wpAny_typeOf (T := "tuple") ⟨o, ho', hc⟩ ?_)
  have ht : (Value.type "tuple" == Value.type "tuple") = true := by rfl
  rw [if_pos (by rw [ht]; simp)]
  refine wpAny_bind (listItems_at ho' hd ?_)
  refine wpAny_bind (listItems_at (xs := #[]) (n := 0) (Heap.get?_push_size _ rfl) rfl ?_)
  rw [if_neg (by simp)]
  refine wpAny_bind (listUpdate_at (xs := #[]) (n := 0) (Heap.get?_push_size _ rfl) rfl ?_ (Nat.zero_le _) (by show (#[] ++ vs.toArray).size ≤ sizeLine + 1; simp only [Array.size_append, List.size_toArray, List.length_nil]; omega))
  refine wpAny_pure ?_
  show wpAny (model prog w) A (do
      let o ← load s.heap.objs.size
      match o.data with
      | .seq xs _ => pure xs.toList
      | _ => unsupported "internal:collect") Q E { s with heap := (s.heap.push (seqObj "list" #[] 0)).update s.heap.objs.size (Obj.mapSeq (· ++ vs.toArray)) }
  refine wpAny_bind (wpAny_load (get?_update_seq (Heap.get?_push_size _ rfl) _) ?_)
  show wpAny _ _ (pure ((#[] : Array Value) ++ vs.toArray).toList) Q E _
  rw [show ((#[] : Array Value) ++ vs.toArray).toList = vs by simp]
  exact wpAny_pure h
theorem sorted_tup {l : Addr} {vs : List Value} {ns : List Int} {Q : Value → Shared → Prop} (hl : IsTup s.heap l vs.toArray) (hI : IntsAre vs ns) (h64 : vs.length < 64)
    (h : ∀ (out : Array Value) (ns' : List Int), IntsAre out.toList ns' → ns'.Perm ns → ns'.Pairwise (· ≤ ·) → Q (.ref (s.heap.objs.size + 1)) { s with heap := sortedAll s.heap vs out }) :
    wpAny (model prog w) A (call (.builtin "sorted") [.ref l]) Q E s := by
  refine Calls.call_function_entry kind_sorted plain_sorted entry_sorted (args_sorted1 _) ?_
  unfold Builtin.«sorted»
  refine wpAny_bind (m := checkCount "sorted" 1 1 _) (wpAny_pure ?_)
  refine wpAny_bind (collect_tup hl ?_ (by rw [sizeLine_eq]; omega))
  refine wpAny_bind (wpAny_newList ?_)
  have hsz : ((s.heap.push (seqObj "list" #[] 0)).update s.heap.objs.size (Obj.mapSeq (· ++ vs.toArray))).objs.size = s.heap.objs.size + 1 := by
    rw [Heap.size_update, size_push']
  have hoL : (((s.heap.push (seqObj "list" #[] 0)).update s.heap.objs.size (Obj.mapSeq (· ++ vs.toArray))).push (seqObj "list" vs.toArray 0)).get? (s.heap.objs.size + 1) = some (seqObj "list" vs.toArray 0) := by
    rw [← hsz]; exact Heap.get?_push_size _ rfl
  show wpAny _ _ _ _ _ { s with heap := ((s.heap.push (seqObj "list" #[] 0)).update s.heap.objs.size (Obj.mapSeq (· ++ vs.toArray))).push (seqObj "list" vs.toArray 0) }
  rw [hsz]
  refine wpAny_bind (wpAny_holding (wpAny_call_entry slot_list_sort ⟨_, hoL, rfl⟩ entry_list_sort (list_sort_tree hoL hI h64 fun out ns' a1 a2 a3 => ⟨_, rfl, ?_⟩) (args_list_sort _)))
  exact wpAny_pure ⟨_, rfl, h out ns' a1 a2 a3⟩
end
section
variable {X : Cx}
theorem call_sorted : CallR X (.builtin "sorted") (fun xs H Q => ∃ (p : Addr) (ns : List Int), xs = [.ref p] ∧ (SqL X.K H p (ns.map V.int) ∨ SqT X.K H p (ns.map V.int)) ∧ ns.length < 64 ∧
    ∀ (l : Addr) (ns' : List Int), H l = none → ns'.Perm ns → ns'.Pairwise (· ≤ ·) → Q (.ref l) (upd H l (.lst (ns'.map V.int)))) := by
  intro pins s σ H xs us Q I r h
  obtain ⟨p, ns, rfl, hq, h64, q⟩ := h
  obtain ⟨u, rfl, ru⟩ := vals1 r
  cases ru
  have fin : ∀ (vs : List Value) (out : Array Value) (ns' : List Int), ns.length = vs.length → IntsAre out.toList ns' → ns'.Perm ns → ns'.Pairwise (· ≤ ·) → EP X pins σ Q (.ref (s.heap.objs.size + 1)) { s with heap := sortedAll s.heap vs out } := fun vs out ns' hl a1 a2 a3 => by
    obtain ⟨e, he⟩ := sortedAll_at s.heap vs out
    refine ⟨.ref (s.heap.objs.size + 1), _, I.laid (t' := s.toks) (o := .lst (ns'.map V.int)) (fun b ob z => sortedAll_old z) (Nat.le_succ _) ?_, rfl, q _ ns' (I.hok.fresh (Nat.le_succ _)) a2 a3⟩
    refine ⟨?_, out.toList, e, vals_ints a1, by simpa [seqObj] using he⟩
    rw [List.length_map, a2.length_eq, sizeLine_eq]
    omega
  rcases hq with hq | hq
  · obtain ⟨its, r', pl, hz⟩ := I.list hq
    have hl := r'.length
    rw [List.length_map] at hl
    exact sorted_ints pl.isList (intsAre_of r') (by omega) fun out ns' a1 a2 a3 => fin its out ns' hl a1 a2 a3
  · obtain ⟨its, r', pl, hz⟩ := I.tuple hq
    have hl := r'.length
    rw [List.length_map] at hl
    exact sorted_tup pl (intsAre_of r') (by omega) fun out ns' a1 a2 a3 => fin its out ns' hl a1 a2 a3
theorem call_range : CallR X (.type "range") (fun xs H Q => ∃ n : Int, xs = [.int n] ∧ ∀ p, H p = none → Q (.ref p) (upd H p (.rng 0 n))) := by
  intro pins s σ H xs us Q I r h
  obtain ⟨n, rfl, q⟩ := h
  obtain ⟨u, rfl, t, rfl⟩ := vals1 r
  refine call_range_1 ?_
  refine ⟨.ref s.heap.objs.size, _, I.laid (o := .rng 0 n) (fun b ob z => Heap.get?_push_of_some _ z) (Nat.le_refl _) ?_, rfl, q _ (I.hok.fresh (Nat.le_refl _))⟩
  exact ⟨_, _, _, Heap.get?_push_size _ rfl⟩
theorem vals_of_get : ∀ {xs : List V} {us : List Value}, xs.length = us.length → (∀ (i : Nat) (x : V) (u : Value), xs[i]? = some x → us[i]? = some u → RelV x u) → Vals xs us
  | [], [], _, _ => .nil
  | [], _ :: _, h, _ => by simp at h
  | _ :: _, [], h, _ => by simp at h
  | x :: xs, u :: us, h, f => .cons (f 0 x u rfl rfl) (vals_of_get (by simpa using h) fun i y v h1 h2 => f (i + 1) y v (by simpa using h1) (by simpa using h2))
theorem items_rng {a : Int} (n : Nat) (acc : Array Value) (h : ItemsOf (fun i v => ∃ t, v = .int (a + i * 1) t) acc n) : Vals ((List.range n).map fun i => V.int (a + (i : Nat))) acc.toList := by
  refine vals_of_get (by rw [List.length_map, List.length_range, Array.length_toList, h.1]) fun i x u h1 h2 => ?_
  obtain ⟨t, e⟩ := h.2 i u (by simpa using h2)
  rw [List.getElem?_map] at h1
  cases q : (List.range n)[i]? with
  | none => rw [q] at h1; cases h1
  | some j =>
    rw [q] at h1
    have e1 : V.int (a + (j : Nat)) = x := Option.some.inj h1
    have e2 : j = i := by
      have := List.getElem?_eq_some_iff.mp q
      obtain ⟨_, z⟩ := this
      rw [List.getElem_range] at z
      exact z.symm
    subst e1 e2
    exact ⟨t, by rw [e, Int.mul_one]⟩
theorem call_list_rng (hc : X.calm = true) : CallR X (.type "list") (fun xs H Q => ∃ (p : Addr) (lo hi : Int), xs = [.ref p] ∧ H p = some (.rng lo hi) ∧ (-(2 ^ 62) ≤ lo ∧ lo < 2 ^ 62 ∧ -(2 ^ 62) ≤ hi ∧ hi < 2 ^ 62) ∧ (hi - lo).toNat ≤ 1000 ∧
    ∀ l, H l = none → Q (.ref l) (upd H l (.lst ((List.range (hi - lo).toNat).map fun i => V.int (lo + (i : Nat)))))) := by
  intro pins s σ H xs us Q I r h
  obtain ⟨p, lo, hi, rfl, hp, ⟨h1, h2, h3, h4⟩, hz, q⟩ := h
  obtain ⟨u, rfl, ru⟩ := vals1 r
  cases ru
  obtain ⟨t, u, v, e⟩ := I.hok p _ hp
  refine call_list_range (n := (hi - lo).toNat) (I.ok.hd hc) e (small_one h1 h2 h3 h4) (by rw [rangeSize_one]; split <;> omega) (by omega) fun h' tk acc' c' k' hS hacc => ?_
  refine ⟨.ref s.heap.objs.size, _, I.laid (o := .lst ((List.range (hi - lo).toNat).map fun i => V.int (lo + (i : Nat)))) k' (Nat.le_refl _) ?_, rfl, q _ (I.hok.fresh (Nat.le_refl _))⟩
  refine ⟨?_, acc'.toList, c', items_rng _ _ hacc, by simpa using hS⟩
  rw [List.length_map, List.length_range, sizeLine_eq]
  omega
end
inductive Isi (K : PySem.W.Frag) (H : Hp) : V → String → Bool → Prop
  | int_int (i : Int) : Isi K H (.int i) "int" true
  | int_bool (i : Int) : Isi K H (.int i) "bool" false
  | bool_bool (b : Bool) : Isi K H (.bl b) "bool" true
  | list_list {p : Addr} {xs : List V} : SqL K H p xs → Isi K H (.ref p) "list" true
  | tup_tup {p : Addr} {xs : List V} : SqT K H p xs → Isi K H (.ref p) "tuple" true
section
variable {X : Cx}
theorem call_isi : CallR X (.builtin "isinstance") (fun xs H Q => ∃ x T b, xs = [x, .ty T] ∧ Isi X.K H x T b ∧ Q (.bl b) H) := by
  intro pins s σ H xs us Q I r h
  obtain ⟨x, T, b, rfl, hi, q⟩ := h
  obtain ⟨u, v, rfl, ru, rv⟩ := r.two
  cases rv
  cases hi with
  | int_int i => obtain ⟨t, rfl⟩ := ru; exact PySem.IsiPair.int_int ⟨.bl true, H, I, rfl, q⟩
  | int_bool i => obtain ⟨t, rfl⟩ := ru; exact PySem.IsiPair.int_bool ⟨.bl false, H, I.tok _, rfl, q⟩
  | bool_bool b => cases ru; exact PySem.IsiPair.bool_bool ⟨.bl true, H, I, rfl, q⟩
  | list_list hq =>
    cases ru
    obtain ⟨its, r', pl, hz⟩ := I.list hq
    obtain ⟨o, n, e, c, _⟩ := pl
    exact PySem.IsiPair.list_list e c ⟨.bl true, H, I, rfl, q⟩
  | tup_tup hq =>
    cases ru
    obtain ⟨its, r', pl, hz⟩ := I.tuple hq
    obtain ⟨o, e, c, _⟩ := pl
    exact PySem.IsiPair.tuple_tuple e c ⟨.bl true, H, I, rfl, q⟩
end
abbrev Den (α : Type) := Hp → α → V → Prop
def dInt : Den Int := fun _ i v => v = .int i
def EqOk (X : Cx) {α : Type} [DecidableEq α] (D : Den α) (d : Nat) : Prop :=
  ∀ (A : Around) (pins : List (Addr × Obj)) (s : Shared) (σ : St) (H : Hp) (a b : α) (x y : V) (u v : Value), A.units + d < cLine → Inv X pins σ H s → D H a x → D H b y → RelV x u → RelV y v → EqAt A s u v (decide (a = b))
theorem eq_int_ok {X : Cx} : EqOk X dInt 0 := by
  intro A pins s σ H a b x y u v _ I ha hb ru rv
  subst ha hb
  obtain ⟨t, rfl⟩ := ru
  obtain ⟨t', rfl⟩ := rv
  have h := EqAt.int_int (A := A) (s := s) a t b t'
  rw [show decide (a = b) = (a == b) by rw [Bool.eq_iff_iff]; simp]
  exact h
theorem all_range_eq {α : Type} [DecidableEq α] {as bs : List α} (hl : as.length = bs.length) : ((List.range as.length).all fun j => decide (as[j]? = bs[j]?)) = decide (as = bs) := by
  rw [Bool.eq_iff_iff]
  simp only [List.all_eq_true, List.mem_range, decide_eq_true_eq]
  constructor
  · intro h
    refine List.ext_getElem? fun i => ?_
    by_cases hi : i < as.length
    · exact h i hi
    · rw [List.getElem?_eq_none (by omega), List.getElem?_eq_none (by omega)]
  · intro h j _
    rw [h]
theorem paired_get {α : Type} {P : α → V → Prop} : ∀ {as : List α} {xs : List V} {i : Nat} {x : V}, Paired P as xs → xs[i]? = some x → ∃ a, as[i]? = some a ∧ P a x
  | _, _, _, _, .nil, e => by simp at e
  | _, _, 0, _, .cons r _, e => by simp at e; subst e; exact ⟨_, rfl, r⟩
  | _, _, i + 1, x, .cons _ t, e => by
    obtain ⟨u, h1, h2⟩ := paired_get (i := i) (x := x) t (by simpa using e)
    exact ⟨u, by simpa using h1, h2⟩
section
variable {X : Cx} {α : Type} [DecidableEq α] {D : Den α} {d : Nat}
theorem items_eqAt {A : Around} {pins : List (Addr × Obj)} {s : Shared} {σ : St} {H : Hp} {as bs : List α} {xs ys : List V} {us vs : List Value} (h : EqOk X D d) (hu : A.units + (d + 1) < cLine) (I : Inv X pins σ H s) (pa : Paired (D H) as xs) (pb : Paired (D H) bs ys) (ru : Vals xs us) (rv : Vals ys vs)
    (j : Nat) (h1 : j < us.toArray.size) (h2 : j < vs.toArray.size) : EqAt A.in1 s us.toArray[j] vs.toArray[j] (decide (as[j]? = bs[j]?)) := by
  rw [List.size_toArray] at h1 h2
  rw [List.getElem_toArray, List.getElem_toArray]
  have k1 : j < xs.length := by rw [ru.length]; exact h1
  have k2 : j < ys.length := by rw [rv.length]; exact h2
  have g1 : xs[j]? = some xs[j] := List.getElem?_eq_getElem k1
  have g2 : ys[j]? = some ys[j] := List.getElem?_eq_getElem k2
  obtain ⟨a, ea, da⟩ := paired_get pa g1
  obtain ⟨b, eb, db⟩ := paired_get pb g2
  obtain ⟨u, eu, hu'⟩ := ru.get g1
  obtain ⟨v, ev, hv'⟩ := rv.get g2
  rw [List.getElem?_eq_getElem h1] at eu
  rw [List.getElem?_eq_getElem h2] at ev
  cases eu
  cases ev
  rw [ea, eb, show decide (some a = some b) = decide (a = b) by simp]
  exact h A.in1 pins s σ H a b _ _ _ _ (by show A.units + 1 + d < cLine; omega) I da db hu' hv'
def dTupOf (K : PySem.W.Frag) (D : Den α) : Den (List α) := fun H as v => ∃ p xs, v = .ref p ∧ SqT K H p xs ∧ Paired (D H) as xs
theorem paired_inj (hi : ∀ H a b x, D H a x → D H b x → a = b) {H : Hp} : ∀ {as bs : List α} {xs : List V}, Paired (D H) as xs → Paired (D H) bs xs → as = bs
  | _, _, _, .nil, .nil => rfl
  | _, _, _, .cons r t, .cons r' t' => by rw [hi H _ _ _ r r', paired_inj hi t t']
theorem eq_tup_ok (h : EqOk X D d) (hi : ∀ H a b x, D H a x → D H b x → a = b) : EqOk X (dTupOf X.K D) (d + 1) := by
  intro A pins s σ H as bs x y u v hu I ⟨p, xs, ex, hp, pa⟩ ⟨q, ys, ey, hq, pb⟩ ru rv
  subst ex ey
  cases ru
  cases rv
  by_cases hpq : p = q
  · subst hpq
    have e := I.tuple_inj hp hq
    subst e
    rw [decide_eq_true (paired_inj hi pa pb)]
    exact EqAt.same _
  · obtain ⟨us, r1, t1, _⟩ := I.tuple hp
    obtain ⟨vs, r2, t2, _⟩ := I.tuple hq
    have l1 := r1.length
    have l2 := r2.length
    have l3 := Paired.length pa
    have l4 := Paired.length pb
    have key := RcAt.tuples (A := A) (s := s) (e := fun j => decide (as[j]? = bs[j]?)) t1 t2 (by omega) (items_eqAt h hu I pa pb r1 r2)
    refine EqAt.of_refs hpq ?_
    rw [List.size_toArray, List.size_toArray] at key
    have e : ((List.range (min us.length vs.length)).all (fun j => decide (as[j]? = bs[j]?)) && us.length == vs.length) = decide (as = bs) := by
      by_cases hl : as.length = bs.length
      · rw [show min us.length vs.length = as.length by omega, show (us.length == vs.length) = true by rw [beq_iff_eq]; omega, Bool.and_true]
        exact all_range_eq hl
      · rw [show (us.length == vs.length) = false by rw [beq_eq_false_iff_ne]; omega, Bool.and_false, decide_eq_false (fun e => hl (by rw [e]))]
    rw [e] at key
    exact key
theorem op_neL (h : EqOk X D d) (hu : X.A.units + (d + 1) < cLine) : OpR X (compareOp .NotEq) (fun x y H Q => ∃ p q xs ys as bs, x = .ref p ∧ y = .ref q ∧ SqL X.K H p xs ∧ SqL X.K H q ys ∧ Paired (D H) as xs ∧ Paired (D H) bs ys ∧ Q (.bl (!decide (as = bs))) H) := by
  intro pins s σ H x y v u Q I rx ry ⟨p, q, xs, ys, as, bs, ex, ey, hp, hq, pa, pb, k⟩
  subst ex ey
  cases rx
  cases ry
  obtain ⟨us, r1, t1, _⟩ := I.list hp
  obtain ⟨vs, r2, t2, _⟩ := I.list hq
  have l1 := r1.length
  have l2 := r2.length
  have l3 := Paired.length pa
  have l4 := Paired.length pb
  by_cases hl : as.length = bs.length
  · have z := RcNeAt.lists (A := X.A) (s := s) (e := fun j => decide (as[j]? = bs[j]?)) t1.isList t2.isList (by rw [List.size_toArray, List.size_toArray]; omega) (by omega) (items_eqAt h hu I pa pb r1 r2)
    rw [List.size_toArray, show us.length = as.length by omega, all_range_eq hl] at z
    exact z X.prog X.w X.xe _ ⟨.bl _, H, I, rfl, k⟩
  · have z := RcNeAt.lists_lengths (A := X.A) (s := s) t1.isList t2.isList (by rw [List.size_toArray, List.size_toArray, bne_iff_ne]; omega) (by omega)
    rw [decide_eq_false (fun e => hl (by rw [e]))] at k
    exact z X.prog X.w X.xe _ ⟨.bl true, H, I, rfl, k⟩
theorem op_eqT (h : EqOk X D d) (hu : X.A.units + (d + 1) < cLine) : OpR X (compareOp .Eq) (fun x y H Q => ∃ p q xs ys as bs, x = .ref p ∧ y = .ref q ∧ SqT X.K H p xs ∧ SqT X.K H q ys ∧ Paired (D H) as xs ∧ Paired (D H) bs ys ∧ Q (.bl (decide (as = bs))) H) := by
  intro pins s σ H x y v u Q I rx ry ⟨p, q, xs, ys, as, bs, ex, ey, hp, hq, pa, pb, k⟩
  subst ex ey
  cases rx
  cases ry
  obtain ⟨us, r1, t1, _⟩ := I.tuple hp
  obtain ⟨vs, r2, t2, _⟩ := I.tuple hq
  have l1 := r1.length
  have l2 := r2.length
  have l3 := Paired.length pa
  have l4 := Paired.length pb
  refine eq_tupleAt (e := fun j => decide (as[j]? = bs[j]?)) t1 t2 (by omega) (items_eqAt h hu I pa pb r1 r2) ⟨.bl _, H, I, rfl, ?_⟩
  rw [List.size_toArray, List.size_toArray]
  have e : ((List.range (min us.length vs.length)).all (fun j => decide (as[j]? = bs[j]?)) && us.length == vs.length) = decide (as = bs) := by
    by_cases hl : as.length = bs.length
    · rw [show min us.length vs.length = as.length by omega, show (us.length == vs.length) = true by rw [beq_iff_eq]; omega, Bool.and_true]
      exact all_range_eq hl
    · rw [show (us.length == vs.length) = false by rw [beq_eq_false_iff_ne]; omega, Bool.and_false, decide_eq_false (fun e => hl (by rw [e]))]
  rw [e]
  exact k
theorem any_known {H : Hp} {a : α} {bs : List α} {ys : List V} {us : List Value} (hi : ∀ H a b x, D H a x → D H b x → a = b) (pb : Paired (D H) bs ys) (ru : Vals ys us) : ∃ e : Value → Bool, (∀ (i : Nat) (u : Value) (b : α), us[i]? = some u → bs[i]? = some b → e u = decide (b = a)) ∧ us.any e = decide (a ∈ bs) := by
  classical
  have hl := ru.length
  have hl2 := Paired.length pb
  refine ⟨fun u => decide (∃ i : Nat, us[i]? = some u ∧ bs[i]? = some a), fun i u b h1 h2 => ?_, ?_⟩
  · have iff : (∃ i : Nat, us[i]? = some u ∧ bs[i]? = some a) ↔ b = a := by
      constructor
      · rintro ⟨j, e1, e2⟩
        have k1 : i < ys.length := by rw [hl]; exact (List.getElem?_eq_some_iff.mp h1).1
        have k2 : j < ys.length := by rw [hl]; exact (List.getElem?_eq_some_iff.mp e1).1
        have g1 : ys[i]? = some ys[i] := List.getElem?_eq_getElem k1
        have g2 : ys[j]? = some ys[j] := List.getElem?_eq_getElem k2
        obtain ⟨b1, q1, d1⟩ := paired_get pb g1
        obtain ⟨b2, q2, d2⟩ := paired_get pb g2
        obtain ⟨u1, w1, r1⟩ := ru.get g1
        obtain ⟨u2, w2, r2⟩ := ru.get g2
        rw [h1] at w1; cases w1
        rw [e1] at w2; cases w2
        rw [h2] at q1; cases q1
        rw [e2] at q2; cases q2
        rw [r1.inj r2] at d1
        exact hi H _ _ _ d1 d2
      · intro e
        subst e
        exact ⟨i, h1, h2⟩
    by_cases hb : b = a
    · rw [decide_eq_true hb]; exact decide_eq_true (iff.mpr hb)
    · rw [decide_eq_false hb]; exact decide_eq_false fun z => hb (iff.mp z)
  · rw [Bool.eq_iff_iff, List.any_eq_true, decide_eq_true_eq]
    constructor
    · rintro ⟨u, _, h⟩
      obtain ⟨i, _, h⟩ := of_decide_eq_true h
      exact List.mem_of_getElem? h
    · intro h
      obtain ⟨i, hi'⟩ := List.getElem?_of_mem h
      have k : i < us.length := by rw [← hl, ← hl2]; exact (List.getElem?_eq_some_iff.mp hi').1
      exact ⟨us[i], List.getElem_mem k, decide_eq_true ⟨i, List.getElem?_eq_getElem k, hi'⟩⟩
theorem in_items {A : Around} {pins : List (Addr × Obj)} {s : Shared} {σ : St} {H : Hp} {a : α} {bs : List α} {x : V} {ys : List V} {v : Value} {us : List Value} (h : EqOk X D d) (hu : A.units + (d + 1) < cLine) (I : Inv X pins σ H s) (da : D H a x) (pb : Paired (D H) bs ys) (rx : RelV x v) (ru : Vals ys us)
    {e : Value → Bool} (he : ∀ (i : Nat) (u : Value) (b : α), us[i]? = some u → bs[i]? = some b → e u = decide (b = a)) : ∀ y, y ∈ us.toArray → EqAt A.in1 s y v (e y) := by
  intro y hy
  obtain ⟨i, hi⟩ := List.getElem?_of_mem (show y ∈ us by simpa using hy)
  have k : i < ys.length := by rw [ru.length]; exact (List.getElem?_eq_some_iff.mp hi).1
  have g : ys[i]? = some ys[i] := List.getElem?_eq_getElem k
  obtain ⟨b, q, db⟩ := paired_get pb g
  obtain ⟨u, w, r⟩ := ru.get g
  rw [hi] at w; cases w
  rw [he i _ b hi q]
  exact h A.in1 pins s σ H b a _ _ _ _ (by show A.units + 1 + d < cLine; omega) I db da r rx
theorem op_notInL (h : EqOk X D d) (hi : ∀ H a b x, D H a x → D H b x → a = b) (hu : X.A.units + (d + 1) < cLine) : OpR X (compareOp .NotIn) (fun x y H Q => ∃ q ys a bs, y = .ref q ∧ (SqL X.K H q ys ∨ SqT X.K H q ys) ∧ D H a x ∧ Paired (D H) bs ys ∧ Q (.bl (!decide (a ∈ bs))) H) := by
  intro pins s σ H x y v u Q I rx ry ⟨q, ys, a, bs, ey, hq, da, pb, k⟩
  subst ey
  cases ry
  rcases hq with hq | hq
  · obtain ⟨us, r, pl, _⟩ := I.list hq
    obtain ⟨e, he, ha⟩ := any_known (a := a) hi pb r
    refine notIn_listAt e pl.isList (in_items h hu I da pb rx r he) ⟨.bl _, H, I, rfl, ?_⟩
    rw [show us.toArray.any e = us.any e by simp, ha]
    exact k
  · obtain ⟨us, r, pl, _⟩ := I.tuple hq
    obtain ⟨e, he, ha⟩ := any_known (a := a) hi pb r
    refine notIn_tupleAt e pl (in_items h hu I da pb rx r he) ⟨.bl _, H, I, rfl, ?_⟩
    rw [show us.toArray.any e = us.any e by simp, ha]
    exact k
end
theorem dInt_inj : ∀ (H : Hp) (a b : Int) (x : V), dInt H a x → dInt H b x → a = b := fun _ _ _ _ h1 h2 => by
  have e := h1.symm.trans h2
  cases e
  rfl
theorem paired_ints {H : Hp} : ∀ (ns : List Int), Paired (dInt H) ns (ns.map V.int)
  | [] => .nil
  | _ :: r => .cons rfl (paired_ints r)
def dT : Den (List Int) := fun H ns v => ∃ p, v = .ref p ∧ H p = some (.tup (ns.map V.int))
theorem eq_dT_ok {X : Cx} : EqOk X dT 1 := by
  intro A pins s σ H a b x y u v hu I ⟨p, e, h⟩ ⟨q, e', h'⟩ ru rv
  exact eq_tup_ok (d := 0) eq_int_ok dInt_inj A pins s σ H a b x y u v hu I ⟨p, _, e, SqT.of h, paired_ints a⟩ ⟨q, _, e', SqT.of h', paired_ints b⟩ ru rv
section
variable {α : Type} {P : α → V → Prop}
theorem pd_append : ∀ {as bs : List α} {xs ys : List V}, Paired P as xs → Paired P bs ys → Paired P (as ++ bs) (xs ++ ys)
  | _, _, _, _, .nil, s => s
  | _, _, _, _, .cons r t, s => .cons r (pd_append t s)
theorem pd_take : ∀ {as : List α} {xs : List V} (n : Nat), Paired P as xs → Paired P (as.take n) (xs.take n)
  | _, _, 0, _ => by rw [List.take_zero, List.take_zero]; exact .nil
  | _, _, _ + 1, .nil => .nil
  | _, _, n + 1, .cons r t => .cons r (pd_take n t)
theorem pd_rep {as : List α} {xs : List V} (h : Paired P as xs) : ∀ k : Nat, Paired P (List.replicate k as).flatten (List.replicate k xs).flatten
  | 0 => .nil
  | k + 1 => by
    rw [List.replicate_succ, List.replicate_succ, List.flatten_cons, List.flatten_cons]
    exact pd_append h (pd_rep h k)
end
theorem pd_same {α : Type} {D : Den α} {H H' : Hp} (hm : ∀ a x, D H a x → D H' a x) {as : List α} {xs : List V} (h : Paired (D H) as xs) : Paired (D H') as xs := Paired.mapP h hm
theorem dT_same {H H' : Hp} (s : Same H H') : ∀ a x, dT H a x → dT H' a x := fun _ _ ⟨p, e, h⟩ => ⟨p, e, s _ _ h⟩
theorem same_upd {H : Hp} {l : Addr} {o : HO} (h : H l = none) : Same H (upd H l o) := fun b u e => by rw [upd_ne (ne_of_none e h)]; exact e
theorem same_upd' {H H' : Hp} {l : Addr} {o : HO} (s : Same H H') (h : H l = none) : Same H (upd H' l o) := fun b u e => by rw [upd_ne (ne_of_none e h)]; exact s b u e
def Nx (N i : Nat) (P : Prop) : Prop := ∃ m', m' < N - i ∧ m' = N - (i + 1) ∧ i + 1 ≤ N ∧ P
theorem Nx.mk {N i : Nat} {P : Prop} (h : i < N) (p : P) : Nx N i P := ⟨_, by omega, rfl, h, p⟩
theorem comp_list' {K : PySem.W.Frag} {a : Addr} {xs : List V} {n : Nat} {fs : List (Nat × Str)} {g : TG} {tc : TT} {te : TE} {σ : St} {H1 : Hp} {Q : VK} {l : Addr} (Pv : Nat → List V → Hp → Prop) (h0 : Pv 0 [] (upd H1 l (.lst [])))
    (hl : ∀ i acc H, i ≤ xs.length → Pv i acc H → SqL K H a xs ∧ H l = some (.lst acc))
    (hs : ∀ i x acc H, xs[i]? = some x → i < xs.length → Pv i acc H → acc.length < sizeLine ∧ g x (sgC n fs σ) H fun σ2 H2 => Wk n (sgC n fs σ) σ2 ∧ tc σ2 H2 fun b H3 =>
      if b = true then te σ2 H3 fun y H4 => H4 l = some (.lst acc) ∧ Nx xs.length i (Pv (i + 1) (acc ++ [y]) (upd H4 l (.lst (acc ++ [y])))) else Nx xs.length i (Pv (i + 1) acc H3))
    (hd : ∀ acc H, Pv xs.length acc H → Q (.ref l) H) : CompW n fs (Itl K a) g tc te σ H1 Q l := by
  refine ⟨fun i m acc H => m = xs.length - i ∧ i ≤ xs.length ∧ Pv i acc H, ⟨_, rfl, Nat.zero_le _, h0⟩, ?_⟩
  rintro i m acc H ⟨rfl, hi, p⟩
  obtain ⟨q, hla⟩ := hl i acc H hi p
  refine ⟨hla, ?_⟩
  by_cases hlt : i < xs.length
  · have hx : xs[i]? = some xs[i] := List.getElem?_eq_getElem hlt
    refine .inr ⟨(hs i _ acc H hx hlt p).1, ⟨xs, xs[i], q, hx⟩, fun x H' y => ?_⟩
    obtain ⟨e, y⟩ := y
    subst e
    exact (hs i x acc _ (y xs q) hlt p).2
  · have e : i = xs.length := by omega
    subst e
    exact .inl ⟨⟨xs, q, Nat.le_refl _⟩, hd acc H p⟩
theorem comp_range' {lo : Int} {m0 : Nat} {n : Nat} {fs : List (Nat × Str)} {g : TG} {tc : TT} {te : TE} {σ : St} {H1 : Hp} {Q : VK} {l : Addr} (Pv : Nat → List V → Hp → Prop) (h0 : Pv 0 [] (upd H1 l (.lst [])))
    (hl : ∀ i acc H, i ≤ m0 → Pv i acc H → H l = some (.lst acc))
    (hs : ∀ i acc H, i < m0 → Pv i acc H → acc.length < sizeLine ∧ g (.int (lo + i)) (sgC n fs σ) H fun σ2 H2 => Wk n (sgC n fs σ) σ2 ∧ tc σ2 H2 fun b H3 =>
      if b = true then te σ2 H3 fun y H4 => H4 l = some (.lst acc) ∧ Nx m0 i (Pv (i + 1) (acc ++ [y]) (upd H4 l (.lst (acc ++ [y])))) else Nx m0 i (Pv (i + 1) acc H3))
    (hd : ∀ acc H, Pv m0 acc H → Q (.ref l) H) : CompW n fs (Itr lo m0) g tc te σ H1 Q l := by
  refine ⟨fun i m acc H => m = m0 - i ∧ i ≤ m0 ∧ Pv i acc H, ⟨_, rfl, Nat.zero_le _, h0⟩, ?_⟩
  rintro i m acc H ⟨rfl, hi, p⟩
  refine ⟨hl i acc H hi p, ?_⟩
  by_cases hlt : i < m0
  · refine .inr ⟨(hs i acc H hlt p).1, hlt, fun x H' y => ?_⟩
    obtain ⟨e, y⟩ := y
    subst e y
    exact (hs i acc _ hlt p).2
  · have e : i = m0 := by omega
    subst e
    exact .inl ⟨Nat.le_refl _, hd acc H p⟩
structure Def (K : PySem.W.Frag) (mg : Str → Option Value) (x : Str) (st : Stmt) (ps : List Str) where
  f : Addr
  fd : FuncData
  F : Fun K x x st f fd
  mgf : mg x = some (.ref f)
  b : Binds K fd ps []
def scopeOk (names outer : List (Str × NameKind)) : Bool := names.all fun y => (y.2 != NameKind.cell) && (y.2 != NameKind.local || names.lookup y.1 == some .local) && (y.2 != NameKind.free || outer.lookup y.1 == some .cell || outer.lookup y.1 == some .free)
theorem CScope.mk' {X : Cx} {scope : Scope} {ts : List Str} {fs : List (Nat × Str)} (kind : scope.kind = .function) (c : scopeOk scope.names X.env.scope.names = true) (f : FsOk X.N scope fs) : CScope X scope ts fs := by
  have all : ∀ y ∈ scope.names, ((y.2 != NameKind.cell) && (y.2 != NameKind.local || scope.names.lookup y.1 == some .local) && (y.2 != NameKind.free || X.env.scope.names.lookup y.1 == some .cell || X.env.scope.names.lookup y.1 == some .free)) = true := List.all_eq_true.mp c
  refine ⟨kind, fun y hy z => ?_, fun y hy z => ?_, fun y hy z => ?_, f⟩
  · have h := all y hy
    rw [z] at h
    simp at h
  · have h := all y hy
    rw [z] at h
    simpa using h
  · have h := all y hy
    rw [z] at h
    simp at h
    exact h
end L2
namespace L2
open PySem PySem.Spec PyProof.Rows PySem.SeqAt
section
variable {X : Cx}
theorem call_allB (hc : X.calm = true) : CallR X (.builtin "all") (fun xs H Q => ∃ (p : Addr) (bs : List Bool), xs = [.ref p] ∧ SqL X.K H p (bs.map V.bl) ∧ Q (.bl (bs.all id)) H) := by
  intro pins s σ H xs us Q I r h
  obtain ⟨p, bs, rfl, hq, q⟩ := h
  obtain ⟨u, rfl, ru⟩ := vals1 r
  cases ru
  obtain ⟨its, r', pl, hz⟩ := I.list hq
  have hlen := r'.length
  rw [List.length_map] at hlen
  refine call_all_walk (wpAny_pyIter_list pl.isList ?_)
  have hplt : p < s.heap.objs.size := by
    obtain ⟨o, e, _⟩ := pl.isList
    exact Heap.lt_size e
  have I1 : Inv X pins σ H { s with heap := s.heap.push { cls := .type "list_iterator", data := .fields #[.ref p, rawInt 0] } } := I.kept (t' := s.toks) fun b o e => Heap.get?_push_of_some _ e
  refine ⟨s.heap.objs.size, _, _, _, _, _, fun i => bs.getD i false, rfl, Walks.list (A := X.A.in1) (show X.A.in1.handled = none from I.ok.hd hc) s.heap.objs.size p (Nat.ne_of_lt hplt) its.toArray, ⟨⟨_, Heap.get?_push_size _ rfl, rfl, rfl⟩, ?_⟩, ?_, fun h' tk hk => ?_⟩
  · obtain ⟨o, e, c⟩ := pl.isList
    exact ⟨o, Heap.get?_push_of_some _ e, c⟩
  · intro i v s' Q' E' hv hQ
    have hv' : its[i]? = some v := by simpa using hv
    have hi : i < its.length := (List.getElem?_eq_some_iff.mp hv').1
    obtain ⟨w, hw, rw'⟩ := r'.get (i := i) (x := .bl (bs.getD i false)) (by
      rw [List.getElem?_map, List.getElem?_eq_getElem (by omega), List.getD_eq_getElem?_getD, List.getElem?_eq_getElem (by omega)]; rfl)
    rw [hv'] at hw
    cases hw
    cases rw'
    exact wpAny_truthy_bool hQ
  · have e : (List.range its.toArray.size).all (fun i => bs.getD i false) = bs.all id := by
      rw [List.size_toArray, ← hlen, Bool.eq_iff_iff, List.all_eq_true, List.all_eq_true]
      constructor
      · intro h x hx
        obtain ⟨i, hi⟩ := List.getElem?_of_mem hx
        have := h i (List.mem_range.mpr (List.getElem?_eq_some_iff.mp hi).1)
        rw [List.getD_eq_getElem?_getD, hi] at this
        exact this
      · intro h i hi
        have hi' := List.mem_range.mp hi
        rw [List.getD_eq_getElem?_getD, List.getElem?_eq_getElem hi']
        exact h _ (List.getElem_mem hi')
    rw [e]
    have f := I.fpOk (H' := H) (Nat.le_refl s.heap.objs.size) (I.hok.fresh (Nat.le_refl _))
    obtain ⟨f0, f1, f2, f3, f4, f5⟩ := f
    exact ⟨.bl _, H, I1.turned (t' := tk) (fun b o hb e => hk b o (by simpa using hb) e) f0 f1 f3 f4 f5, rfl, q⟩
end
end L2
namespace L2
open PySem PySem.Spec PyProof.Rows
theorem iteS {c A B : Prop} {i : Decidable c} (hc : c) (h : B) : if (!@decide c i) = true then A else B := by
  rw [@decide_eq_true c i hc]
  exact iteF h
theorem sz1 {x : V} : ([x] : List V).length ≤ sizeLine := by show 1 ≤ sizeLine; rw [sizeLine_eq]; decide
theorem sz2 {x y : V} : ([x, y] : List V).length ≤ sizeLine := by show 2 ≤ sizeLine; rw [sizeLine_eq]; decide
section
variable {X : Cx}
end
theorem comp_tup' {K : PySem.W.Frag} {a : Addr} {xs : List V} {n : Nat} {fs : List (Nat × Str)} {g : TG} {tc : TT} {te : TE} {σ : St} {H1 : Hp} {Q : VK} {l : Addr} (Pv : Nat → List V → Hp → Prop) (h0 : Pv 0 [] (upd H1 l (.lst [])))
    (hl : ∀ i acc H, i ≤ xs.length → Pv i acc H → SqT K H a xs ∧ H l = some (.lst acc))
    (hs : ∀ i x acc H, xs[i]? = some x → i < xs.length → Pv i acc H → acc.length < sizeLine ∧ g x (sgC n fs σ) H fun σ2 H2 => Wk n (sgC n fs σ) σ2 ∧ tc σ2 H2 fun b H3 =>
      if b = true then te σ2 H3 fun y H4 => H4 l = some (.lst acc) ∧ Nx xs.length i (Pv (i + 1) (acc ++ [y]) (upd H4 l (.lst (acc ++ [y])))) else Nx xs.length i (Pv (i + 1) acc H3))
    (hd : ∀ acc H, Pv xs.length acc H → Q (.ref l) H) : CompW n fs (Itt K a) g tc te σ H1 Q l := by
  refine ⟨fun i m acc H => m = xs.length - i ∧ i ≤ xs.length ∧ Pv i acc H, ⟨_, rfl, Nat.zero_le _, h0⟩, ?_⟩
  rintro i m acc H ⟨rfl, hi, p⟩
  obtain ⟨q, hla⟩ := hl i acc H hi p
  refine ⟨hla, ?_⟩
  by_cases hlt : i < xs.length
  · have hx : xs[i]? = some xs[i] := List.getElem?_eq_getElem hlt
    refine .inr ⟨(hs i _ acc H hx hlt p).1, ⟨xs, xs[i], q, hx⟩, fun x H' y => ?_⟩
    obtain ⟨e, y⟩ := y
    subst e
    exact (hs i x acc _ (y xs q) hlt p).2
  · have e : i = xs.length := by omega
    subst e
    exact .inl ⟨⟨xs, q, Nat.le_refl _⟩, hd acc H p⟩
def tCut (t : TS) : TS := fun D σ H => ∃ P : St → Hp → Prop, t { D with nx := P } σ H ∧ ∀ σ' H', P σ' H' → D.nx σ' H'
theorem ps_cut {X : Cx} {st : Stmt} {t : TS} (h : PS X st t) : PS X st (tCut t) := by
  rintro pins s σ H D I ⟨P, hp, hk⟩
  refine thn (h pins s σ H _ I hp) fun f s' q => ?_
  cases f with
  | next => obtain ⟨σ', H', I', q⟩ := q; exact ⟨σ', H', I', hk _ _ q⟩
  | brk => exact q
  | cont => exact q
  | ret v => exact q
end L2
namespace Srt
open PySem PySem.W PyProof.Rows
def run {α : Type} (lt : Nat → Nat → Bool) : KasT α → α
  | .ret a => a
  | .ask i j k => run lt (k (lt i j))
theorem run_bind {α β : Type} (lt : Nat → Nat → Bool) (f : α → KasT β) : ∀ t : KasT α, run lt (t.bind f) = run lt (f (run lt t))
  | .ret _ => rfl
  | .ask i j k => run_bind lt f (k (lt i j))
structure Ord (N : Nat) (lt : Nat → Nat → Bool) : Prop where
  tri : ∀ a b, a < N → b < N → a ≠ b → lt a b = true ∨ lt b a = true
  tr : ∀ a b c, a < N → b < N → c < N → lt a b = true → lt b c = true → lt a c = true
  asy : ∀ a b, a < N → b < N → lt a b = true → lt b a = false
structure Arr (N : Nat) (p : Array Nat) : Prop where
  size : p.size = N
  low : ∀ i, i < N → p.getD i 0 < N
  inj : ∀ i j, i < N → j < N → i ≠ j → p.getD i 0 ≠ p.getD j 0
def Up (lt : Nat → Nat → Bool) (p : Array Nat) (m : Nat) : Prop := ∀ i j, i < j → j < m → lt (p.getD i 0) (p.getD j 0) = true
def Dn (lt : Nat → Nat → Bool) (p : Array Nat) (m : Nat) : Prop := ∀ i j, i < j → j < m → lt (p.getD j 0) (p.getD i 0) = true
section
variable {N : Nat} {lt : Nat → Nat → Bool} {p : Array Nat}
theorem Ord.no (o : Ord N lt) (a : Arr N p) {i j : Nat} (hi : i < N) (hj : j < N) (h : i ≠ j) (e : ¬ lt (p.getD i 0) (p.getD j 0) = true) : lt (p.getD j 0) (p.getD i 0) = true :=
  (o.tri _ _ (a.low i hi) (a.low j hj) (a.inj i j hi hj h)).elim (fun z => absurd z e) id
theorem Up.snoc (o : Ord N lt) (a : Arr N p) {n : Nat} (h1 : 1 ≤ n) (hn : n < N) (u : Up lt p n) (e : lt (p.getD (n - 1) 0) (p.getD n 0) = true) : Up lt p (n + 1) := fun i j hij hj => by
  by_cases hjn : j < n
  · exact u i j hij hjn
  · have ej : j = n := by omega
    subst ej
    by_cases hi : i = j - 1
    · rw [hi]; exact e
    · exact o.tr _ _ _ (a.low i (by omega)) (a.low (j - 1) (by omega)) (a.low j hn) (u i (j - 1) (by omega) (by omega)) e
theorem Dn.snoc (o : Ord N lt) (a : Arr N p) {n : Nat} (h1 : 1 ≤ n) (hn : n < N) (u : Dn lt p n) (e : lt (p.getD n 0) (p.getD (n - 1) 0) = true) : Dn lt p (n + 1) := fun i j hij hj => by
  by_cases hjn : j < n
  · exact u i j hij hjn
  · have ej : j = n := by omega
    subst ej
    by_cases hi : i = j - 1
    · rw [hi]; exact e
    · exact o.tr _ _ _ (a.low j hn) (a.low (j - 1) (by omega)) (a.low i (by omega)) e (u i (j - 1) (by omega) (by omega))
theorem asc (o : Ord N lt) (a : Arr N p) : ∀ (f n : Nat), 1 ≤ n → n + f = N → Up lt p n → n ≤ run lt (kas_asc p f n) ∧ run lt (kas_asc p f n) ≤ N ∧ Up lt p (run lt (kas_asc p f n)) ∧ (run lt (kas_asc p f n) < N → lt (p.getD (run lt (kas_asc p f n)) 0) (p.getD (run lt (kas_asc p f n) - 1) 0) = true)
  | 0, n, _, hf, u => ⟨Nat.le_refl n, (by show n ≤ N; omega), u, fun h => (by have h' : n < N := h; omega)⟩
  | f + 1, n, h1, hf, u => by
    show n ≤ run lt (if lt (p.getD n 0) (p.getD (n - 1) 0) = true then .ret n else kas_asc p f (n + 1)) ∧ run lt (if lt (p.getD n 0) (p.getD (n - 1) 0) = true then .ret n else kas_asc p f (n + 1)) ≤ N ∧ Up lt p (run lt (if lt (p.getD n 0) (p.getD (n - 1) 0) = true then .ret n else kas_asc p f (n + 1))) ∧
      (run lt (if lt (p.getD n 0) (p.getD (n - 1) 0) = true then .ret n else kas_asc p f (n + 1)) < N → lt (p.getD (run lt (if lt (p.getD n 0) (p.getD (n - 1) 0) = true then .ret n else kas_asc p f (n + 1))) 0) (p.getD (run lt (if lt (p.getD n 0) (p.getD (n - 1) 0) = true then .ret n else kas_asc p f (n + 1)) - 1) 0) = true)
    by_cases e : lt (p.getD n 0) (p.getD (n - 1) 0) = true
    · rw [if_pos e]
      exact ⟨Nat.le_refl n, (by show n ≤ N; omega), u, fun _ => e⟩
    · rw [if_neg e]
      obtain ⟨q1, q2, q3, q4⟩ := asc o a f (n + 1) (by omega) (by omega) (u.snoc o a h1 (by omega) (o.no a (by omega) (by omega) (by omega) e))
      exact ⟨by omega, q2, q3, q4⟩
theorem desc (o : Ord N lt) (a : Arr N p) : ∀ (f n : Nat), 1 ≤ n → n + f = N → Dn lt p n → ∃ m, run lt (kas_desc f p n 0) = (p, m, 0) ∧ n ≤ m ∧ m ≤ N ∧ Dn lt p m
  | 0, n, _, hf, u => ⟨n, rfl, Nat.le_refl n, by omega, u⟩
  | f + 1, n, h1, hf, u => by
    show ∃ m, run lt (if lt (p.getD n 0) (p.getD (n - 1) 0) = true then (if 0 > 0 then kas_desc f (kas_rev p (n - (0 + 1)) n) (n + 1) 0 else kas_desc f p (n + 1) 0)
      else .ask (p.getD (n - 1) 0) (p.getD n 0) fun d => if d = true then .ret (p, n, 0) else kas_desc f p (n + 1) (0 + 1)) = (p, m, 0) ∧ n ≤ m ∧ m ≤ N ∧ Dn lt p m
    by_cases e : lt (p.getD n 0) (p.getD (n - 1) 0) = true
    · rw [if_pos e, if_neg (by omega)]
      obtain ⟨m, q1, q2, q3, q4⟩ := desc o a f (n + 1) (by omega) (by omega) (u.snoc o a h1 (by omega) e)
      exact ⟨m, q1, by omega, q3, q4⟩
    · rw [if_neg e]
      have e' := o.no a (i := n) (j := n - 1) (by omega) (by omega) (by omega) e
      refine ⟨n, ?_, Nat.le_refl n, by omega, u⟩
      show run lt (if lt (p.getD (n - 1) 0) (p.getD n 0) = true then KasT.ret (p, n, 0) else kas_desc f p (n + 1) (0 + 1)) = (p, n, 0)
      rw [if_pos e']
      rfl
theorem getD_of {q : Array Nat} {i j : Nat} (h : q[i]? = p[j]?) : q.getD i 0 = p.getD j 0 := by
  rw [Array.getD_eq_getD_getElem?, Array.getD_eq_getD_getElem?, h]
theorem rev_get (a : Arr N p) {n : Nat} (hn : n ≤ N) (k : Nat) : (kas_rev p 0 n).getD k 0 = if k < n then p.getD (n - 1 - k) 0 else p.getD k 0 := by
  have h := getElem?_mirror_all (xs := p) (i := 0) (j := n) (by rw [a.size]; exact hn) k
  by_cases hk : k < n
  · rw [if_pos hk]
    rw [if_pos ⟨Nat.zero_le _, hk⟩] at h
    exact (getD_of h).trans (by congr 1; omega)
  · rw [if_neg hk]
    rw [if_neg (by omega)] at h
    exact getD_of h
theorem rev_arr (a : Arr N p) {n : Nat} (hn : n ≤ N) : Arr N (kas_rev p 0 n) := by
  refine ⟨(mirror_size ..).trans a.size, fun i hi => ?_, fun i j hi hj hij => ?_⟩
  · rw [rev_get a hn]
    split
    · exact a.low _ (by omega)
    · exact a.low _ hi
  · rw [rev_get a hn, rev_get a hn]
    split <;> split <;> exact a.inj _ _ (by omega) (by omega) (by omega)
theorem rev_up (a : Arr N p) {n : Nat} (hn : n ≤ N) (u : Dn lt p n) : Up lt (kas_rev p 0 n) n := fun i j hij hj => by
  rw [rev_get a hn, rev_get a hn, if_pos (by omega), if_pos hj]
  exact u _ _ (by omega) (by omega)
theorem count (o : Ord N lt) (a : Arr N p) (h2 : 2 ≤ N) : ∃ m q, run lt (kas_count N p) = (m, q) ∧ Arr N q ∧ 1 ≤ m ∧ m ≤ N ∧ Up lt q m := by
  unfold kas_count
  rw [run_bind]
  obtain ⟨q1, q2, q3, q4⟩ := asc o a (N - 1) 1 (Nat.le_refl _) (by omega) (fun i j hij hj => by omega)
  generalize run lt (kas_asc p (N - 1) 1) = n at q1 q2 q3 q4
  by_cases e : (n == N) = true
  · rw [if_pos e]
    exact ⟨n, p, rfl, a, q1, q2, q3⟩
  · rw [if_neg e]
    have hne : n ≠ N := fun z => e (by rw [z]; exact beq_self_eq_true _)
    by_cases h1 : n > 1
    · rw [if_pos h1]
      refine ⟨n, p, ?_, a, q1, q2, q3⟩
      show run lt (if lt (p.getD 0 0) (p.getD (n - 1) 0) = true then .ret (n, p) else kas_descPart n N (kas_rev p 0 n)) = (n, p)
      rw [if_pos (q3 0 (n - 1) (by omega) (by omega))]
      rfl
    · rw [if_neg h1]
      have en : n = 1 := by omega
      subst en
      have hd : Dn lt p 2 := fun i j hij hj => by
        have ei : i = 0 := by omega
        have ej : j = 1 := by omega
        subst ei ej
        exact q4 (by omega)
      unfold kas_descPart
      rw [run_bind]
      obtain ⟨m, r1, r2, r3, r4⟩ := desc o a (N - (1 + 1)) (1 + 1) (by omega) (by omega) hd
      rw [r1]
      show ∃ m' q, run lt (if (0 : Nat) > 0 then kas_tail3 m N (kas_rev p (m - (0 + 1)) m) else kas_tail3 m N p) = (m', q) ∧ Arr N q ∧ 1 ≤ m' ∧ m' ≤ N ∧ Up lt q m'
      rw [if_neg (by omega)]
      unfold kas_tail3
      rw [run_bind]
      obtain ⟨s1, s2, s3, _⟩ := asc o (rev_arr a r3) (N - m) m (by omega) (by omega) (rev_up a r3 r4)
      exact ⟨_, _, rfl, rev_arr a r3, by omega, s2, s3⟩
theorem place (o : Ord N lt) (a : Arr N p) {k : Nat} (hk : k < N) (u : Up lt p k) : ∀ (f l r : Nat), l ≤ r → r ≤ k → r - l ≤ f → (∀ i, i < l → lt (p.getD i 0) (p.getD k 0) = true) → (∀ i, r ≤ i → i < k → lt (p.getD k 0) (p.getD i 0) = true) →
    run lt (kas_place p k f l r) ≤ k ∧ (∀ i, i < run lt (kas_place p k f l r) → lt (p.getD i 0) (p.getD k 0) = true) ∧ ∀ i, run lt (kas_place p k f l r) ≤ i → i < k → lt (p.getD k 0) (p.getD i 0) = true
  | 0, l, r, hlr, hr, hf, h1, h2 => by
    have e : l = r := by omega
    subst e
    exact ⟨hr, h1, h2⟩
  | f + 1, l, r, hlr, hr, hf, h1, h2 => by
    unfold kas_place
    by_cases e : l ≥ r
    · rw [if_pos e]
      have e' : l = r := by omega
      subst e'
      exact ⟨hr, h1, h2⟩
    · rw [if_neg e]
      by_cases c : lt (p.getD k 0) (p.getD ((l + r) / 2) 0) = true
      · have ih := place o a hk u f l ((l + r) / 2) (by omega) (by omega) (by omega) h1 (fun i hi hik => by
          by_cases z : i = (l + r) / 2
          · rw [z]; exact c
          · exact o.tr _ _ _ (a.low k hk) (a.low _ (by omega)) (a.low i (by omega)) c (u _ i (by omega) hik))
        have e2 : run lt (KasT.ask (p.getD k 0) (p.getD ((l + r) / 2) 0) fun c => if c = true then kas_place p k f l ((l + r) / 2) else kas_place p k f ((l + r) / 2 + 1) r) = run lt (kas_place p k f l ((l + r) / 2)) := by
          show run lt (if lt (p.getD k 0) (p.getD ((l + r) / 2) 0) = true then kas_place p k f l ((l + r) / 2) else kas_place p k f ((l + r) / 2 + 1) r) = _
          rw [if_pos c]
        rw [e2]
        exact ih
      · have c' := o.no a (i := k) (j := (l + r) / 2) hk (by omega) (by omega) c
        have ih := place o a hk u f ((l + r) / 2 + 1) r (by omega) hr (by omega) (fun i hi => by
          by_cases z : i = (l + r) / 2
          · rw [z]; exact c'
          · exact o.tr _ _ _ (a.low i (by omega)) (a.low _ (by omega)) (a.low k hk) (u i _ (by omega) (by omega)) c') h2
        have e2 : run lt (KasT.ask (p.getD k 0) (p.getD ((l + r) / 2) 0) fun c => if c = true then kas_place p k f l ((l + r) / 2) else kas_place p k f ((l + r) / 2 + 1) r) = run lt (kas_place p k f ((l + r) / 2 + 1) r) := by
          show run lt (if lt (p.getD k 0) (p.getD ((l + r) / 2) 0) = true then kas_place p k f l ((l + r) / 2) else kas_place p k f ((l + r) / 2 + 1) r) = _
          rw [if_neg c]
        rw [e2]
        exact ih
theorem bub_get (a : Arr N p) {k l : Nat} (hk : k < N) (hl : l ≤ k) (i : Nat) : (bubble p k (k - l)).getD i 0 = if i = l then p.getD k 0 else if l < i ∧ i ≤ k then p.getD (i - 1) 0 else p.getD i 0 := by
  have h := getElem?_bubble (xs := p) (src := k) (by rw [a.size]; exact hk) (k - l) (by omega) i
  rw [show k - (k - l) = l by omega] at h
  by_cases e1 : i = l
  · rw [if_pos e1] at h ⊢
    exact getD_of h
  · rw [if_neg e1] at h ⊢
    by_cases e2 : l < i ∧ i ≤ k
    · rw [if_pos e2] at h ⊢
      exact getD_of h
    · rw [if_neg e2] at h ⊢
      exact getD_of h
theorem bub_arr (a : Arr N p) {k l : Nat} (hk : k < N) (hl : l ≤ k) : Arr N (bubble p k (k - l)) := by
  refine ⟨(bubble_size ..).trans a.size, fun i hi => ?_, fun i j hi hj hij => ?_⟩
  · rw [bub_get a hk hl]
    split
    · exact a.low _ hk
    · split
      · exact a.low _ (by omega)
      · exact a.low _ hi
  · rw [bub_get a hk hl, bub_get a hk hl]
    repeat' split
    all_goals first | (exfalso; omega) | exact a.inj _ _ (by omega) (by omega) (by omega)
theorem bin (o : Ord N lt) : ∀ (f : Nat) (p : Array Nat) (k : Nat), Arr N p → k + f = N → Up lt p k → ∃ q, run lt (kas_bin f p k) = q ∧ Arr N q ∧ Up lt q N
  | 0, p, k, a, hf, u => ⟨p, rfl, a, by rw [← hf]; exact u⟩
  | f + 1, p, k, a, hf, u => by
    unfold kas_bin
    rw [run_bind]
    obtain ⟨q1, q2, q3⟩ := place o a (k := k) (by omega) u k 0 k (by omega) (Nat.le_refl _) (by omega) (fun i hi => by omega) (fun i hi hik => by omega)
    generalize run lt (kas_place p k k 0 k) = l at q1 q2 q3
    refine bin o f _ (k + 1) (bub_arr a (by omega) q1) (by omega) fun i j hij hj => ?_
    rw [bub_get a (by omega) q1, bub_get a (by omega) q1]
    repeat' split
    all_goals first | (exfalso; omega) | (exact q2 _ (by omega)) | (exact q3 _ (by omega) (by omega)) | (exact u _ _ (by omega) (by omega))
end
theorem arr_range (N : Nat) : Arr N (List.toArray (List.range N)) := by
  have g : ∀ i, i < N → (List.toArray (List.range N)).getD i 0 = i := fun i hi => by
    rw [Array.getD_eq_getD_getElem?]
    simp [hi]
  refine ⟨by simp, fun i hi => by rw [g i hi]; exact hi, fun i j hi hj h => by rw [g i hi, g j hj]; exact h⟩
theorem sort_ok {N : Nat} {lt : Nat → Nat → Bool} (o : Ord N lt) (h2 : 2 ≤ N) : Arr N (run lt (kas_sort N)) ∧ Up lt (run lt (kas_sort N)) N := by
  unfold kas_sort
  rw [run_bind]
  obtain ⟨m, q, e, a, h1, hm, u⟩ := count o (arr_range N) h2
  rw [e]
  show Arr N (run lt (if m < N then kas_bin (N - max m 1) q (max m 1) else .ret q)) ∧ Up lt (run lt (if m < N then kas_bin (N - max m 1) q (max m 1) else .ret q)) N
  have em : max m 1 = m := by omega
  rw [em]
  by_cases h : m < N
  · rw [if_pos h]
    obtain ⟨q', e', a', u'⟩ := bin o (N - m) q m a (by omega) u
    rw [e']
    exact ⟨a', u'⟩
  · rw [if_neg h]
    have : m = N := by omega
    subst this
    exact ⟨a, u⟩
end Srt
namespace Srt
open PySem PySem.W PyProof.Rows
def Fair {α : Type} (N : Nat) (lt : Nat → Nat → Bool) : KasT α → Prop
  | .ret _ => True
  | .ask i j k => i < N ∧ j < N ∧ Fair N lt (k (lt i j))
theorem fair_bind {α β : Type} {N : Nat} {lt : Nat → Nat → Bool} {f : α → KasT β} : ∀ {t : KasT α}, Fair N lt t → Fair N lt (f (run lt t)) → Fair N lt (t.bind f)
  | .ret _, _, h => h
  | .ask i j k, ⟨h1, h2, h3⟩, h => ⟨h1, h2, fair_bind (t := k (lt i j)) h3 h⟩
theorem wp_run {α : Type} {N : Nat} {lt : Nat → Nat → Bool} {cmp : Nat → Nat → (Bool → Shared → Prop) → Shared → Prop} {s : Shared} (hc : ∀ i j C, i < N → j < N → C (lt i j) s → cmp i j C s) {Q : α → Shared → Prop} : ∀ {t : KasT α}, Fair N lt t → Q (run lt t) s → t.kasWp cmp Q s
  | .ret _, _, h => h
  | .ask i j k, ⟨h1, h2, h3⟩, h => hc i j _ h1 h2 (wp_run hc (t := k (lt i j)) h3 h)
def Lo (N : Nat) (p : Array Nat) : Prop := ∀ i, p.getD i 0 < N
theorem Lo.perm {N : Nat} {p q : Array Nat} (h : Lo N p) (hN : 0 < N) (e : q.Perm p) : Lo N q := fun i => by
  by_cases hi : i < q.size
  · have hm : q[i] ∈ p := e.mem_iff.mp (Array.getElem_mem hi)
    obtain ⟨j, hj, ej⟩ := Array.mem_iff_getElem.mp hm
    have := h j
    simp only [Array.getD, hj, hi, dif_pos] at this ⊢
    rw [show q.getInternal i hi = q[i] from rfl, ← ej]
    exact this
  · simp only [Array.getD, hi, dif_neg, not_false_eq_true]
    exact hN
section
variable {N : Nat} {lt : Nat → Nat → Bool}
theorem fair_asc {p : Array Nat} (h : Lo N p) : ∀ f n, Fair N lt (kas_asc p f n)
  | 0, _ => trivial
  | f + 1, n => ⟨h _, h _, by
    by_cases e : lt (p.getD n 0) (p.getD (n - 1) 0) = true
    · dsimp only; rw [if_pos e]; trivial
    · dsimp only; rw [if_neg e]; exact fair_asc h f (n + 1)⟩
theorem desc_lo (hN : 0 < N) : ∀ f (p : Array Nat) n q, Lo N p → Fair N lt (kas_desc f p n q) ∧ Lo N (run lt (kas_desc f p n q)).1
  | 0, _, _, _, h => ⟨trivial, h⟩
  | f + 1, p, n, q, h => by
    by_cases e : lt (p.getD n 0) (p.getD (n - 1) 0) = true
    · by_cases hq : q > 0
      · have ih := desc_lo hN f (kas_rev p (n - (q + 1)) n) (n + 1) 0 (h.perm hN (mirror_perm ..))
        have er : run lt (kas_desc (f + 1) p n q) = run lt (kas_desc f (kas_rev p (n - (q + 1)) n) (n + 1) 0) := by
          show run lt (if lt (p.getD n 0) (p.getD (n - 1) 0) = true then (if q > 0 then kas_desc f (kas_rev p (n - (q + 1)) n) (n + 1) 0 else kas_desc f p (n + 1) 0) else _) = _
          rw [if_pos e, if_pos hq]
        refine ⟨⟨h _, h _, ?_⟩, by rw [er]; exact ih.2⟩
        dsimp only
        rw [if_pos e, if_pos hq]
        exact ih.1
      · have ih := desc_lo hN f p (n + 1) 0 h
        have er : run lt (kas_desc (f + 1) p n q) = run lt (kas_desc f p (n + 1) 0) := by
          show run lt (if lt (p.getD n 0) (p.getD (n - 1) 0) = true then (if q > 0 then kas_desc f (kas_rev p (n - (q + 1)) n) (n + 1) 0 else kas_desc f p (n + 1) 0) else _) = _
          rw [if_pos e, if_neg hq]
        refine ⟨⟨h _, h _, ?_⟩, by rw [er]; exact ih.2⟩
        dsimp only
        rw [if_pos e, if_neg hq]
        exact ih.1
    · by_cases d : lt (p.getD (n - 1) 0) (p.getD n 0) = true
      · have er : run lt (kas_desc (f + 1) p n q) = (p, n, q) := by
          show run lt (if lt (p.getD n 0) (p.getD (n - 1) 0) = true then _ else KasT.ask (p.getD (n - 1) 0) (p.getD n 0) fun d => if d = true then .ret (p, n, q) else kas_desc f p (n + 1) (q + 1)) = _
          rw [if_neg e]
          show run lt (if lt (p.getD (n - 1) 0) (p.getD n 0) = true then KasT.ret (p, n, q) else kas_desc f p (n + 1) (q + 1)) = _
          rw [if_pos d]
          rfl
        refine ⟨⟨h _, h _, ?_⟩, by rw [er]; exact h⟩
        dsimp only
        rw [if_neg e]
        refine ⟨h _, h _, ?_⟩
        dsimp only
        rw [if_pos d]
        trivial
      · have ih := desc_lo hN f p (n + 1) (q + 1) h
        have er : run lt (kas_desc (f + 1) p n q) = run lt (kas_desc f p (n + 1) (q + 1)) := by
          show run lt (if lt (p.getD n 0) (p.getD (n - 1) 0) = true then _ else KasT.ask (p.getD (n - 1) 0) (p.getD n 0) fun d => if d = true then .ret (p, n, q) else kas_desc f p (n + 1) (q + 1)) = _
          rw [if_neg e]
          show run lt (if lt (p.getD (n - 1) 0) (p.getD n 0) = true then KasT.ret (p, n, q) else kas_desc f p (n + 1) (q + 1)) = _
          rw [if_neg d]
        refine ⟨⟨h _, h _, ?_⟩, by rw [er]; exact ih.2⟩
        dsimp only
        rw [if_neg e]
        refine ⟨h _, h _, ?_⟩
        dsimp only
        rw [if_neg d]
        exact ih.1
theorem tail_lo (hN : 0 < N) {p : Array Nat} (h : Lo N p) (n m : Nat) : Fair N lt (kas_tail3 n m p) ∧ Lo N (run lt (kas_tail3 n m p)).2 := by
  have h' : Lo N (kas_rev p 0 n) := h.perm hN (mirror_perm ..)
  refine ⟨fair_bind (fair_asc h' _ _) trivial, ?_⟩
  unfold kas_tail3
  rw [run_bind]
  exact h'
theorem part_lo (hN : 0 < N) {p : Array Nat} (h : Lo N p) (n m : Nat) : Fair N lt (kas_descPart n m p) ∧ Lo N (run lt (kas_descPart n m p)).2 := by
  obtain ⟨d1, d2⟩ := desc_lo (lt := lt) hN (m - (n + 1)) p (n + 1) 0 h
  unfold kas_descPart
  rw [run_bind]
  generalize hr : run lt (kas_desc (m - (n + 1)) p (n + 1) 0) = r at d2
  by_cases e : r.2.2 > 0
  · obtain ⟨t1, t2⟩ := tail_lo (lt := lt) hN (d2.perm hN (mirror_perm r.1 (r.2.1 - (r.2.2 + 1)) r.2.1 ((r.2.1 - (r.2.1 - (r.2.2 + 1))) / 2))) r.2.1 m
    refine ⟨fair_bind d1 ?_, ?_⟩
    · rw [hr, if_pos e]; exact t1
    · rw [if_pos e]; exact t2
  · obtain ⟨t1, t2⟩ := tail_lo (lt := lt) hN d2 r.2.1 m
    refine ⟨fair_bind d1 ?_, ?_⟩
    · rw [hr, if_neg e]; exact t1
    · rw [if_neg e]; exact t2
theorem count_lo (hN : 0 < N) {p : Array Nat} (h : Lo N p) (m : Nat) : Fair N lt (kas_count m p) ∧ Lo N (run lt (kas_count m p)).2 := by
  have a1 := fair_asc (lt := lt) h (m - 1) 1
  unfold kas_count
  rw [run_bind]
  generalize hr : run lt (kas_asc p (m - 1) 1) = n
  by_cases e : (n == m) = true
  · refine ⟨fair_bind a1 ?_, ?_⟩
    · rw [hr, if_pos e]; trivial
    · rw [if_pos e]; exact h
  · by_cases h1 : n > 1
    · obtain ⟨t1, t2⟩ := part_lo (lt := lt) hN (h.perm hN (mirror_perm p 0 n ((n - 0) / 2))) n m
      by_cases c : lt (p.getD 0 0) (p.getD (n - 1) 0) = true
      · refine ⟨fair_bind a1 ?_, ?_⟩
        · rw [hr, if_neg e, if_pos h1]
          exact ⟨h _, h _, by dsimp only; rw [if_pos c]; trivial⟩
        · rw [if_neg e, if_pos h1]
          show Lo N (run lt (if lt (p.getD 0 0) (p.getD (n - 1) 0) = true then KasT.ret (n, p) else kas_descPart n m (kas_rev p 0 n))).2
          rw [if_pos c]
          exact h
      · refine ⟨fair_bind a1 ?_, ?_⟩
        · rw [hr, if_neg e, if_pos h1]
          exact ⟨h _, h _, by dsimp only; rw [if_neg c]; exact t1⟩
        · rw [if_neg e, if_pos h1]
          show Lo N (run lt (if lt (p.getD 0 0) (p.getD (n - 1) 0) = true then KasT.ret (n, p) else kas_descPart n m (kas_rev p 0 n))).2
          rw [if_neg c]
          exact t2
    · obtain ⟨t1, t2⟩ := part_lo (lt := lt) hN h n m
      refine ⟨fair_bind a1 ?_, ?_⟩
      · rw [hr, if_neg e, if_neg h1]; exact t1
      · rw [if_neg e, if_neg h1]; exact t2
theorem fair_place {p : Array Nat} (h : Lo N p) (k : Nat) : ∀ f l r, Fair N lt (kas_place p k f l r)
  | 0, _, _ => trivial
  | f + 1, l, r => by
    unfold kas_place
    by_cases e : l ≥ r
    · rw [if_pos e]; trivial
    · rw [if_neg e]
      refine ⟨h _, h _, ?_⟩
      by_cases c : lt (p.getD k 0) (p.getD ((l + r) / 2) 0) = true
      · dsimp only; rw [if_pos c]; exact fair_place h k f _ _
      · dsimp only; rw [if_neg c]; exact fair_place h k f _ _
theorem fair_bin (hN : 0 < N) : ∀ f (p : Array Nat) k, Lo N p → Fair N lt (kas_bin f p k)
  | 0, _, _, _ => trivial
  | f + 1, p, k, h => fair_bind (fair_place h k k 0 k) (fair_bin hN f _ _ (h.perm hN (bubble_perm ..)))
theorem fair_sort (hN : 0 < N) : Fair N lt (kas_sort N) := by
  have lo : Lo N (List.toArray (List.range N)) := fun i => by
    by_cases hi : i < N
    · exact (arr_range N).low i hi
    · rw [Array.getD_eq_getD_getElem?]
      simp [hi]
      exact hN
  obtain ⟨c1, c2⟩ := count_lo (lt := lt) hN lo N
  refine fair_bind c1 ?_
  split
  · exact fair_bin hN _ _ _ c2
  · trivial
end
end Srt
namespace L2
open PySem PySem.Spec PyProof.Rows
open PySem.W (KatLex kat_lt kat_cons kat_yes kat_no kat_nil kat_one kat_kind KatTups kat_run kat_snds kas_sort kas_ask kas_item)
section
variable {prog : Program} {w : World} {A : Around} {E : Value → Shared → Prop} {s : Shared}
end
end L2
namespace L2
open PySem PySem.Spec PyProof.Rows PySem.SeqAt
open AutoSeq1 (wpAny_loadPart')
theorem slot_rev_init : Slot "reversed" "__init__" "object.__init__" :=
  .of (owner := "object") (n := "__init__") (by rw [typeLookup_type, builtinLookup_eq_fast]; kernel_rfl) (by decide +kernel) (by decide +kernel) (by decide +kernel)
    (by first | exact .inl (by decide +kernel) | exact .inr (by decide +kernel)) (by rw [isSubtype_type]; kernel_rfl)
theorem slot_rev_next : Slot "reversed" "__next__" "reversed.__next__" :=
  .of (owner := "reversed") (n := "__next__") (by rw [typeLookup_type, builtinLookup_eq_fast]; kernel_rfl) (by decide +kernel) (by decide +kernel) (by decide +kernel)
    (by first | exact .inl (by decide +kernel) | exact .inr (by decide +kernel)) (by rw [isSubtype_type]; kernel_rfl)
theorem slot_rev_iter : Slot "reversed" "__iter__" "reversed.__iter__" :=
  .of (owner := "reversed") (n := "__iter__") (by rw [typeLookup_type, builtinLookup_eq_fast]; kernel_rfl) (by decide +kernel) (by decide +kernel) (by decide +kernel)
    (by first | exact .inl (by decide +kernel) | exact .inr (by decide +kernel)) (by rw [isSubtype_type]; kernel_rfl)
theorem entry_rev_next : entryFor table "reversed.__next__" = some Builtin.«reversed.__next__» := entryFor_of_tree (by kernel_rfl)
theorem called_rev : TypeCalled "reversed" "reversed.__new__" "object.__init__" := ⟨by decide +kernel, by decide +kernel, ⟨_, _, PySem.F.mro_reversed⟩, PySem.F.made_reversed, by decide +kernel, PySem.F.sub_reversed_self, slot_rev_init⟩
section
variable {prog : Program} {w : World} {A : Around} {E : Value → Shared → Prop} {s : Shared}
theorem owner_rev : Manifest.owners.lookup (String.ofList ['d', 'e', 's', 'r', 'e', 'v', 'e', 'r'].reverse) = some Manifest.sig_reversed := by kernel_rfl
theorem args_rev_next (a : Value) : argsOk "reversed.__next__" ⟨[a], []⟩ := by
  unfold argsOk; rw [signature?_of (id := "reversed.__next__") (n := ['_', '_', 't', 'x', 'e', 'n', '_', '_']) (o := ['d', 'e', 's', 'r', 'e', 'v', 'e', 'r']) (by kernel_rfl) owner_rev]; kernel_rfl
theorem args_rev_iter (a : Value) : argsOk "reversed.__iter__" ⟨[a], []⟩ := by
  unfold argsOk; rw [signature?_of (id := "reversed.__iter__") (n := ['_', '_', 'r', 'e', 't', 'i', '_', '_']) (o := ['d', 'e', 's', 'r', 'e', 'v', 'e', 'r']) (by kernel_rfl) owner_rev]; kernel_rfl
theorem entry_rev_iter : entryFor table "reversed.__iter__" = some Builtin.«dict_keyiterator.__iter__» :=
  entryFor_alias (id' := "dict_keyiterator.__iter__") (by kernel_rfl) (by first | rfl | decide +kernel | (unfold String.splitOn; simp +decide [String.splitOnAux])) (by decide +kernel) (by kernel_rfl)
end
section
variable {prog : Program} {w : World} {A : Around} {E : Value → Shared → Prop} {s : Shared}
end
section
variable {X : Cx} {a : Expr} {ta : TE} {p1 p2 c1 c2 : Pos}
end
end L2
namespace L2
open PySem PySem.Spec PyProof.Rows PySem.SeqAt
section
variable {X : Cx}
variable {α : Type} [DecidableEq α] {D : Den α} {d : Nat}
end
end L2
namespace L2
open PySem PySem.Spec PyProof.Rows PySem.SeqAt
section
variable {X : Cx} {α : Type} [DecidableEq α] {D : Den α} {d : Nat}
end
end L2
namespace L2
open PySem PySem.Spec PyProof.Rows
end L2
namespace L2
open PySem PySem.Spec PyProof.Rows
section
variable {X : Cx}
end
end L2
namespace L2
open PySem PySem.Spec PyProof.Rows
theorem ObjOk.there {P : Program} {w : World} {H : Hp} {h : Heap} {a : Addr} {o : HO} (x : ObjOk P w H h a o) : ∃ ob, h.get? a = some ob := by
  cases o with
  | lst xs => obtain ⟨_, _, _, _, e⟩ := x; exact ⟨_, e⟩
  | tup xs => obtain ⟨_, _, _, ob, e, _⟩ := x; exact ⟨_, e⟩
  | dK kvs => obtain ⟨_, _, _, _, o, _, _, e, _⟩ := x; exact ⟨_, e⟩
  | dT kvs => obtain ⟨_, _, _, _, o, _, _, e, _⟩ := x; exact ⟨_, e⟩
  | set S n => obtain ⟨o, _, _, _, e, _⟩ := x; exact ⟨_, e⟩
  | ins C dx fs => obtain ⟨_, _, _, e, _⟩ := x; exact ⟨_, e⟩
  | own y => obtain ⟨_, e⟩ := x; exact ⟨_, e⟩
  | xd fs => obtain ⟨_, ⟨_, _, _, e, _⟩, _⟩ := x; exact ⟨_, e⟩
  | rng lo hi => obtain ⟨_, _, _, e⟩ := x; exact ⟨_, e⟩
  | frz ob u => obtain ⟨e, _⟩ := x; exact ⟨_, e⟩
  | tbl ps => exact ⟨_, (show h.get? a = some _ from x)⟩
  | met f y => exact ⟨_, (show h.get? a = some _ from x)⟩
  | ext φ => obtain ⟨_, ⟨_, e⟩, _⟩ := x; exact ⟨_, e⟩
structure Fly (P : Program) (w : World) (outer : List Env) (H : Hp) (s : Shared) (ea : Addr) (cls : Value) (H' : Hp) (B : Heap) (s' : Shared) : Prop where
  os : s'.os = s.os
  bare : AllBare s'.gens
  un : Un (frs outer) [] H H' s.heap s'.heap
  hok : HOk P w H' B
  kb : ∀ b o, s.heap.get? b = some o → H b = none → b ∉ frs outer → B.get? b = some o
  tb : ∀ b o, s.heap.get? b = some o → b ∉ frs outer → ∃ o', B.get? b = some o'
  fly : ∃ a0, Heap.FlyingW B outer ea cls a0 s'.heap
theorem Fly.out {P : Program} {w : World} {outer : List Env} {H H' : Hp} {s s' : Shared} {ea : Addr} {cls : Value} {B : Heap} (F : Fly P w outer H s ea cls H' B s') : H' ea = none := by
  obtain ⟨_, f⟩ := F.fly
  cases q : H' ea with
  | none => rfl
  | some o =>
    obtain ⟨ob, e⟩ := (F.hok ea o q).there
    rw [f.2.1] at e
    cases e
def CXr (P : Program) (w : World) : CXT := fun outer H s E e s' => ∃ ea cls H' B, e = .ref ea ∧ Fly P w outer H s ea cls H' B s' ∧ E cls none H'
section
variable {X : Cx} {pins : List (Addr × Obj)} {σ : St} {H H' : Hp} {s s' : Shared} {ea : Addr} {cls : Value} {B : Heap} {M : Model} {Ex : Value → Shared → Prop}
structure OwnCx (X : Cx) : Prop where
  stack : X.stack = X.env :: X.outer
  frame : X.env.frame = some X.env.locals
  ex : X.ex = []
theorem OwnCx.sub (O : OwnCx X) {b : Addr} (h : b ∈ frs X.stack) : b = X.env.locals ∨ b ∈ X.fs := by
  rw [O.stack] at h
  unfold frs at h
  rw [List.filterMap_cons, O.frame] at h
  exact List.mem_cons.mp h
theorem OwnCx.sup (O : OwnCx X) {b : Addr} (h : b ∈ X.fs) : b ∈ frs X.stack := by
  rw [O.stack]
  unfold frs
  rw [List.filterMap_cons, O.frame]
  exact List.mem_cons_of_mem _ h
theorem OwnCx.not (O : OwnCx X) (I : Inv X pins σ H s) {b : Addr} {o : Obj} (e : X.s₀.heap.get? b = some o) (h : b ∉ X.fs) : b ∉ frs X.stack := fun z => by
  rcases O.sub z with q | q
  · have := Heap.lt_size e
    rw [q] at this
    exact absurd (Nat.lt_of_lt_of_le this I.ok.above) (Nat.lt_irrefl _)
  · exact h q
theorem OwnCx.base (O : OwnCx X) (I : Inv X pins σ H s) : Un X.fs [] X.H₀ H X.s₀.heap s.heap := by
  have h := I.base
  rw [O.ex] at h
  exact h
theorem OwnCx.nofields (O : OwnCx X) (I : Inv X pins σ H s) {b : Addr} {o : Obj} (h : b ∈ X.fs) (e : X.s₀.heap.get? b = some o) : ∀ vs, o.data ≠ .fields vs := by
  obtain ⟨_, o', e', hd⟩ := I.ok.funs.mem h
  rw [e] at e'
  cases e'
  exact hd
theorem un_leave (O : OwnCx X) (I : Inv X pins σ H s) {h1 h2 : Heap} (u : Un (frs X.stack) [] H H' s.heap h1) (kb : ∀ b o, s.heap.get? b = some o → H b = none → b ∉ frs X.stack → h2.get? b = some o)
    (tb : ∀ b o, s.heap.get? b = some o → b ∉ frs X.stack → ∃ o', h2.get? b = some o') (up : h1.UpToSlots h2) : Un X.fs [] X.H₀ H' X.s₀.heap h2 := by
  have b0 := O.base I
  have fr : ∀ b o, X.s₀.heap.get? b = some o → X.H₀ b = none → b ∈ X.fs → ∃ sl, h2.get? b = some { o with slots := sl } := fun b o q n hb => by
    obtain ⟨s1, e1⟩ := b0.slot b o q n hb (by simp)
    obtain ⟨s2, e2⟩ := u.slot b _ e1 (b0.free b o q n (by simp)) (O.sup hb) (by simp)
    obtain ⟨s3, e3⟩ := up b _ e2 (show ∀ vs, o.data ≠ .fields vs from O.nofields I hb q)
    exact ⟨s3, e3⟩
  refine ⟨fun b o q n hb _ => kb b o (b0.keep b o q n hb (by simp)) (b0.free b o q n (by simp)) (O.not I q hb), fun b o q n hb _ => fr b o q n hb, fun b o q n _ => ?_, fun b o q _ => ?_, fun b xs q => u.tups b xs (b0.tups b xs q), fun b o v q => u.frzs b o v (b0.frzs b o v q), fun b ps q => ?_⟩
  · obtain ⟨o1, e1⟩ := b0.there b o q (by simp)
    exact u.free b o1 e1 (b0.free b o q n (by simp)) (by simp)
  · by_cases hb : b ∈ X.fs
    · obtain ⟨sl, e⟩ := fr b o q (I.ok.frf b hb) hb
      exact ⟨_, e⟩
    · obtain ⟨o1, e1⟩ := b0.there b o q (by simp)
      exact tb b o1 e1 (O.not I q hb)
  · obtain ⟨m1, e1⟩ := b0.tbls b ps q
    obtain ⟨m2, e2⟩ := u.tbls b _ e1
    exact ⟨m1 ++ m2, by rw [e2, Array.append_assoc]⟩
theorem fly_made (O : OwnCx X) (I : Inv X pins σ H s) {h' : Heap} {vs : List Value} (hm : Heap.MadeExcOf s.heap h' ea cls vs) {Q : Unit → Shared → Prop}
    (k : ∀ s'' B, Fly X.prog X.w X.outer X.H₀ X.s₀ ea cls H B s'' → Q () s'') : wpAny M X.A (leaving X.env (.ref ea)) Q Ex { s with heap := h' } := by
  have hin : ∀ env ∈ X.stack, ∀ b, env.frame = some b → b ∈ frs X.stack := fun env he b hb => List.mem_filterMap.mpr ⟨env, he, hb⟩
  have hfr : X.A.frames = some (X.env :: X.outer) := by rw [← O.stack]; exact I.ok.frames
  have hff : s.heap.FunFrames (PySem.W.hideAll s.heap (frs X.stack)) (X.env :: X.outer) := by
    have := PySem.W.funFrames_hide I.stack hin
    rw [O.stack] at this ⊢
    exact this
  refine wpAny_leaves_madeW hfr O.frame (fun b o q => PySem.W.of_hideAll _ q) hff hm fun h2 t x1 x2 x3 x4 => k _ (PySem.W.hideAll s.heap (frs X.stack)) ?_
  have kb : ∀ b o, s.heap.get? b = some o → b ∉ frs X.stack → (PySem.W.hideAll s.heap (frs X.stack)).get? b = some o := fun b o q hb => PySem.W.hideAll_get _ q hb
  have b0 := O.base I
  refine ⟨I.os, I.bare, un_leave O I (h1 := h') (Un.kept hm.keeps) (fun b o q _ hb => x1.1 b o (kb b o q hb)) (fun b o q hb => ⟨o, x1.1 b o (kb b o q hb)⟩) x4, fun a o e => ?_, fun b o q n hb => ?_, fun b o q hb => ?_, ⟨_, x1⟩⟩
  · refine (I.hok a o e).stay (fun b u hb q => kb b u q fun z => ?_) (fun _ q => q) fun _ _ q => q
    have n := I.stkFree b z
    rcases hb with rfl | hb
    · rw [n] at e; cases e
    · rw [n] at hb; cases hb
  · exact kb b o (b0.keep b o q n hb (by simp)) (O.not I q hb)
  · obtain ⟨o', e'⟩ := b0.there b o q (by simp)
    exact ⟨o', kb b o' e' (O.not I q hb)⟩
theorem fly_on (O : OwnCx X) (I : Inv X pins σ H s) (F : Fly X.prog X.w X.stack H s ea cls H' B s') {Q : Unit → Shared → Prop}
    (k : ∀ s'', Fly X.prog X.w X.outer X.H₀ X.s₀ ea cls H' B s'' → Q () s'') : wpAny M X.A (leaving X.env (.ref ea)) Q Ex s' := by
  have hfr : X.A.frames = some (X.env :: X.outer) := by rw [← O.stack]; exact I.ok.frames
  obtain ⟨a0, f⟩ := F.fly
  rw [O.stack] at f
  have b0 := O.base I
  refine wpAny_leaves_onW hfr O.frame f fun h2 x1 x2 => k _ ⟨F.os.trans I.os, F.bare, ?_, F.hok, fun b o q n hb => ?_, fun b o q hb => ?_, ⟨a0, x1⟩⟩
  · refine un_leave O I F.un (fun b o q n hb => x1.1 b o (F.kb b o q n hb)) (fun b o q hb => ?_) x2
    obtain ⟨o', e⟩ := F.tb b o q hb
    exact ⟨o', x1.1 b o' e⟩
  · exact F.kb b o (b0.keep b o q n hb (by simp)) (b0.free b o q n (by simp)) (O.not I q hb)
  · obtain ⟨o', e'⟩ := b0.there b o q (by simp)
    exact F.tb b o' e' (O.not I q hb)
def Raises (X : Cx) (E : XK) : Prop := ∀ (pins : List (Addr × Obj)) (σ : St) (H : Hp) (s : Shared) (ea : Addr) (cls : Value) (h' : Heap) (vs : List Value), Inv X pins σ H s → Heap.MadeExcOf s.heap h' ea cls vs → E cls none H → X.xe (.ref ea) { s with heap := h' }
end
section
variable {P : Program} {w : World} {K : PySem.W.Frag} {mg : Str → Option Value} {base : Heap} {N : List Str} {qual : Str} {scope : Scope} {f : Addr} {cd : Value} {A : Around} {outer : List Env} {s : Shared} {H : Hp} {E : XK}
theorem own_cx {CX : CXT} : OwnCx (cxOf CX P w K mg base N qual scope f cd A outer s H E) := ⟨rfl, rfl, rfl⟩
theorem passR : Passes (CXr P w) (cxOf (CXr P w) P w K mg base N qual scope f cd A outer s H E) E := by
  rintro pins σ H1 s1 e s' I ⟨ea, cls, H', B, rfl, F, hE⟩
  exact fly_on own_cx I F fun s'' F' => ⟨ea, cls, H', B, rfl, F', hE⟩
theorem raisesR : Raises (cxOf (CXr P w) P w K mg base N qual scope f cd A outer s H E) E := by
  rintro pins σ H1 s1 ea cls h' vs I hm hE
  exact fly_made own_cx I hm fun s'' B F' => ⟨ea, cls, H1, B, rfl, F', hE⟩
end
end L2
namespace L2
open PySem PySem.Spec PyProof.Rows
abbrev bmV : List Value := [.type "ValueError", .type "Exception", .type "BaseException", .type "object"]
def isExcB (K : PySem.W.Frag) (C : Addr) : Bool := PySem.W.excIn K C bmV "ValueError.__new__"
theorem exc_obj {K : PySem.W.Frag} {h : Heap} {C : Addr} (X : K.In h) (q : isExcB K C = true) : ∃ bm N nm qn bs hdct sn sub ab col dd k0 k1 k2 k3 k5 mN,
    h.get? C = some (excClassObj nm qn C N bs bm hdct sn sub ab col dd k0 k1 k2 k3 k5 "ValueError.__new__") ∧ h.Ns N mN ∧ mN "__init__" = none ∧ OwnTail h bmV bm := by
  unfold isExcB PySem.W.excIn at q
  split at q
  · rename_i dd cd sl ho
    split at q
    · rename_i C' bm k0 k1 k2 k3 n k5 hm hs
      simp only [Bool.and_eq_true, beq_iff_eq, Bool.not_eq_true'] at q
      obtain ⟨⟨⟨⟨⟨rfl, rfl⟩, hdel⟩, ht⟩, hok⟩, hni⟩ := q
      obtain ⟨nm, bs, mro, ns, qn, hd, sn, sub, ab, col, del⟩ := cd
      dsimp only at hm hdel hok hni
      subst hm hdel
      have hsl : sl = #[k0, k1, k2, k3, some (.builtin "ValueError.__new__"), k5] := by
        obtain ⟨l⟩ := sl
        simp only at hs
        rw [hs]
      subst hsl
      exact ⟨bm, ns, nm, qn, bs, hd, sn, sub, ab, col, dd, k0, k1, k2, k3, k5, _, X _ _ ho, .of_isNs (PySem.W.isNs_of_in X hok), PySem.W.nsMap_none_of_in X hok hni, PySem.W.tail_of_in X ht⟩
    · cases q
  · cases q
section
variable {X : Cx} {E : XK} {C : Addr} {x : Str} {np cpos pos : Pos} {e : Expr} {es : List Expr} {t : TA}
def tRaise (C : Addr) (E : XK) (t : TA) : TS := fun _ σ H => t σ H fun vs H1 => vs.length ≤ sizeLine ∧ E (.ref C) none H1
theorem ps_raise (hR : Raises X E) (hc : X.calm = true) (hg : Gl X x) (hm : X.mg x = some (.ref C)) (hq : isExcB X.K C = true) (ha : PA X (e :: es) t) (hdb : (x == ("__debug__" : Str)) = false := by decide)
    (he : starEach (e :: es) X.env = (false, eval e X.env) :: starEach es X.env := by rfl) (hpl : (backTo cpos (starEach es X.env)).any (·.1) = false := by rfl) :
    PS X (.Raise (some (.Call (.Name x np) (e :: es) [] cpos)) none pos) (tRaise C E t) := by
  intro pins s σ H D I h
  obtain ⟨bm, N, nm, qn, bs, hdct, sn, sub, ab, col, dd, k0, k1, k2, k3, k5, mN, hC, hN, hni, T⟩ := exc_obj I.ok.mod.kin hq
  refine wpAny_Raise_call_subT (C := C) (nm := nm) (q := qn) (N := N) (bs := bs) (bm := bm) (hdct := hdct) (sn := sn) (sub := sub) (ab := ab) (col := col) (dd := dd) (k0 := k0) (k1 := k1) (k2 := k2) (k3 := k3) (k5 := k5)
    PySem.F.excBase_ValueError (mN := mN) (T.hasType PySem.F.excBase_ValueError.hasBase) (I.ok.hd hc) (by rw [he]; show (false || (backTo cpos (starEach es X.env)).any (·.1)) = false; rw [hpl]; rfl) hni (ld_glob I hg hm ⟨rfl, ?_⟩ hdb)
  have h2 := ha cpos pins s σ H _ I h
  rw [he] at h2 ⊢
  refine Calls.evalArgs_plain (wpAny_mono h2 (fun us s1 ⟨vs, H1, I1, r1, q1⟩ => ⟨rfl, ?_, I1.bk _ _ hC, hN.keeps I1.bk, T.keeps I1.bk, fun h' ea hm' => hR pins σ H1 s1 ea _ h' _ I1 hm' q1.2⟩) fun _ _ y => y)
  rw [← r1.length]
  exact q1.1
end
section
variable {P : Program} {w : World} {K : PySem.W.Frag} {mg : Str → Option Value} {base : Heap}
theorem Fun.okR {x qual : Str} {st : Stmt} {f : Addr} {fd : FuncData} {N ps : List Str} {k : Nat} {sp : Sp} (F : Fun K x qual st f fd) (S : FnScope N ps (defScope st)) (len : ∀ vs H Q E, sp vs H Q E → vs.length = ps.length)
    (hbody : ∀ (cdv : Value) (A : Around) (outer : List Env) (s : Shared) (H : Hp) (vs : List V) (Q : VK) (E : XK), Room k (A.deeper (envOfC qual (defScope st) s.heap.objs.size f cdv)) → sp vs H Q E →
      ∃ t, PSs (cxOf (CXr P w) P w K mg base N qual (defScope st) f cdv A outer s H E) (defBody st) t ∧ t { nx := fun _ H' => Q .non H', rt := Q } (start N vs) H) : FnOk P w K mg base (CXr P w) (k + 1) f fd ps sp := by
  obtain ⟨oc, od, kV, doc, pm, an, cdv, ct, osl, rfl, lk, hcd⟩ := F.ex
  exact fn_of lk hcd S len fun A outer s H vs Q E hr hsp => hbody cdv A outer s H vs Q E hr hsp
end
section
variable {X : Cx} {k : Nat} {f : Addr} {fd : FuncData} {ps : List Str} {sp : Sp} {dvs : List V} {ds : List Value} {E : XK} {x : Str} {p pos : Pos} {e : Expr} {es : List Expr} {t : TA}
def Flown (X : Cx) (pins : List (Addr × Obj)) (σ : St) (E : XK) (e : Value) (s' : Shared) : Prop := ∃ H1 s1, Inv X pins σ H1 s1 ∧ CXr X.prog X.w X.stack H1 s1 E e s'
theorem ex_call {pins : List (Addr × Obj)} {σ : St} {H : Hp} {s : Shared} {Q : VK} (F : FnOk X.prog X.w X.K X.mg X.base (CXr X.prog X.w) k f fd ps sp) (hr : Room k X.A) (hg : Gl X x) (hm : X.mg x = some (.ref f)) (hk : PySem.W.keepIn X.K (.ref f) = true) (hb : Binds X.K fd ps ds) (hd : Vals dvs ds)
    (ha : PA X.nox (e :: es) t) (I : Inv X pins σ H s) (h : tCall sp dvs E t σ H Q) (hdb : (x == ("__debug__" : Str)) = false := by decide) (he : starEach (e :: es) X.env = (false, eval e X.env) :: starEach es X.env := by rfl) (hpl : (backTo pos (starEach es X.env)).any (·.1) = false := by rfl) :
    wpAny (model X.prog X.w) X.A (eval (.Call (.Name x p) (e :: es) [] pos) X.env) (EP X pins σ Q) (Flown X pins σ E) s := by
  refine wpAny_Call_Name_kw (ld_glob I hg hm ?_ hdb)
  refine PySem.W.callWith_K (h₀ := X.base) I.ok.mod.kin hk (wpAny_mono (ha pos pins s σ H _ (I.wish _) h) (fun us s1 ⟨vs, H1, I1, r, q⟩ => ⟨I1.kIn, ?_⟩) fun _ _ z => False.elim z) he hpl
  have I1' : Inv X pins σ H1 s1 := I1.unwish
  have r2 : Vals (vs ++ dvs) (us ++ ds) := r.append hd
  have hl : (us ++ ds).length = ps.length := by rw [← r2.length]; exact F.len _ _ _ _ q
  refine wpAny_call (codeAny_mono (F.run X.A X.stack s1 H1 ⟨us, []⟩ (us ++ ds) (vs ++ dvs) Q E hr I1'.env0 (hb s1 us I1'.kIn hl) r2 q) fun r s' hq => ?_)
  cases r with
  | error e => exact ⟨H1, s1, I1', hq⟩
  | ok fl =>
    cases fl with
    | ret u => exact I1'.after hq
    | next => exact False.elim hq
    | brk => exact False.elim hq
    | cont => exact False.elim hq
end
end L2
namespace L2
open PySem PySem.Spec PyProof.Rows
def ExcAt (ea : Addr) (cls : Value) (h : Heap) : Prop := ∃ ob vs, h.get? ea = some ob ∧ ob.cls = cls ∧ ob.data = .fields vs
section
variable {X : Cx} {pins : List (Addr × Obj)} {σ : St} {H H' : Hp} {s s' : Shared} {ea : Addr} {cls : Value} {B : Heap}
theorem fly_new (I : Inv X pins σ H s) (F : Fly X.prog X.w X.stack H s ea cls H' B s') : s.heap.get? ea = none := by
  obtain ⟨a0, f⟩ := F.fly
  cases q : s.heap.get? ea with
  | none => rfl
  | some o =>
    by_cases hb : ea ∈ frs X.stack
    · obtain ⟨oe, vs, he, _, hd, _⟩ := f.first
      obtain ⟨_, o', ho', hnf⟩ := f.2.2.1.mem hb
      rw [he] at ho'
      cases ho'
      exact absurd hd (hnf vs)
    · obtain ⟨o', e⟩ := F.tb ea o q hb
      rw [f.2.1] at e
      cases e
theorem fly_land (I : Inv X pins σ H s) (F : Fly X.prog X.w X.stack H s ea cls H' B s') {h6 : Heap} {a0 : Value} (fl : Heap.FlyingW B X.stack ea cls a0 h6) (up : s'.heap.UpToSlots h6) : Inv X pins σ (upd H' ea (.ext (ExcAt ea cls))) { s' with heap := h6 } := by
  have out := F.out
  have new := fly_new I F
  have nb : ∀ b o, s.heap.get? b = some o → b ≠ ea := fun b o q z => by rw [z, new] at q; cases q
  obtain ⟨oe, vs, he, hc, hd, _⟩ := fl.first
  have fr : ∀ b o, s.heap.get? b = some o → H b = none → b ∈ frs X.stack → ∃ sl, h6.get? b = some { o with slots := sl } := fun b o q n hb => by
    obtain ⟨s1, e1⟩ := F.un.slot b o q n hb (by simp)
    obtain ⟨_, o', ho', hnf⟩ := I.stack.mem hb
    rw [q] at ho'
    cases ho'
    obtain ⟨s2, e2⟩ := up b _ e1 (show ∀ vs, o.data ≠ .fields vs from hnf)
    exact ⟨s2, e2⟩
  refine I.call' (ch := []) F.os ⟨fun b o q n hb _ => fl.1 b o (F.kb b o q n hb), fun b o q n hb _ => fr b o q n hb, fun b o q n _ => ?_, fun b o q _ => ?_, fun b xs q => ?_, fun b o v q => ?_, fun b ps q => ?_⟩ (fun b o q => ?_) F.bare (fun b z => absurd z (by simp))
  · rw [upd_ne (nb b o q)]
    exact F.un.free b o q n (by simp)
  · by_cases hb : b ∈ frs X.stack
    · obtain ⟨sl, e⟩ := fr b o q (I.stkFree b hb) hb
      exact ⟨_, e⟩
    · obtain ⟨o', e⟩ := F.tb b o q hb
      exact ⟨o', fl.1 b o' e⟩
  · have := F.un.tups b xs q
    rw [upd_ne (ne_of_none this out)]
    exact this
  · have := F.un.frzs b o v q
    rw [upd_ne (ne_of_none this out)]
    exact this
  · obtain ⟨m, this⟩ := F.un.tbls b ps q
    exact ⟨m, by rw [upd_ne (ne_of_none this out)]; exact this⟩
  · by_cases hb : b = ea
    · subst hb
      rw [upd_same] at q
      cases q
      exact ⟨⟨oe, vs, he, hc, hd⟩, ⟨oe, he⟩, fun h h' ⟨ob, vs, e1, e2, e3⟩ k => ⟨ob, vs, k _ e1, e2, e3⟩⟩
    · rw [upd_ne hb] at q
      exact (F.hok b o q).stay (fun c u _ e => fl.1 c u e) (fun c e => by rw [upd_ne (ne_of_none e out)]; exact e) fun c xs e => by rw [upd_ne (ne_of_none e out)]; exact e
theorem gone_ok {M : Model} {A : Around} {E : Value → Shared → Prop} {i : Nat} {n : Str} {pos : Pos} {Q : Unit → Shared → Prop} (I : Inv X pins σ H s) (hN : X.N.Nodup) (hi : X.N[i]? = some n) (hk : X.env.kindOf n = some .local)
    (h : ∀ s', Inv X pins (σ.set i none) H s' → Q () s') : wpAny M A (do bindName X.env n .none; unbindBehindTheSuite X.env n pos) Q E s := by
  obtain ⟨m, hn, hl⟩ := id I.loc
  have hcls : (X.env.scope.kind == .class || (X.env.scope.kind == .module && X.env.locals != X.env.globals)) = false := by rw [I.ok.kind]; rfl
  have hiσ : i < σ.length := by rw [I.len]; exact (List.getElem?_eq_some_iff.mp hi).1
  have cne := I.cne
  obtain ⟨oL, _, _, hoL, _⟩ := id hn
  refine wpAny_nameGoes_keeps hk hn hcls fun h' v hn' hs => h _ ⟨I.ok, I.os, I.bare, ⟨fun b o e n hb hx => ?_, fun b o e n hb hx => ?_, I.base.free, fun b o e hx => ?_, I.base.tups, I.base.frzs, I.base.tbls⟩, ⟨_, hn', fun j y v' e1 e2 e3 => ?_⟩, fun y c e => ?_, I.free, I.freeC, fun p hp => ?_, fun b ob e => ?_, by simpa using I.len⟩
  · exact (hs.2 b (Nat.ne_of_lt (Nat.lt_of_lt_of_le (Heap.lt_size e) I.ok.above))).trans (I.base.keep b o e n hb hx)
  · obtain ⟨sl, e1⟩ := I.base.slot b o e n hb hx
    exact ⟨sl, (hs.2 b (Nat.ne_of_lt (Nat.lt_of_lt_of_le (Heap.lt_size e) I.ok.above))).trans e1⟩
  · obtain ⟨o', e1⟩ := I.base.there b o e hx
    exact ⟨o', (hs.2 b (Nat.ne_of_lt (Nat.lt_of_lt_of_le (Heap.lt_size e) I.ok.above))).trans e1⟩
  · by_cases hj : j = i
    · subst hj
      rw [List.getElem?_set_self hiσ] at e2
      cases e2
    · rw [List.getElem?_set_ne (Ne.symm hj)] at e2
      obtain ⟨u', r', q⟩ := hl j y v' e1 e2 e3
      refine ⟨u', r', ?_⟩
      rcases q with ⟨k, e⟩ | ⟨k, c, e, z⟩
      · refine .inl ⟨k, ?_⟩
        have : y ≠ n := fun e => hj (nodup_ix hN e1 (e ▸ hi))
        simp [this, e]
      · exact .inr ⟨k, c, e, z.sameBut hs (cne y c e)⟩
  · obtain ⟨w', z⟩ := I.cell y c e
    exact ⟨w', z.sameBut hs (cne y c e)⟩
  · obtain ⟨e, n, ne, nf, d⟩ := I.pin p hp
    exact ⟨(hs.2 p.1 ne).trans e, n, ne, nf, d⟩
  · refine (I.hok b ob e).stay (fun c w' hc q => (hs.2 c ?_).trans q) (fun _ q => q) fun _ _ q => q
    rintro rfl
    have hfree := I.free
    rcases hc with rfl | hc
    · rw [hfree] at e; cases e
    · rw [hfree] at hc; cases hc
abbrev Cx.held (X : Cx) (ea : Addr) : Cx := { X with A := X.A.mark (some (.ref ea)), calm := false, xe := fun _ _ => False }
theorem Inv.held (I : Inv X pins σ H s) (ea : Addr) : Inv (X.held ea) pins σ H s :=
  ⟨⟨I.ok.mod, I.ok.kind, I.ok.glob, I.ok.blt, I.ok.above, I.ok.inj, I.ok.has, I.ok.cab, fun z => (by cases z), I.ok.frames, I.ok.stk, I.ok.exf, I.ok.bs, I.ok.bsz, I.ok.noex, I.ok.exfs, I.ok.funs, I.ok.frf⟩, I.os, I.bare, I.base, I.loc, I.cell, I.free, I.freeC, I.pin, I.hok, I.len⟩
theorem Inv.unheld (I : Inv (X.held ea) pins σ H s) (ok : X.Ok) : Inv X pins σ H s := ⟨ok, I.os, I.bare, I.base, I.loc, I.cell, I.free, I.freeC, I.pin, I.hok, I.len⟩
end
section
variable {X : Cx} {E : XK} {i : Nat} {n y : Str} {CB : Addr} {np pos : Pos} {b₀ : Stmt} {suite : List Stmt} {ts : TS} {rest : List ExceptHandler}
def eTry (K : PySem.W.Frag) (CB : Addr) (i : Nat) (ts : TS) (D : Ends) (σ : St) : XK := fun cls _ H => PySem.W.exmOne K cls (.ref CB) = some true ∧ ∀ ea, H ea = none →
  ts { nx := fun σ' H' => D.nx (σ'.set i none) H', rt := D.rt, bk := fun σ' H' => D.bk (σ'.set i none) H', ct := fun σ' H' => D.ct (σ'.set i none) H' } (σ.set i (some (.ref ea))) (upd H ea (.ext (ExcAt ea cls)))
theorem caught {pins : List (Addr × Obj)} {σ : St} {D : Ends} {e : Value} {s' : Shared} (O : OwnCx X) (hN : X.N.Nodup) (hi : X.N[i]? = some n) (hl : X.env.scope.names.lookup n = some .local) (hg : Gl X y) (hm : X.mg y = some (.ref CB))
    (hsuite : ∀ ea, PSs (X.held ea) (b₀ :: suite) ts) (h : Flown X pins σ (eTry X.K CB i ts D σ) e s') (hdb : (y == ("__debug__" : Str)) = false := by decide) :
    wpAny (model X.prog X.w) X.A (noteFrame e X.env) (fun _ s₂ => wpAny (model X.prog X.w) X.A (setFlight e none) (fun _ s₃ => wpAny (model X.prog X.w) X.A (handleBy e X.env (.ExceptHandler (some (.Name y np)) (some n) (b₀ :: suite) pos :: rest)) (SP X pins D) X.xe s₃) X.xe s₂) X.xe s' := by
  obtain ⟨H1, s1, I, ea, cls, H', B, rfl, F, hex, hE⟩ := h
  have hfr : X.A.frames = some (X.env :: X.outer) := by rw [← O.stack]; exact I.ok.frames
  obtain ⟨a0, f⟩ := F.fly
  have f' := f
  rw [O.stack] at f'
  refine wpAny_looks_onW hfr O.frame f' fun h₄ held₄ sm₄ => ?_
  refine wpAny_landsW held₄ fun h₅ fl₅ sm₅ => ?_
  rw [← O.stack] at fl₅
  have I5 := fly_land I F fl₅ (sm₄.trans sm₅)
  have I5h := I5.held ea
  obtain ⟨oe, vs, he, hc, _, _⟩ := fl₅.first
  have LT : PySem.W.Looks (model X.prog X.w) h₅ (typeOf (.ref ea)) cls := by
    rw [← hc]
    exact PySem.W.Looks.andThen (PySem.W.Looks.ld he) .now
  refine wpAny_handleBy_cons (codeAny_handlers_test ?_) (by intro q; cases q)
  refine ld_glob (X := X.held ea) I5h hg hm ?_ hdb
  refine (PySem.W.exm_one I5.kIn LT hex).here ?_
  refine codeAny_handlers_suite_as ?_
  refine lands_againW fl₅ fun h₆ fl₆ sm₆ => ?_
  have I6 := (fly_land I F fl₆ ((sm₄.trans sm₅).trans sm₆)).held ea
  refine store_ok (X := X.held ea) I6 hN hi (.inl hl) (show RelV (.ref ea) (.ref ea) from rfl) (fun s7 I7 => ?_) (.inr hl)
  have run := hsuite ea pins s7 _ _ _ I7 (hE ea F.out)
  refine wpAny_mono run (fun fl s8 q => ?_) fun _ _ z => False.elim z
  have ok := I.ok
  cases fl with
  | next =>
    obtain ⟨σ', H2, I8, q⟩ := q
    exact gone_ok (I8.unheld ok) hN hi hl fun s9 I9 => ⟨_, H2, I9, q⟩
  | brk =>
    obtain ⟨σ', H2, I8, q⟩ := q
    exact gone_ok (I8.unheld ok) hN hi hl fun s9 I9 => ⟨_, H2, I9, q⟩
  | cont =>
    obtain ⟨σ', H2, I8, q⟩ := q
    exact gone_ok (I8.unheld ok) hN hi hl fun s9 I9 => ⟨_, H2, I9, q⟩
  | ret u =>
    obtain ⟨v, σ', H2, I8, r, q⟩ := q
    exact gone_ok (I8.unheld ok) hN hi hl fun s9 I9 => ⟨v, _, H2, I9, r, q⟩
end
end L2
namespace L2
open PySem PySem.Spec PyProof.Rows
section
variable {X : Cx} {k : Nat} {f : Addr} {fd : FuncData} {ps : List Str} {sp : Sp} {dvs : List V} {ds : List Value} {x : Str} {p cpos epos pos : Pos} {e : Expr} {es : List Expr} {t : TA}
variable {i : Nat} {n y : Str} {CB : Addr} {np hpos : Pos} {b₀ : Stmt} {suite : List Stmt} {ts : TS}
def tTryS (K : PySem.W.Frag) (CB : Addr) (i j : Nat) (ts : TS) (sp : Sp) (dvs : List V) (t : TA) : TS := fun D σ H => tCall sp dvs (eTry K CB i ts D σ) t σ H fun v H1 => D.nx (σ.set j (some v)) H1
theorem ps_tryS {j : Nat} {z : Str} {zp : Pos} (O : OwnCx X) (F : FnOk X.prog X.w X.K X.mg X.base (CXr X.prog X.w) k f fd ps sp) (hr : Room k X.A) (hg : Gl X x) (hm : X.mg x = some (.ref f)) (hk : PySem.W.keepIn X.K (.ref f) = true) (hb : Binds X.K fd ps ds) (hd : Vals dvs ds) (ha : PA X.nox (e :: es) t)
    (hN : X.N.Nodup) (hi : X.N[i]? = some n) (hl : X.env.scope.names.lookup n = some .local) (hj : X.N[j]? = some z) (hz : Loc X.env.scope z) (hgy : Gl X y) (hmy : X.mg y = some (.ref CB)) (hsuite : ∀ ea, PSs (X.held ea) (b₀ :: suite) ts)
    (hdb : (x == ("__debug__" : Str)) = false := by decide) (he : starEach (e :: es) X.env = (false, eval e X.env) :: starEach es X.env := by rfl) (hpl : (backTo cpos (starEach es X.env)).any (·.1) = false := by rfl)
    (hs : swapsWith (.Call (.Name x p) (e :: es) [] cpos) (some (.Name z zp)) epos.line X.env = pure false := by rfl) (hf : X.fn z = true ∨ X.env.scope.names.lookup z = some .local := by first | exact .inl rfl | exact .inr rfl | assumption) (hdy : (y == ("__debug__" : Str)) = false := by decide) :
    PS X (.Try [.Assign [.Name z zp] (.Call (.Name x p) (e :: es) [] cpos) epos] [.ExceptHandler (some (.Name y np)) (some n) (b₀ :: suite) hpos] [] [] pos) (tTryS X.K CB i j ts sp dvs t) := by
  intro pins s σ H D I h
  refine wpAny_Try_except (wpAny_execs_cons (wpAny_Assign_Name (wpAny_mono (ex_call (p := p) (pos := cpos) F hr hg hm hk hb hd ha I h hdb he hpl) (fun v s1 ⟨u, H1, I1, r1, q1⟩ => ?_) (fun e' s1 w => caught O hN hi hl hgy hmy hsuite w hdy)) hs))
  exact store_ok I1 hN hj hz r1 (fun s2 I2 => wpAny_execs_nil (wpAny_execs_nil ⟨_, H1, I2, q1⟩)) hf
end
structure ExcK (K : PySem.W.Frag) (D : Addr) : Prop where
  cls : (PySem.W.clsIn K D).isSome = true
  get : PySem.W.findIn K (.ref D) "__getattribute__" = some (some (.builtin "BaseException.__getattribute__"))
  nohook : PySem.W.findIn K (.ref D) "__getattr__" = some none
  attr : PySem.W.findIn K (.ref D) "__class__" = some (some (.builtin "object.__class__"))
  gets : PySem.W.specialIn K (.builtin "object.__class__") "__get__" = some (some (.builtin "getset_descriptor.__get__"))
  takes : PySem.W.takesIn K (.builtin "object.__class__") = some true
  mro : PySem.W.mroIn K D (.type "object") = some true
  exc : PySem.W.mroIn K D (.type "BaseException") = some true
end L2
namespace PySem.W
open PySem PySem.Spec PySem.Calls PyProof.Rows Builtin Builtin.ObjectAttr Builtin.Getset_descriptor
section
variable {K : Frag} {D ea : Addr}
theorem exc_type {M : Model} {h : Heap} (p : L2.ExcAt ea (.ref D) h) : Looks M h (typeOf (.ref ea)) (.ref D) := by
  obtain ⟨ob, vs, e, c, _⟩ := p
  exact c ▸ (Looks.ld e).andThen .now
theorem exc_find {M : Model} {h : Heap} (X : K.In h) (k : L2.ExcK K D) : Looks M h (find (.ref ea) (.ref D) "__class__") (.bind (.builtin "getset_descriptor.__get__") (.builtin "object.__class__")) := by
  have L1 := looks_findIn (M := M) X k.attr
  have L2 : Looks M h (getOf (some (.builtin "object.__class__"))) (some (.builtin "getset_descriptor.__get__")) := looks_specialIn X k.gets
  have L3 := looks_takesIn (M := M) X k.takes
  exact L1.andThen (L2.andThen ((show Looks M h (dataDescriptor? (some (.builtin "object.__class__")) (some (.builtin "getset_descriptor.__get__"))) (some (.builtin "getset_descriptor.__get__", .builtin "object.__class__")) from L3.andThen .now).andThen (Looks.tag .now)))
variable {prog : Program} {w : World} {A : Around} {E : Value → Shared → Prop} {s : Shared}
theorem exc_get {R : Result → Shared → Prop} {tp : Value} (X : K.In s.heap) (p : L2.ExcAt ea (.ref D) s.heap) (k : L2.ExcK K D) (h : R (.ok (.ret (.ref D))) s) :
    codeAny (model prog w) A (.call (.builtin "getset_descriptor.__get__") ⟨[.builtin "object.__class__", .ref ea, tp], []⟩) R s := by
  obtain ⟨hh, g, dr, t, os⟩ := s
  have L0 := exc_type (M := model prog w) p
  have L1 := looks_mroIn (M := model prog w) X k.mro
  refine codeAny_call_builtin KF.slot_gs.plain KF.entry_gs (KF.slot_gs.check _ _ _ _ _ _ _ _ KF.type_class (KF.args_gs _ _ _) ?_)
  unfold Builtin.«getset_descriptor.__get__» descrGet
  rw [dga_obj]
  refine wpAny_bind (wpAny_pure ?_)
  unfold descrGetter descrCheckInstance descrNameAndClass isInstance
  simp only [KF.owner_class]
  repeat lk
  refine ⟨Code.quiet_builtin _ (by decide +kernel), codeAny_builtin KF.entry_class ?_⟩
  unfold Builtin.«object.__class__» shownTypeOf
  repeat lk
  exact h
theorem exc_entry {tk : Tok} {Q : Fin → Shared → Prop} (X : K.In s.heap) (p : L2.ExcAt ea (.ref D) s.heap) (k : L2.ExcK K D) (hq : Q (.done (.ret (.ref D))) s) :
    wpAny (model prog w) A (Builtin.«object.__getattribute__» ⟨[.ref ea, .str "__class__" tk], []⟩) Q E s := by
  obtain ⟨hh, g, d, t, os⟩ := s
  have L0 := exc_type (M := model prog w) p
  have L2 := exc_find (M := model prog w) (ea := ea) X k
  show wpAny _ _ (slotArgs "__getattribute__" 1 ⟨[.ref ea, .str "__class__" tk], []⟩ >>= _) _ _ _
  refine wpAny_bind (wpAny_pure (wpAny_bind (wpAny_pure (wpAny_bind (L0.at (wpAny_bind (L2.at ?_)))))))
  show wpAny _ _ (holding [_] (call _ [_, .ref ea, .ref D]) >>= ret) _ _ _
  exact wpAny_bind (wpAny_holding (wpAny_call (exc_get (s := ⟨hh, g, d, t, os⟩) X p k (wpAny_pure hq))))
theorem exc_check {nameV : Value} {Q : Unit → Shared → Prop} (X : K.In s.heap) (p : L2.ExcAt ea (.ref D) s.heap) (k : L2.ExcK K D) (hq : Q () s) : wpAny (model prog w) A (checkBuiltinCall "BaseException.__getattribute__" ⟨[.ref ea, nameV], []⟩) Q E s := by
  obtain ⟨hh, g, d, t, os⟩ := s
  have L0 := exc_type (M := model prog w) p
  have L1 := looks_mroIn (M := model prog w) X k.exc
  have hk : builtinKind "BaseException.__getattribute__" = some .slot := by decide +kernel
  have hsplit : splitId "BaseException.__getattribute__" = some ("BaseException", "__getattribute__") := by decide +kernel
  have ha := PySem.F.args_bexc_ga (.ref ea) nameV
  simp only [checkBuiltinCall, hk, hsplit]
  refine wpAny_bind ?_
  unfold isInstance
  repeat lk
  repeat (first | assumption | wp_step)
theorem exc_class {Q : Option Value → Shared → Prop} (X : K.In s.heap) (p : L2.ExcAt ea (.ref D) s.heap) (k : L2.ExcK K D) (h : Q (some (.ref D)) { s with toks := s.toks + 1 }) : wpAny (model prog w) A (getAttr? (.ref ea) "__class__") Q E s := by
  obtain ⟨hh, g, d, t, os⟩ := s
  have L0 := exc_type (M := model prog w) p
  have L1 := looks_findIn (M := model prog w) X k.get
  have L3 := looks_findIn (M := model prog w) X k.nohook
  have f3 := PySem.F.attr_ValueError.ga.bind (.ref ea)
  unfold getAttr? getAttrBy? getAttrBy
  refine wpAny_bind (wpAny_mkText (wpAny_bind (wpAny_attempt (wpAny_holding (wpAny_bind (L0.at (wpAny_bind (L1.at ?_))))))))
  show wpAny _ _ (getAttrByItsOwn _ _ _ _ _ _) _ _ _
  unfold getAttrByItsOwn hookBefore
  refine wpAny_bind (L3.at (wpAny_bind (wpAny_attempt (wpAny_holding ?_))))
  show wpAny _ _ (boundAndCalled _ _ _) _ _ _
  unfold boundAndCalled
  rw [f3]
  refine wpAny_bind (wpAny_pure (wpAny_call ?_))
  refine codeAny_call_builtin PySem.F.attr_ValueError.ga.plain PySem.F.entry_bexc_ga (exc_check (s := ⟨hh, g, d, t + 1, os⟩) X p k (exc_entry (s := ⟨hh, g, d, t + 1, os⟩) X p k ?_))
  exact handed_on rfl (wpAny_pure h)
theorem kitx_exc (k : L2.ExcK K D) : KitX K (.ref ea) (.ref D) (L2.ExcAt ea (.ref D)) where
  ty := fun _ _ _ p => exc_type p
  it := fun _ _ X _ => by
    obtain ⟨cd, hc⟩ := Option.isSome_iff_exists.mp k.cls
    unfold clsIn at hc
    split at hc
    · rename_i c' d' cd' sl' ho
      intro A' Q' E' s' k q
      unfold isType loadHead
      exact wpAny_bind (wpAny_loadPart (k _ _ (X _ _ ho)) (wpAny_pure q))
    · cases hc
  ne := fun h tp dd its n sl X htp => by
    obtain ⟨cd, hc⟩ := Option.isSome_iff_exists.mp k.cls
    refine Bool.eq_false_iff.mpr fun q => ?_
    have e : D = tp := Value.ref.inj (beq_iff_eq.mp q)
    subst e
    unfold clsIn at hc
    split at hc
    · rename_i c' d' cd' sl' ho
      have z := (X _ _ ho).symm.trans htp
      cases z
    · cases hc
  ca := fun X p h => exc_class X p k h
end
end PySem.W
namespace L2
open PySem PySem.Spec PyProof.Rows
theorem call_isiX {X : Cx} : CallR X (.builtin "isinstance") (fun vs H Q => ∃ ea D v c b, vs = [.ref ea, v] ∧ H ea = some (.ext (ExcAt ea (.ref D))) ∧ ExcK X.K D ∧ (∀ u, RelV v u → u = c) ∧ PySem.W.kitOne X.K (.ref D) c = some b ∧ Q (.bl b) H) := by
  intro pins s σ H xs us Q I r h
  obtain ⟨ea, D, v, c, b, rfl, hea, hk, hv, hb, q⟩ := h
  cases r with
  | cons r1 r2 =>
    cases r2 with
    | cons r3 r4 =>
      cases r4
      cases r1
      rw [hv _ r3]
      refine PySem.W.kia_one (PySem.W.kitx_exc hk) I.kIn (I.hok _ _ hea).1 hb (by intro z; cases z) fun tk => ?_
      exact ⟨.bl b, H, I.tok _, rfl, q⟩
def rIsiX (K : PySem.W.Frag) : List V → Hp → VK → Prop := fun vs H Q => ∃ ea D v c b, vs = [.ref ea, v] ∧ H ea = some (.ext (ExcAt ea (.ref D))) ∧ ExcK K D ∧ (∀ u, RelV v u → u = c) ∧ PySem.W.kitOne K (.ref D) c = some b ∧ Q (.bl b) H
theorem call_isiK {X : Cx} {K : PySem.W.Frag} (hK : X.K = K) : CallR X (.builtin "isinstance") (rIsiX K) := by
  subst hK
  exact call_isiX
end L2
namespace L2
open PySem PySem.Spec PyProof.Rows
section
variable {X : Cx} {x : Str} {j : Nat} {p1 p2 pos : Pos} {e : Expr} {te : TE}
def tFstr (x : Str) (te : TE) : TE := fun σ H Q => te σ H fun v H1 => ∃ i : Int, v = .int i ∧ i.natAbs.log2 < 1920 ∧ (Str.empty ++ x).length ≤ sizeLine ∧ (Str.empty ++ x ++ (toString i : Str)).length ≤ sizeLine ∧ Q (.str (Str.empty ++ x ++ (toString i : Str))) H1
theorem pe_fstr {k} (he : PE X e te) (hs : (Str.empty ++ x).length ≤ sizeLine) : PE X (.JoinedStr [.Constant (.str x) k p1, .FormattedValue e (-1) none p2] pos) (tFstr x te) := by
  intro pins s σ H Q I h
  refine JoinedStr_many (joinParts_cons (Calls.Constant_str ?_))
  refine ⟨hs, joinParts_cons (FormattedValue_plain (thn (he pins _ σ H _ (I.tok _) h) fun v s1 ⟨y, H1, I1, r1, q1⟩ => ?_))⟩
  obtain ⟨i, rfl, hi, hs1, hs2, q⟩ := q1
  obtain ⟨t, rfl⟩ := r1
  refine formatField_int_small hi ?_
  exact ⟨hs2, joinParts_nil ⟨.str _, H1, ((I1.tok _).tok _), ⟨_, rfl⟩, q⟩ hs2⟩
end
end L2
namespace L2
open PySem PySem.Spec PyProof.Rows PySem.SeqAt
section
variable {prog : Program} {w : World} {A : Around} {E : Value → Shared → Prop} {s : Shared}
end
end L2
namespace L2
open PySem PySem.Spec PyProof.Rows PySem.SeqAt
def dBl : Den Bool := fun _ b v => v = .bl b
theorem dBl_inj : ∀ (H : Hp) (a b : Bool) (x : V), dBl H a x → dBl H b x → a = b := fun _ _ _ _ h1 h2 => by
  unfold dBl at h1 h2
  rw [h1] at h2
  injection h2
theorem eq_bool_ok {X : Cx} : EqOk X dBl 0 := by
  intro A pins s σ H a b x y u v _ I ha hb ru rv
  subst ha hb
  cases ru
  cases rv
  have h := EqAt.bool_bool (A := A) (s := s) a b
  rw [show decide (a = b) = (a == b) by rw [Bool.eq_iff_iff]; simp]
  exact h
theorem paired_bools {H : Hp} : ∀ bs : List Bool, Paired (dBl H) bs (bs.map V.bl)
  | [] => .nil
  | _ :: bs => .cons rfl (paired_bools bs)
end L2
namespace L2
open PySem PySem.Spec PyProof.Rows PySem.SeqAt
section
variable {X : Cx}
end
end L2
namespace L2
open PySem PySem.Spec PyProof.Rows PySem.SeqAt HT
section
variable {prog : Program} {w : World} {A : Around} {E : Value → Shared → Prop} {s : Shared}
end
end L2
namespace L2
open PySem PySem.Spec PyProof.Rows
section
variable {X : Cx} {x y : Str} {p1 p2 p3 pos : Pos} {e : Expr} {te : TE}
def tFstr3 (x y : Str) (te : TE) : TE := fun σ H Q => te σ H fun v H1 => ∃ i : Int, v = .int i ∧ i.natAbs.log2 < 1920 ∧ (Str.empty ++ x ++ (toString i : Str)).length ≤ sizeLine ∧ (Str.empty ++ x ++ (toString i : Str) ++ y).length ≤ sizeLine ∧ Q (.str (Str.empty ++ x ++ (toString i : Str) ++ y)) H1
theorem pe_fstr3 {k k2} (he : PE X e te) (hs : (Str.empty ++ x).length ≤ sizeLine) : PE X (.JoinedStr [.Constant (.str x) k p1, .FormattedValue e (-1) none p2, .Constant (.str y) k2 p3] pos) (tFstr3 x y te) := by
  intro pins s σ H Q I h
  refine JoinedStr_many (joinParts_cons (Calls.Constant_str ?_))
  refine ⟨hs, joinParts_cons (FormattedValue_plain (thn (he pins _ σ H _ (I.tok _) h) fun v s1 ⟨z, H1, I1, r1, q1⟩ => ?_))⟩
  obtain ⟨i, rfl, hi, hs2, hs3, q⟩ := q1
  obtain ⟨t, rfl⟩ := r1
  refine formatField_int_small hi ?_
  refine ⟨hs2, joinParts_cons (Calls.Constant_str ?_)⟩
  exact ⟨hs3, joinParts_nil ⟨.str _, H1, (((I1.tok _).tok _).tok _), ⟨_, rfl⟩, q⟩ hs3⟩
def tFstrE (y : Str) (te : TE) : TE := fun σ H Q => te σ H fun v H1 => ∃ i : Int, v = .int i ∧ i.natAbs.log2 < 1920 ∧ (Str.empty ++ (toString i : Str)).length ≤ sizeLine ∧ (Str.empty ++ (toString i : Str) ++ y).length ≤ sizeLine ∧ Q (.str (Str.empty ++ (toString i : Str) ++ y)) H1
theorem pe_fstrE {k2} (he : PE X e te) : PE X (.JoinedStr [.FormattedValue e (-1) none p2, .Constant (.str y) k2 p3] pos) (tFstrE y te) := by
  intro pins s σ H Q I h
  refine JoinedStr_many (joinParts_cons (FormattedValue_plain (thn (he pins _ σ H _ I h) fun v s1 ⟨z, H1, I1, r1, q1⟩ => ?_)))
  obtain ⟨i, rfl, hi, hs2, hs3, q⟩ := q1
  obtain ⟨t, rfl⟩ := r1
  refine formatField_int_small hi ?_
  refine ⟨hs2, joinParts_cons (Calls.Constant_str ?_)⟩
  exact ⟨hs3, joinParts_nil ⟨.str _, H1, (((I1.tok _).tok _).tok _), ⟨_, rfl⟩, q⟩ hs3⟩
theorem strs_of : ∀ {ts : List Str} {us : List Value}, Vals (ts.map V.str) us → ∃ l : List (Str × Tok), us = strValues l ∧ l.map (·.1) = ts
  | [], _, r => by rw [List.map_nil] at r; cases r; exact ⟨[], rfl, rfl⟩
  | t :: ts, us, r => by
    rw [List.map_cons] at r
    cases r with
    | cons r1 r2 =>
      obtain ⟨u, rfl⟩ := r1
      obtain ⟨l, rfl, e⟩ := strs_of r2
      exact ⟨(t, u) :: l, rfl, by rw [List.map_cons, e]⟩
theorem vals_strs : ∀ l : List (Str × Tok), Vals ((l.map (·.1)).map V.str) (strValues l)
  | [] => .nil
  | p :: l => .cons ⟨p.2, rfl⟩ (vals_strs l)
theorem mt_join : MtM X "str.join" (fun x vs H Q => ∃ (sep : Str) (b : Addr) (ts : List Str), x = .str sep ∧ vs = [.ref b] ∧ SqL X.K H b (ts.map V.str) ∧ JoinOk sep ts = true ∧ Q (.str (Txt.join sep ts)) H) := by
  intro pins s σ H x vs v us Q I rx rv h
  obtain ⟨sep, b, ts, rfl, rfl, hb, hok, q⟩ := h
  obtain ⟨t, rfl⟩ := rx
  obtain ⟨u, rfl, ru⟩ := rv.one
  cases ru
  obtain ⟨its, r, ht, hz⟩ := I.list hb
  obtain ⟨l, rfl, e⟩ := strs_of r
  exact SC.join ht.isList e hok fun t' k => ⟨.str _, H, I.tok _, ⟨_, rfl⟩, q⟩
theorem mt_find : MtM X "str.find" (fun x vs H Q => ∃ a b : Str, x = .str a ∧ vs = [.str b] ∧ Q (.int (Txt.find a b)) H) := by
  intro pins s σ H x vs v us Q I rx rv h
  obtain ⟨a, b, rfl, rfl, q⟩ := h
  obtain ⟨t, rfl⟩ := rx
  obtain ⟨u, rfl, ru⟩ := rv.one
  obtain ⟨t', rfl⟩ := ru
  exact SC.find ⟨.int _, H, I.tok _, ⟨_, rfl⟩, q⟩
end
end L2
namespace L2
open PySem PySem.Spec PyProof.Rows
structure OScope (X : Cx) (scope : Scope) (y : Str) : Prop where
  kind : scope.kind = .function
  locs : ∀ z ∈ scope.names, z.2 = .local → scope.names.lookup z.1 = some .local
  nofree : ∀ z ∈ scope.names, z.2 ≠ .free
  own : ∀ z ∈ scope.names, z.2 = .cell → z.1 = y
  cells : ∀ n, cellsFrom n scope.names [] = [(y, n)]
section
variable {X : Cx} {scope : Scope} {y : Str} {pins : List (Addr × Obj)} {σ : St} {H : Hp} {s : Shared}
end
section
variable {X : Cx} {scope : Scope} {y : Str} {pins : List (Addr × Obj)} {σ : St} {elt target iter : Expr} {ifs : List Expr} {pos : Pos} {g : TG} {tc : TT} {te : TE} {wi : TI}
end
end L2
namespace L2
open PySem PySem.Spec PyProof.Rows
section
variable {X : Cx}
theorem mt_split : MtM X "str.split" (fun x vs H Q => ∃ a b : Str, x = .str a ∧ vs = [.str b] ∧ b.length ≠ 0 ∧ a.length ≤ sizeLine ∧ (Txt.split a b).length ≤ sizeLine ∧ ∀ l, H l = none → Q (.ref l) (upd H l (.lst ((Txt.split a b).map V.str)))) := by
  intro pins s σ H x vs v us Q I rx rv h
  obtain ⟨a, b, rfl, rfl, hb, ha, hz, q⟩ := h
  obtain ⟨t, rfl⟩ := rx
  obtain ⟨u, rfl, ru⟩ := rv.one
  obtain ⟨t', rfl⟩ := ru
  have hy : (b.length == 0) = false := by simpa using hb
  have lay : ∀ (l : List (Str × Tok)) (k : Nat), l.map (·.1) = Txt.split a b → EP X pins σ Q (.ref s.heap.objs.size) { s with heap := s.heap.push { cls := .type "list", data := .seq (strValues l).toArray }, toks := k } := fun l k e => by
    have r := vals_strs l
    rw [e] at r
    exact ⟨.ref _, _, I.lnew (t' := k) r (by rw [List.length_map]; exact hz), rfl, q _ I.fresh⟩
  cases h1 : (decide (a.length < b.length) || decide (Builtin.Str.strKind a < Builtin.Str.strKind b))
  · cases hf : (Builtin.Str.occurrences a b 0 a.length (a.length + 1)).isEmpty
    · have e : Txt.split a b = Builtin.Str.partsBetween a (Builtin.Str.occurrences a b 0 a.length (a.length + 1)) b.length := (if_neg (ne_true_of_eq_false h1)).trans (if_neg (ne_true_of_eq_false hf))
      refine call_meets PySem.F.slot_str_split (typeIs_str _ _ _) PySem.F.entry_str_split (PySem.F.args_str_split_2 _ _) (meets_str_split_sep a b t t' h1 hy hf ha (by rw [← e]; exact hz)) ?_
      show wants _ _ _ { s with toks := _, heap := s.heap.push { cls := .type "list", data := .seq (strsFrom s.toks (Builtin.Str.partsBetween a (Builtin.Str.occurrences a b 0 a.length (a.length + 1)) b.length)).toArray } }
      rw [strsFrom_eq]
      exact lay (numbered s.toks _) _ ((numbered_texts _ _).trans e.symm)
    · exact call_meets PySem.F.slot_str_split (typeIs_str _ _ _) PySem.F.entry_str_split (PySem.F.args_str_split_2 _ _) (meets_str_split_not_found a b t t' h1 hy hf) (lay [(a, t)] s.toks ((if_neg (ne_true_of_eq_false h1)).trans (if_pos hf)).symm)
  · exact call_meets PySem.F.slot_str_split (typeIs_str _ _ _) PySem.F.entry_str_split (PySem.F.args_str_split_2 _ _) (meets_str_split_cannot_occur a b t t' h1) (lay [(a, t)] s.toks (if_pos h1).symm)
theorem mt_indexS : MtM X "str.index" (fun x vs H Q => ∃ (a b : Str) (i : Nat) (rest : List Nat), x = .str a ∧ vs = [.str b] ∧ Builtin.Str.occurrences a b 0 a.length 1 = i :: rest ∧ Q (.int (i : Int)) H) := by
  intro pins s σ H x vs v us Q I rx rv h
  obtain ⟨a, b, i, rest, rfl, rfl, ho, q⟩ := h
  obtain ⟨t, rfl⟩ := rx
  obtain ⟨u, rfl, ru⟩ := rv.one
  obtain ⟨t', rfl⟩ := ru
  exact call_gives PySem.F.slot_str_index (typeIs_str _ _ _) PySem.F.entry_str_index (PySem.F.args_str_index_2 _ _) (gives_str_index a b t t' i rest ho) ⟨.int _, H, I.tok _, ⟨_, rfl⟩, q⟩
theorem sl_str : SlR X (fun x lo hi H Q => ∃ a : Str, x = .str a ∧ a.length ≤ sizeLine ∧ Q (.str (Txt.slice a lo hi)) H) := by
  intro pins s σ H x v vl vu lo hi sl Q I rx hs pl pu h
  obtain ⟨a, rfl, ha, q⟩ := h
  obtain ⟨t, rfl⟩ := rx
  refine ⟨"str", _, PySem.F.slot_str_getitem.lookup, typeIs_str s a t, ?_⟩
  have fin : ∀ l u : Option (Int × Tok), partValue l = vl → partValue u = vu → l.map (·.1) = lo → u.map (·.1) = hi → wpAny (model X.prog X.w) X.A (getItem (.str a t) (.ref sl)) (EP X pins σ Q) X.xe s := by
    rintro l u rfl rfl rfl rfl
    obtain ⟨o, ho, hc, hd⟩ := hs
    exact wpAny_getItem_str_slice (l := l) (u := u) (st := none) ⟨o, ho, hc, hd⟩ rfl (post_val_or_str ⟨Nat.le_trans (Txt.slice_le a _ _) ha, fun t' k => ⟨.str _, H, I.tok _, ⟨_, rfl⟩, q⟩⟩)
  cases pl with
  | none =>
    cases pu with
    | none => exact fin none none rfl rfl rfl rfl
    | int j tj => exact fin none (some (j, tj)) rfl rfl rfl rfl
  | int i ti =>
    cases pu with
    | none => exact fin (some (i, ti)) none rfl rfl rfl rfl
    | int j tj => exact fin (some (i, ti)) (some (j, tj)) rfl rfl rfl rfl
end
def Its (x : Str) : It := ⟨fun i _ => i < x.cps.size, fun i H v H' => H' = H ∧ ∃ c, x.cps[i]? = some c ∧ v = .str ⟨#[c]⟩, fun i _ => i = x.cps.size⟩
theorem turn_str {P : Program} {w : World} {K : PySem.W.Frag} {tg : Expr} {ty : String} {x : Str} {t : Tok} (it : Addr) (hty : ["enumerate", "zip", "dict_itemiterator", "dict_reverseitemiterator", "odict_iterator", "itertools.zip_longest", "itertools.pairwise"].contains ty = false)
    (W : ∀ A : Around, A.handled = none → Walks P w A it [it] [it] x.cps.size (SignAt x) (fun i h => h.IsStrIter it ty x t i)) (S : ∀ (A : Around) (s : Shared) (i : Nat) (Q : Value → Shared → Prop) (E : Value → Shared → Prop), s.heap.IsStrIter it ty x t i → Q (.ref it) s → wpAny (model P w) A (pyIter (.ref it)) Q E s) :
    Turn P w K tg (Its x) [it] it (fun i h => h.IsStrIter it ty x t i) where
  mem := by simp
  obj := fun i h st b hb => by
    have e : b = it := by simpa using hb
    subst e
    obtain ⟨o, e, c, d⟩ := st
    exact ⟨o, e, fun v z => by rw [d] at z; cases z⟩
  keep := fun i h h' st k => let ⟨o, e, r⟩ := st; ⟨o, k it (by simp) o e, r⟩
  item := by
    intro X hP hw hK hc i pins s σ H E I hf st hg
    subst hP hw hK
    obtain ⟨f0, f1, f2, f3, f4, f5⟩ := hf it (by simp)
    refine (W X.A (I.ok.hd hc)).item i s _ _ hg st fun v h' tk hv st' kk => ?_
    obtain ⟨c, u, hcx, rfl⟩ := hv
    have I1 : Inv X pins σ H { s with heap := h', toks := tk } := I.turned (fun b o hb e => kk b o (by simpa using hb) e) f0 f1 f3 f4 f5
    obtain ⟨o, e, oc, od⟩ := id st'
    exact ⟨_, rfl, go_of (s := { s with heap := h', toks := tk }) e oc od hty ⟨.str ⟨#[c]⟩, H, I1, ⟨_, rfl⟩, ⟨rfl, c, hcx, rfl⟩, st', fun b hb => (hf b hb).1⟩⟩
  done := by
    intro X hP hw hK hc i pins s σ H E I hf st hg
    subst hP hw hK
    obtain ⟨f0, f1, f2, f3, f4, f5⟩ := hf it (by simp)
    have hg' : i = x.cps.size := hg
    subst hg'
    exact (W X.A (I.ok.hd hc)).done s _ _ st fun h' tk kk => ⟨rfl, I.turned (fun b o hb e => kk b o (by simpa using hb) e) f0 f1 f3 f4 f5⟩
  self := fun A i s Q E st h => S A s i Q E st h
section
variable {X : Cx} {tg : Expr}
def iStr (te : TE) : TI := fun σ H R => te σ H fun v H1 => ∃ x, v = .str x ∧ R (Its x) H1
theorem pi_str {e : Expr} {te : TE} (he : PE X e te) : PI X tg e (iStr te) := by
  intro pins s σ H R I h
  refine thn (he pins s σ H _ I h) fun v s1 ⟨y, H1, I1, r1, q1⟩ => ?_
  obtain ⟨x, rfl, q⟩ := q1
  obtain ⟨t, rfl⟩ := r1
  cases ha : x.cps.all (· < 128)
  · refine wpAny_pyIter_wide ha ⟨s1.heap.objs.size, [s1.heap.objs.size], _, _, H1, rfl, I1.kept (t' := s1.toks) fun b o e => Heap.get?_push_of_some _ e, turn_str (ty := "str_iterator") (t := t) _ (by decide) (fun A hA => Walks.strWide hA _ x t) (fun A s i Q E st h => wpAny_pyIter_striter_wide st h), ⟨_, Heap.get?_push_size _ rfl, rfl, rfl⟩, fun b hb => ?_, q⟩
    have e : b = s1.heap.objs.size := by simpa using hb
    subst e
    exact I1.fpOk (Nat.le_refl _) (I1.hok.fresh (Nat.le_refl _))
  · refine wpAny_pyIter_ascii ha ⟨s1.heap.objs.size, [s1.heap.objs.size], _, _, H1, rfl, I1.kept (t' := s1.toks) fun b o e => Heap.get?_push_of_some _ e, turn_str (ty := "str_ascii_iterator") (t := t) _ (by decide) (fun A hA => Walks.strAscii hA _ x t) (fun A s i Q E st h => wpAny_pyIter_striter_ascii st h), ⟨_, Heap.get?_push_size _ rfl, rfl, rfl⟩, fun b hb => ?_, q⟩
    have e : b = s1.heap.objs.size := by simpa using hb
    subst e
    exact I1.fpOk (Nat.le_refl _) (I1.hok.fresh (Nat.le_refl _))
end
theorem comp_str' {x : Str} {n : Nat} {fs : List (Nat × Str)} {g : TG} {tc : TT} {te : TE} {σ : St} {H1 : Hp} {Q : VK} {l : Addr} (Pv : Nat → List V → Hp → Prop) (h0 : Pv 0 [] (upd H1 l (.lst [])))
    (hl : ∀ i acc H, i ≤ x.cps.size → Pv i acc H → H l = some (.lst acc))
    (hs : ∀ i c acc H, x.cps[i]? = some c → i < x.cps.size → Pv i acc H → acc.length < sizeLine ∧ g (.str ⟨#[c]⟩) (sgC n fs σ) H fun σ2 H2 => Wk n (sgC n fs σ) σ2 ∧ tc σ2 H2 fun b H3 =>
      if b = true then te σ2 H3 fun y H4 => H4 l = some (.lst acc) ∧ Nx x.cps.size i (Pv (i + 1) (acc ++ [y]) (upd H4 l (.lst (acc ++ [y])))) else Nx x.cps.size i (Pv (i + 1) acc H3))
    (hd : ∀ acc H, Pv x.cps.size acc H → Q (.ref l) H) : CompW n fs (Its x) g tc te σ H1 Q l := by
  refine ⟨fun i m acc H => m = x.cps.size - i ∧ i ≤ x.cps.size ∧ Pv i acc H, ⟨_, rfl, Nat.zero_le _, h0⟩, ?_⟩
  rintro i m acc H ⟨rfl, hi, p⟩
  refine ⟨hl i acc H hi p, ?_⟩
  by_cases hlt : i < x.cps.size
  · have hx : x.cps[i]? = some x.cps[i] := Array.getElem?_eq_getElem hlt
    refine .inr ⟨(hs i _ acc H hx hlt p).1, hlt, fun v H' y => ?_⟩
    obtain ⟨e, c, hc, ev⟩ := y
    subst e ev
    exact (hs i c acc _ hc hlt p).2
  · have e : i = x.cps.size := by omega
    subst e
    exact .inl ⟨rfl, hd acc H p⟩
def dS : Den Str := fun _ z v => v = .str z
theorem eq_str_ok {X : Cx} : EqOk X dS 0 := by
  intro A pins s σ H a b x y u v _ I ha hb ru rv
  subst ha hb
  obtain ⟨t, rfl⟩ := ru
  obtain ⟨t', rfl⟩ := rv
  have h := PySem.SeqAt.EqAt.str_str (A := A) (s := s) a t b t'
  rw [show decide (a = b) = (a == b) by rw [Bool.eq_iff_iff]; simp]
  exact h
theorem paired_strs {H : Hp} : ∀ zs : List Str, Paired (dS H) zs (zs.map V.str)
  | [] => .nil
  | _ :: zs => .cons rfl (paired_strs zs)
end L2
namespace L2
open PySem PySem.Spec PyProof.Rows
def fld2 (o : Obj) : Option Value := match o.data with
  | .fields vs => vs[2]?
  | _ => none
def C2 (h : Heap) (e : Addr) : Prop := ∃ o, h.get? e = some o ∧ fld2 o = some .none
def Calm2 {α : Type} : Sem α → Prop
  | .pure _ => True
  | .raise _ => True
  | .unsupported _ => True
  | .finish _ => True
  | .rule _ k => Calm2 (k ())
  | .at _ k => Calm2 (k ())
  | .load _ _ k => ∀ o, Calm2 (k o)
  | .update _ _ f k => (∀ o, fld2 (f o) = fld2 o) ∧ Calm2 (k ())
  | .alloc _ k => ∀ a, Calm2 (k a)
  | .loadIfAlive _ k => ∀ o, Calm2 (k o)
  | .point _ k => Calm2 (k ())
  | .register _ _ => True
  | .fresh k => ∀ t, Calm2 (k t)
  | .ask k => ∀ t, Calm2 (k t)
  | .choose _ _ k => ∀ t, Calm2 (k t)
  | .os _ _ k => ∀ t, Calm2 (k t)
  | .call _ _ _ _ _ => False
  | .handled _ k => ∀ t, Calm2 (k t)
  | .newGen _ k => ∀ t, Calm2 (k t)
  | .genState _ k => ∀ t, Calm2 (k t)
  | .resume _ _ _ _ => False
  | .yield _ _ _ _ => True
  | .stack k => ∀ t, Calm2 (k t)
  | .fork _ _ => True
  | .thread k => ∀ t, Calm2 (k t)
  | .await _ _ _ _ _ => True
theorem c2_update {h : Heap} {a e : Addr} {f : Obj → Obj} (hf : ∀ o, fld2 (f o) = fld2 o) (c : C2 h e) : C2 (h.update a f) e := by
  obtain ⟨o, ho, hv⟩ := c
  by_cases z : e = a
  · subst z
    refine ⟨f o, Heap.get?_update_self _ ho ?_, by rw [hf]; exact hv⟩
    have q : fld2 (f o) = some .none := by rw [hf]; exact hv
    unfold fld2 at q
    split at q
    · rename_i vs hd
      exact Obj.isFreed_of_fields hd
    · cases q
  · exact ⟨o, by rw [Heap.get?_update_ne _ _ _ _ z]; exact ho, hv⟩
theorem c2_push {h : Heap} {e : Addr} (o' : Obj) (c : C2 h e) : C2 (h.push o') e := let ⟨o, ho, hv⟩ := c; ⟨o, Heap.get?_push_of_some _ ho, hv⟩
theorem wp_keep2 {α : Type} {M : Model} {Γ : PySem.Ctx} {e : Addr} : ∀ (t : Sem α) (Q : α → Pos → Shared → Prop) (E : Value → Pos → Shared → Prop) (p : Pos) (s : Shared), Calm2 t → C2 s.heap e → Sem.wp M Γ t Q E p s →
    Sem.wp M Γ t (fun a p' s' => Q a p' s' ∧ C2 s'.heap e) (fun x p' s' => E x p' s' ∧ C2 s'.heap e) p s := by
  intro t Q E
  induction t with
  | pure a => intro p s _ c h; exact ⟨h, c⟩
  | raise x => intro p s _ c h; exact ⟨h, c⟩
  | unsupported _ => intro p s _ c h; exact h
  | finish _ => intro p s _ c h; exact h
  | rule _ k ih => intro p s hc c h; exact ih () p s hc c h
  | «at» _ k ih => intro p s hc c h; exact ih () _ s hc c h
  | load a _ k ih => intro p s hc c h; obtain ⟨o, ho, h⟩ := h; exact ⟨o, ho, ih o p s (hc o) c h⟩
  | update a _ f k ih => intro p s hc c h; exact ⟨h.1, ih () p _ hc.2 (c2_update hc.1 c) h.2⟩
  | alloc o k ih => intro p s hc c h; exact ih _ p _ (hc _) (c2_push _ c) h
  | loadIfAlive a k ih => intro p s hc c h; exact ih _ p s (hc _) c h
  | point _ k ih => intro p s hc c h; exact ih () p s hc c h
  | register _ _ _ => intro p s _ c h; exact h
  | fresh k ih => intro p s hc c h; exact ih _ p _ (hc _) c h
  | ask k ih => intro p s hc c h; exact ih _ p _ (hc _) c h
  | choose _ _ k ih => intro p s hc c h; exact ⟨h.1, ih _ p _ (hc _) c h.2⟩
  | os _ _ k ih => intro p s hc c h; exact ih _ p _ (hc _) c h
  | call _ _ _ _ _ _ => intro p s hc _ _; exact False.elim hc
  | handled _ k ih => intro p s hc c h; exact ih _ p s (hc _) c h
  | newGen _ k ih => intro p s hc c h; exact ih _ p _ (hc _) c h
  | genState g k ih => intro p s hc c h; obtain ⟨st, hs, h⟩ := h; exact ⟨st, hs, ih _ p s (hc _) c h⟩
  | resume _ _ _ _ _ => intro p s hc _ _; exact False.elim hc
  | yield _ _ _ _ _ => intro p s _ c h; exact h
  | stack k ih => intro p s hc c h; exact ih _ p s (hc _) c h
  | fork _ _ _ => intro p s _ c h; exact h
  | thread k ih => intro p s hc c h; exact ih _ p s (hc _) c h
  | await _ _ _ _ _ _ => intro p s _ c h; exact h
theorem wpAny_keep2 {α : Type} {M : Model} {A : Around} {t : Sem α} {Q : α → Shared → Prop} {E : Value → Shared → Prop} {s : Shared} {e : Addr} (ht : Calm2 t) (c : C2 s.heap e) (h : wpAny M A t Q E s) :
    wpAny M A t (fun a s' => Q a s' ∧ C2 s'.heap e) (fun x s' => E x s' ∧ C2 s'.heap e) s := fun Γ p hΓ => wp_keep2 t _ _ p s ht c (h Γ p hΓ)
theorem calm_bind {α β : Type} {m : Sem α} {f : α → Sem β} (hm : Calm2 m) (hf : ∀ a, Calm2 (f a)) : Calm2 (m >>= f) := by
  show Calm2 (m.bind f)
  induction m with
  | pure a => exact hf a
  | raise x => trivial
  | unsupported _ => trivial
  | finish _ => trivial
  | rule _ k ih => exact ih () hm
  | «at» _ k ih => exact ih () hm
  | load a _ k ih => exact fun o => ih o (hm o)
  | update a _ g k ih => exact ⟨hm.1, ih () hm.2⟩
  | alloc o k ih => exact fun o => ih o (hm o)
  | loadIfAlive a k ih => exact fun o => ih o (hm o)
  | point _ k ih => exact ih () hm
  | register _ _ _ => trivial
  | fresh k ih => exact fun o => ih o (hm o)
  | ask k ih => exact fun o => ih o (hm o)
  | choose _ _ k ih => exact fun o => ih o (hm o)
  | os _ _ k ih => exact fun o => ih o (hm o)
  | call _ _ _ _ _ _ => exact hm
  | handled _ k ih => exact fun o => ih o (hm o)
  | newGen _ k ih => exact fun o => ih o (hm o)
  | genState g k ih => exact fun o => ih o (hm o)
  | resume _ _ _ _ _ => exact hm
  | yield _ _ _ _ _ => trivial
  | stack k ih => exact fun o => ih o (hm o)
  | fork _ _ _ => trivial
  | thread k ih => exact fun o => ih o (hm o)
  | await _ _ _ _ _ _ => trivial
theorem calm_pure {α : Type} (a : α) : Calm2 (pure a : Sem α) := trivial
theorem calm_no {α : Type} (w : String) : Calm2 (unsupported w : Sem α) := trivial
theorem calm_fieldsOf (v : Value) : Calm2 (fieldsOf v) := by
  unfold fieldsOf
  split
  · refine calm_bind (fun _ => trivial) fun o => ?_
    split
    · exact calm_pure _
    · exact calm_no _
  · exact calm_no _
theorem calm_field (v : Value) (i : Nat) : Calm2 (field v i) := by
  unfold field
  refine calm_bind (calm_fieldsOf v) fun vs => ?_
  split
  · exact calm_pure _
  · exact calm_no _
theorem fld2_set {i : Nat} (hi : i ≠ 2) (v : Value) (o : Obj) : fld2 (Obj.mapFields (·.setIfInBounds i v) o) = fld2 o := by
  obtain ⟨c, d, data, sl⟩ := o
  cases data <;> first
    | rfl
    | (show (Array.setIfInBounds _ i v)[2]? = _
       rw [Array.getElem?_setIfInBounds_ne hi]
       rfl)
theorem calm_setField (v : Value) {i : Nat} (hi : i ≠ 2) (x : Value) : Calm2 (setField v i x) := by
  unfold setField
  split
  · unfold updateField
    refine calm_bind (fun _ => trivial) fun o => ?_
    split
    · split
      · exact ⟨fld2_set hi x, trivial⟩
      · exact calm_no _
    · exact calm_no _
  · exact calm_no _
theorem calm_setFlight (e : Value) (f : Option Addr) : Calm2 (setFlight e f) := by
  unfold setFlight
  refine calm_bind (calm_field _ _) fun tb => ?_
  split
  · exact calm_setField _ (by decide) _
  · exact calm_pure _
theorem calm_newFields (ty : String) (vs : List Value) : Calm2 (newFields ty vs) := by
  unfold newFields newObj
  dsimp only
  split
  · exact calm_no _
  · exact calm_bind (fun _ => trivial) fun _ => calm_pure _
theorem calm_back (env : Env) (i : Bool) (l : List Env) : Calm2 (keptBack env i l) := by
  cases l with
  | nil =>
    show Calm2 (if (env.scope.isGenerator || env.scope.isCoroutine) = true then pure Value.none else do return if ← underTheClaimsCaller then .notImplemented else .none)
    by_cases z : (env.scope.isGenerator || env.scope.isCoroutine) = true
    · rw [if_pos z]; exact calm_pure _
    · rw [if_neg z]
      refine calm_bind ?_ fun _ => calm_pure _
      unfold underTheClaimsCaller
      exact calm_bind (fun _ => trivial) fun _ => calm_pure _
  | cons _ _ => exact calm_pure _
theorem calm_ready : ∀ l : List Env, Calm2 (readyFrames l)
  | [] => calm_pure _
  | env :: outer => by
    unfold readyFrames
    split
    · refine calm_bind (fun _ => trivial) fun o => ?_
      split
      · exact calm_pure _
      · refine calm_bind ?_ fun _ => calm_bind (calm_back _ _ _) fun _ => calm_bind ⟨fun _ => rfl, trivial⟩ fun _ => calm_ready outer
        unfold behindIsImport
        split
        · exact calm_pure _
        · split
          · exact calm_pure _
          · exact calm_bind (calm_field _ _) fun _ => calm_pure _
    · exact calm_no _
theorem calm_frameOf (env : Env) : Calm2 (PySem.frameOf env) := by
  unfold PySem.frameOf
  refine calm_bind ?_ fun l => calm_bind ?_ fun o => ?_
  · unfold frameEnvs
    exact calm_bind (fun _ => trivial) fun _ => calm_pure _
  · generalize l.dropWhile _ = l'
    cases l' with
    | nil => exact calm_pure _
    | cons a b => exact calm_bind (calm_ready _) fun _ => calm_pure _
  · split
    · exact calm_pure _
    · exact calm_no _
theorem calm_place (f : Addr) (b : Bool) : Calm2 (entryPlaceOf f b) := by
  unfold entryPlaceOf
  refine calm_bind (fun _ => trivial) fun acts => ?_
  split
  · exact calm_pure _
  · exact calm_pure _
theorem calm_noteFrame (e : Value) (env : Env) : Calm2 (noteFrame e env) := by
  have last : ∀ (head : Value) (f : Addr), Calm2 (do setField e 1 (← EntryCells.newEntry head (← PySem.frameOf env) .none (rawInt f) .none (← entryPlaceOf f (head != .none)))) := fun head f =>
    calm_bind (calm_frameOf _) fun _ => calm_bind (calm_place _ _) fun _ => calm_bind (calm_newFields _ _) fun _ => calm_setField _ (by decide) _
  unfold noteFrame
  split
  · refine calm_bind (calm_field _ _) fun head => ?_
    split
    · refine calm_bind (calm_field _ _) fun fl => ?_
      split
      · exact calm_pure _
      · exact calm_bind (calm_setField _ (by decide) _) fun _ => last head _
    · exact last head _
  · exact calm_no _
theorem calm_leaving (env : Env) (e : Value) : Calm2 (leaving env e) := calm_bind (calm_noteFrame _ _) fun _ => calm_setFlight _ _
end L2
namespace PySem
open Sem (wp)
structure Heap.MadeFrom (h h' : Heap) (e : Addr) (cls : Value) (ea : Addr) : Prop where
  keeps : ∀ b o, h.get? b = some o → h'.get? b = some o
  new : h.get? e = none
  there : ∃ t, h'.get? e = some { cls := cls, data := .fields #[.ref t, .none, .ref ea, .none, .bool true, .none] }
theorem entry_unchain : entryFor table "proto.unchain" = some Builtin.«proto.unchain» := entryFor_of_tree (by kernel_rfl)
section
variable {prog : Program} {w : World} {A : Around} {E : Value → Shared → Prop} {s : Shared} {env : Env}
theorem wpAny_raiseNew_held {α : Type} {e ea : Addr} {oe oa : Obj} {vs : Array Value} {Q : α → Shared → Prop} (hh : A.handled = some (.ref ea)) (hne : ea ≠ e) (hoa : s.heap.get? ea = some oa) (hf : L2.fld2 oa = some .none)
    (he : s.heap.get? e = some oe) (hd : oe.data = .fields vs) (hsz : 2 < vs.size) (h : E (.ref e) { s with heap := s.heap.update e (Obj.mapFields (·.setIfInBounds 2 (.ref ea))) }) :
    wpAny (model prog w) A (raiseNew (.ref e) : Sem α) Q E s := by
  obtain ⟨va, ha, h2⟩ : ∃ va, oa.data = .fields va ∧ va[2]? = some .none := by
    unfold L2.fld2 at hf
    split at hf
    · rename_i va q
      exact ⟨va, q, hf⟩
    · cases hf
  unfold raiseNew
  refine wpAny_bind (wpAny_handled ?_)
  rw [hh]
  show wpAny _ _ (do
    if (Value.ref ea != Value.ref e) = true then
      let _ ← holding [Value.ref e] (runValue (.builtin "proto.unchain" ⟨[.ref e, .ref ea, .ref ea, .bool false], []⟩))
      updateField e 2 (.ref ea)
    throw (.ref e)) _ _ _
  rw [if_pos (show (Value.ref ea != Value.ref e) = true by simpa using hne)]
  refine wpAny_bind (wpAny_holding (wpAny_runValue (codeAny_builtin entry_unchain ?_)))
  unfold Builtin.«proto.unchain»
  refine wpAny_bind (wpAny_field hoa ha h2 ?_)
  rw [if_pos (by rfl)]
  refine wpAny_pure ?_
  refine wpAny_bind (show wpAny _ _ (setField (.ref e) 2 (.ref ea)) _ _ _ from wpAny_setField he hd hsz ?_)
  exact wpAny_throw h
variable {nm q : Str} {C N : Addr} {bs bm bmB : List Value} {hdct : Bool} {sn : List Str} {sub : List Value} {ab : Bool} {col : Option Bool} {dd : Option Addr} {k0 k1 k2 k3 k5 : Option Value} {B newId initId : String}
theorem wpAny_raiseStmt_from {x c : Sem Value} {ea : Addr} {Q : Flow → Shared → Prop} (hbase : bm.contains (.type "BaseException") = true) (hh : A.handled = some (.ref ea))
    (h : wpAny (model prog w) A x (fun v s₁ => ∃ e t oa, v = .ref e ∧ s₁.heap.get? C = some (excClassObj nm q C N bs bm hdct sn sub ab col dd k0 k1 k2 k3 k5 newId) ∧
      s₁.heap.get? e = some { cls := .ref C, data := .fields #[.ref t, .none, .none, .none, .bool false, .none] } ∧ ea ≠ e ∧ C ≠ e ∧ s₁.heap.get? ea = some oa ∧ L2.fld2 oa = some .none ∧
      wpAny (model prog w) A c (fun cv s₂ => cv = .none ∧ s₂ = s₁ ∧ ∀ h', (∀ b, b ≠ e → h'.get? b = s₁.heap.get? b) → h'.get? e = some { cls := .ref C, data := .fields #[.ref t, .none, .ref ea, .none, .bool true, .none] } → E (.ref e) { s₁ with heap := h' }) E s₁) E s) :
    wpAny (model prog w) A (raiseStmt env (some x) (some c)) Q E s := by
  have hcB : (Value.ref C :: bm).contains (.type "BaseException") = true := by rw [List.contains_cons, hbase, Bool.or_true]
  unfold raiseStmt
  refine wpAny_bind (wpAny_mono h (fun v s₁ h₁ => ?_) fun _ _ x => x)
  obtain ⟨e, t, oa, rfl, hC, he, hne, hCe, hoa, hf, hk⟩ := h₁
  refine wpAny_bind (wpAny_holding (wpAny_mono hk (fun cv s₂ h₂ => ?_) fun _ _ x => x))
  obtain ⟨rfl, rfl, hE⟩ := h₂
  obtain ⟨hp, g, d, tk, os⟩ := s₂
  refine wpAny_bind (wpAny_pure ?_)
  repeat (first | with_reducible refine wpAny_loadPart_at he ?_ | with_reducible refine wpAny_loadPart_at hC ?_ | (with_reducible refine wpAny_isSubtype_exc hC ?_; rw [hcB]) | wp_step)
  have he3 := Heap.get?_update_self (Obj.mapFields (·.setIfInBounds 3 Value.none)) he rfl
  have he4 := Heap.get?_update_self (Obj.mapFields (·.setIfInBounds 4 (Value.bool true))) he3 rfl
  have other : ∀ b, b ≠ e → ((hp.update e (Obj.mapFields fun x => x.setIfInBounds 3 Value.none)).update e (Obj.mapFields fun x => x.setIfInBounds 4 (Value.bool true))).get? b = hp.get? b := fun b hb => by
    rw [Heap.get?_update_other _ _ (Ne.symm hb), Heap.get?_update_other _ _ (Ne.symm hb)]
  refine wpAny_raiseNew_held hh hne ((other ea hne).trans hoa) hf he4 rfl (by simp) ?_
  refine hE _ (fun b hb => ?_) ?_
  · exact (Heap.get?_update_other _ _ (Ne.symm hb)).trans (other b hb)
  · exact Heap.get?_update_self _ he4 rfl
theorem wpAny_Raise_from_subT (F : ExcBaseFacts B newId initId bmB) {mN : Str → Option Value} {x : Str} {np cpos pos p : Pos} {j} {args : List Expr} {ea : Addr} {Q : Flow → Shared → Prop}
    (hbase : bm.contains (.type "BaseException") = true) (hh : A.handled = some (.ref ea)) (hplain : (backTo cpos (starEach args env)).any (·.1) = false) (hni : mN "__init__" = none)
    (h : wpAny (model prog w) A (eval (.Name x np) env) (fun f s₁ => f = .ref C ∧ wpAny (model prog w) A (evalArgs (.ref C) true (backTo cpos (starEach args env)) [])
      (fun a s₂ => a.kw = [] ∧ a.pos.length ≤ sizeLine ∧ s₂.heap.get? C = some (excClassObj nm q C N bs bm hdct sn sub ab col dd k0 k1 k2 k3 k5 newId) ∧ s₂.heap.Ns N mN ∧ OwnTail s₂.heap bmB bm ∧ L2.C2 s₂.heap ea ∧
        ∀ h' e, Heap.MadeFrom s₂.heap h' e (.ref C) ea → E (.ref e) { s₂ with heap := h' }) E s₁) E s) :
    wpAny (model prog w) A (exec (.Raise (some (.Call (.Name x np) args [] cpos)) (some (.Constant .none j p)) pos) env) Q E s := by
  rw [arm_exec_Raise]
  refine wpAny_bind (wpAny_standAt (wpAny_raiseStmt_from (C := C) (nm := nm) (q := q) (N := N) (bs := bs) (bm := bm) (hdct := hdct) (sn := sn) (sub := sub) (ab := ab) (col := col) (dd := dd) (k0 := k0) (k1 := k1) (k2 := k2) (k3 := k3) (k5 := k5) (newId := newId) hbase hh (wpAny_bind (wpAny_mono (wpAny_Call_ofName (wpAny_mono h (fun f s₁ h₁ => ?_) fun _ _ x => x)) (fun v s₃ h₃ => wpAny_bind (wpAny_standAt (wpAny_pure h₃))) fun _ _ x => x))))
  obtain ⟨rfl, h₁⟩ := h₁
  unfold callWith
  refine wpAny_bind (wpAny_holding (wpAny_mono h₁ (fun a s₂ h₂ => wpAny_bind (wpAny_standAt ?_)) fun _ _ x => x))
  obtain ⟨apos, akw⟩ := a
  obtain ⟨hkw, hlen, hC, hn, T, ⟨oa, hoa, hf⟩, h₂⟩ := h₂
  obtain rfl : akw = [] := hkw
  obtain ⟨hp, g, d, tk, os⟩ := s₂
  simp only [hplain]
  refine wpAny_bind (wpAny_keeperOf_exc hC ?_)
  refine wpAny_bind (wpAny_call_exc_subT (hrest := hlen) F T hC hn hni fun h' e hm => wpAny_bind (wpAny_holding (wpAny_point (wpAny_pure ?_))))
  obtain ⟨t, ht, _, _⟩ := hm.there
  have ne : ∀ b o, hp.get? b = some o → b ≠ e := fun b o z y => by
    rw [y, hm.new] at z
    cases z
  refine ⟨e, t, oa, rfl, hm.keeps _ _ hC, ht, ne _ _ hoa, ne _ _ hC, hm.keeps _ _ hoa, hf, wpAny_bind (PyProof.Rows.Constant_none (wpAny_bind (wpAny_standAt (wpAny_pure ⟨rfl, rfl, fun h'' z1 z2 => ?_⟩))))⟩
  exact h₂ h'' e ⟨fun b o z => (z1 b (ne b o z)).trans (hm.keeps b o z), hm.new, ⟨t, z2⟩⟩
end
end PySem
namespace L2
open PySem PySem.Spec PyProof.Rows
def CXs (P : Program) (w : World) : CXT := fun outer H s E e s' => ∃ ea cls H' B, e = .ref ea ∧ Fly P w outer H s ea cls H' B s' ∧ C2 s'.heap ea ∧ E cls none H'
section
variable {P : Program} {w : World} {K : PySem.W.Frag} {mg : Str → Option Value} {base : Heap} {N : List Str} {qual : Str} {scope : Scope} {f : Addr} {cd : Value} {A : Around} {outer : List Env} {s : Shared} {H : Hp} {E : XK}
theorem passS : Passes (CXs P w) (cxOf (CXs P w) P w K mg base N qual scope f cd A outer s H E) E := by
  rintro pins σ H1 s1 e s' I ⟨ea, cls, H', B, rfl, F, c, hE⟩
  exact wpAny_mono (wpAny_keep2 (calm_leaving _ _) c (fly_on (Q := fun _ s'' => Fly P w outer H s ea cls H' B s'') own_cx I F fun s'' F' => F')) (fun _ s'' z => ⟨ea, cls, H', B, rfl, z.1, z.2, hE⟩) fun _ _ z => z.1
theorem raisesS : Raises (cxOf (CXs P w) P w K mg base N qual scope f cd A outer s H E) E := by
  rintro pins σ H1 s1 ea cls h' vs I hm hE
  obtain ⟨t, ht, _, _⟩ := hm.there
  exact wpAny_mono (wpAny_keep2 (calm_leaving _ _) ⟨_, ht, rfl⟩ (fly_made (Q := fun _ s'' => ∃ B, Fly P w outer H s ea cls H1 B s'') own_cx I hm fun s'' B F' => ⟨B, F'⟩)) (fun _ s'' z => let ⟨⟨B, F'⟩, c⟩ := z; ⟨ea, cls, H1, B, rfl, F', c, hE⟩) fun _ _ z => z.1
theorem Fun.okX {CX : CXT} {x qual : Str} {st : Stmt} {f : Addr} {fd : FuncData} {N ps : List Str} {k : Nat} {sp : Sp} (F : Fun K x qual st f fd) (S : FnScope N ps (defScope st)) (len : ∀ vs H Q E, sp vs H Q E → vs.length = ps.length)
    (hbody : ∀ (cdv : Value) (A : Around) (outer : List Env) (s : Shared) (H : Hp) (vs : List V) (Q : VK) (E : XK), Room k (A.deeper (envOfC qual (defScope st) s.heap.objs.size f cdv)) → sp vs H Q E →
      ∃ t, PSs (cxOf CX P w K mg base N qual (defScope st) f cdv A outer s H E) (defBody st) t ∧ t { nx := fun _ H' => Q .non H', rt := Q } (start N vs) H) : FnOk P w K mg base CX (k + 1) f fd ps sp := by
  obtain ⟨oc, od, kV, doc, pm, an, cdv, ct, osl, rfl, lk, hcd⟩ := F.ex
  exact fn_of lk hcd S len fun A outer s H vs Q E hr hsp => hbody cdv A outer s H vs Q E hr hsp
end
section
variable {X : Cx} {pins : List (Addr × Obj)} {σ : St} {H H' : Hp} {s s' : Shared} {ea e : Addr} {cls : Value} {B : Heap} {M : Model} {Ex : Value → Shared → Prop}
theorem fly_from {A : Around} (O : OwnCx X) (hfr : A.frames = some (X.env :: X.outer)) (I : Inv X pins σ H s) {h' : Heap} (hm : Heap.MadeFrom s.heap h' e cls ea) {Q : Unit → Shared → Prop}
    (k : ∀ s'' B, Fly X.prog X.w X.outer X.H₀ X.s₀ e cls H B s'' → Q () s'') : wpAny M A (leaving X.env (.ref e)) Q Ex { s with heap := h' } := by
  have hin : ∀ env ∈ X.stack, ∀ b, env.frame = some b → b ∈ frs X.stack := fun env he b hb => List.mem_filterMap.mpr ⟨env, he, hb⟩
  have hff : s.heap.FunFrames (PySem.W.hideAll s.heap (frs X.stack)) (X.env :: X.outer) := by
    have := PySem.W.funFrames_hide I.stack hin
    rw [O.stack] at this ⊢
    exact this
  obtain ⟨t, he⟩ := hm.there
  have hkb : ∀ b o, (PySem.W.hideAll s.heap (frs X.stack)).get? b = some o → s.heap.get? b = some o := fun b o q => PySem.W.of_hideAll _ q
  have fresh : ∀ b, s.heap.get? b = none → (PySem.W.hideAll s.heap (frs X.stack)).get? b = none := fun b hb => by
    cases hq : (PySem.W.hideAll s.heap (frs X.stack)).get? b with
    | none => rfl
    | some o' => have := hkb b o' hq; rw [hb] at this; cases this
  refine wpAny_leaving_firstW (base := PySem.W.hideAll s.heap (frs X.stack)) (s := { s with heap := h' }) (a0 := .ref t) hfr (hff.of_keeps fun b o hb _ => ⟨o, hm.keeps b o hb, rfl⟩) O.frame he (fun b o hb => hm.keeps b o (hkb b o hb)) (fresh e hm.new) rfl rfl rfl fun h2 hL => ?_
  obtain ⟨k1, ⟨_, _, k2⟩, k3, x4⟩ := hL
  have x1 : Heap.FlyingW (PySem.W.hideAll s.heap (frs X.stack)) X.outer e cls (.ref t) h2 := ⟨k1, fresh e hm.new, k2, k3⟩
  refine k _ (PySem.W.hideAll s.heap (frs X.stack)) ?_
  have kb : ∀ b o, s.heap.get? b = some o → b ∉ frs X.stack → (PySem.W.hideAll s.heap (frs X.stack)).get? b = some o := fun b o q hb => PySem.W.hideAll_get _ q hb
  have b0 := O.base I
  refine ⟨I.os, I.bare, un_leave O I (h1 := h') (Un.kept hm.keeps) (fun b o q _ hb => x1.1 b o (kb b o q hb)) (fun b o q hb => ⟨o, x1.1 b o (kb b o q hb)⟩) x4, fun a o e => ?_, fun b o q n hb => ?_, fun b o q hb => ?_, ⟨_, x1⟩⟩
  · refine (I.hok a o e).stay (fun b u hb q => kb b u q fun z => ?_) (fun _ q => q) fun _ _ q => q
    have n := I.stkFree b z
    rcases hb with rfl | hb
    · rw [n] at e; cases e
    · rw [n] at hb; cases hb
  · exact kb b o (b0.keep b o q n hb (by simp)) (O.not I q hb)
  · obtain ⟨o', e'⟩ := b0.there b o q (by simp)
    exact ⟨o', kb b o' e' (O.not I q hb)⟩
abbrev Cx.heldX (X : Cx) (ea : Addr) : Cx := { X with A := X.A.mark (some (.ref ea)), calm := false }
theorem Inv.heldX (I : Inv X pins σ H s) (ea : Addr) : Inv (X.heldX ea) pins σ H s :=
  ⟨⟨I.ok.mod, I.ok.kind, I.ok.glob, I.ok.blt, I.ok.above, I.ok.inj, I.ok.has, I.ok.cab, fun z => (by cases z), I.ok.frames, I.ok.stk, I.ok.exf, I.ok.bs, I.ok.bsz, I.ok.noex, I.ok.exfs, I.ok.funs, I.ok.frf⟩, I.os, I.bare, I.base, I.loc, I.cell, I.free, I.freeC, I.pin, I.hok, I.len⟩
theorem Inv.unheldX (I : Inv (X.heldX ea) pins σ H s) (ok : X.Ok) : Inv X pins σ H s := ⟨ok, I.os, I.bare, I.base, I.loc, I.cell, I.free, I.freeC, I.pin, I.hok, I.len⟩
def RaisesF (X : Cx) (E : XK) : Prop := ∀ (pins : List (Addr × Obj)) (σ : St) (H : Hp) (s : Shared) (e ea : Addr) (cls : Value) (h' : Heap), Inv (X.heldX ea) pins σ H s → Heap.MadeFrom s.heap h' e cls ea → E cls none H → X.xe (.ref e) { s with heap := h' }
theorem fly_land2 (I : Inv X pins σ H s) (F : Fly X.prog X.w X.stack H s ea cls H' B s') {h6 : Heap} {a0 : Value} (fl : Heap.FlyingW B X.stack ea cls a0 h6) (up : s'.heap.UpToSlots h6) (c : C2 h6 ea) : Inv X pins σ (upd H' ea (.ext fun h => C2 h ea)) { s' with heap := h6 } := by
  have out := F.out
  have new := fly_new I F
  have nb : ∀ b o, s.heap.get? b = some o → b ≠ ea := fun b o q z => by rw [z, new] at q; cases q
  obtain ⟨oe, vs, he, hc, hd, _⟩ := fl.first
  have fr : ∀ b o, s.heap.get? b = some o → H b = none → b ∈ frs X.stack → ∃ sl, h6.get? b = some { o with slots := sl } := fun b o q n hb => by
    obtain ⟨s1, e1⟩ := F.un.slot b o q n hb (by simp)
    obtain ⟨_, o', ho', hnf⟩ := I.stack.mem hb
    rw [q] at ho'
    cases ho'
    obtain ⟨s2, e2⟩ := up b _ e1 (show ∀ vs, o.data ≠ .fields vs from hnf)
    exact ⟨s2, e2⟩
  refine I.call' (ch := []) F.os ⟨fun b o q n hb _ => fl.1 b o (F.kb b o q n hb), fun b o q n hb _ => fr b o q n hb, fun b o q n _ => ?_, fun b o q _ => ?_, fun b xs q => ?_, fun b o v q => ?_, fun b ps q => ?_⟩ (fun b o q => ?_) F.bare (fun b z => absurd z (by simp))
  · rw [upd_ne (nb b o q)]
    exact F.un.free b o q n (by simp)
  · by_cases hb : b ∈ frs X.stack
    · obtain ⟨sl, e⟩ := fr b o q (I.stkFree b hb) hb
      exact ⟨_, e⟩
    · obtain ⟨o', e⟩ := F.tb b o q hb
      exact ⟨o', fl.1 b o' e⟩
  · have := F.un.tups b xs q
    rw [upd_ne (ne_of_none this out)]
    exact this
  · have := F.un.frzs b o v q
    rw [upd_ne (ne_of_none this out)]
    exact this
  · obtain ⟨m, this⟩ := F.un.tbls b ps q
    exact ⟨m, by rw [upd_ne (ne_of_none this out)]; exact this⟩
  · by_cases hb : b = ea
    · subst hb
      rw [upd_same] at q
      cases q
      exact ⟨c, ⟨oe, he⟩, fun h h' ⟨ob, e1, e2⟩ k => ⟨ob, k _ e1, e2⟩⟩
    · rw [upd_ne hb] at q
      exact (F.hok b o q).stay (fun c u _ e => fl.1 c u e) (fun c e => by rw [upd_ne (ne_of_none e out)]; exact e) fun c xs e => by rw [upd_ne (ne_of_none e out)]; exact e
end
section
variable {P : Program} {w : World} {K : PySem.W.Frag} {mg : Str → Option Value} {base : Heap} {N : List Str} {qual : Str} {scope : Scope} {f : Addr} {cd : Value} {A : Around} {outer : List Env} {s : Shared} {H : Hp} {E : XK}
theorem raisesF : RaisesF (cxOf (CXr P w) P w K mg base N qual scope f cd A outer s H E) E := by
  rintro pins σ H1 s1 e ea cls h' I hm hE
  exact fly_from (A := (cxOf (CXr P w) P w K mg base N qual scope f cd A outer s H E).A) (X := (cxOf (CXr P w) P w K mg base N qual scope f cd A outer s H E).heldX ea) ⟨rfl, rfl, rfl⟩ I.ok.frames I hm fun s'' B F' => ⟨e, cls, H1, B, rfl, F', hE⟩
end
section
variable {X : Cx} {E : XK} {C ea : Addr} {x : Str} {np cpos pos p : Pos} {e : Expr} {es : List Expr} {t : TA}
def tRaiseF (ea C : Addr) (E : XK) (t : TA) : TS := fun _ σ H => t σ H fun vs H1 => vs.length ≤ sizeLine ∧ H1 ea = some (.ext fun h => C2 h ea) ∧ E (.ref C) none H1
theorem ps_raiseF {j} (hR : RaisesF X E) (hg : Gl X x) (hm : X.mg x = some (.ref C)) (hq : isExcB X.K C = true) (ha : PA (X.heldX ea) (e :: es) t) (hdb : (x == ("__debug__" : Str)) = false := by decide)
    (he : starEach (e :: es) X.env = (false, eval e X.env) :: starEach es X.env := by rfl) (hpl : (backTo cpos (starEach es X.env)).any (·.1) = false := by rfl) :
    PS (X.heldX ea) (.Raise (some (.Call (.Name x np) (e :: es) [] cpos)) (some (.Constant .none j p)) pos) (tRaiseF ea C E t) := by
  intro pins s σ H D I h
  obtain ⟨bm, N, nm, qn, bs, hdct, sn, sub, ab, col, dd, k0, k1, k2, k3, k5, mN, hC, hN, hni, T⟩ := exc_obj I.ok.mod.kin hq
  refine wpAny_Raise_from_subT (C := C) (nm := nm) (q := qn) (N := N) (bs := bs) (bm := bm) (hdct := hdct) (sn := sn) (sub := sub) (ab := ab) (col := col) (dd := dd) (k0 := k0) (k1 := k1) (k2 := k2) (k3 := k3) (k5 := k5) (ea := ea)
    PySem.F.excBase_ValueError (mN := mN) (T.hasType PySem.F.excBase_ValueError.hasBase) rfl (by rw [he]; show (false || (backTo cpos (starEach es X.env)).any (·.1)) = false; rw [hpl]; rfl) hni (ld_glob I hg hm ⟨rfl, ?_⟩ hdb)
  have h2 := ha cpos pins s σ H _ I h
  rw [he] at h2 ⊢
  refine Calls.evalArgs_plain (wpAny_mono h2 (fun us s1 ⟨vs, H1, I1, r1, q1⟩ => ⟨rfl, ?_, I1.bk _ _ hC, hN.keeps I1.bk, T.keeps I1.bk, (I1.hok _ _ q1.2.1).1, fun h' ea' hm' => hR pins σ H1 s1 ea' _ _ h' I1 hm' q1.2.2⟩) fun _ _ y => y)
  rw [← r1.length]
  exact q1.1
end
section
variable {X : Cx} {CX : CXT} {k : Nat} {f : Addr} {fd : FuncData} {ps : List Str} {sp : Sp} {dvs : List V} {ds : List Value} {E : XK} {x : Str} {p pos : Pos} {e : Expr} {es : List Expr} {t : TA}
theorem ex_callX {pins : List (Addr × Obj)} {σ : St} {H : Hp} {s : Shared} {Q : VK} (F : FnOk X.prog X.w X.K X.mg X.base CX k f fd ps sp) (hr : Room k X.A) (hg : Gl X x) (hm : X.mg x = some (.ref f)) (hk : PySem.W.keepIn X.K (.ref f) = true) (hb : Binds X.K fd ps ds) (hd : Vals dvs ds)
    (ha : PA X.nox (e :: es) t) (I : Inv X pins σ H s) (h : tCall sp dvs E t σ H Q) (hdb : (x == ("__debug__" : Str)) = false := by decide) (he : starEach (e :: es) X.env = (false, eval e X.env) :: starEach es X.env := by rfl) (hpl : (backTo pos (starEach es X.env)).any (·.1) = false := by rfl) :
    wpAny (model X.prog X.w) X.A (eval (.Call (.Name x p) (e :: es) [] pos) X.env) (EP X pins σ Q) (fun e s' => ∃ H1 s1, Inv X pins σ H1 s1 ∧ CX X.stack H1 s1 E e s') s := by
  refine wpAny_Call_Name_kw (ld_glob I hg hm ?_ hdb)
  refine PySem.W.callWith_K (h₀ := X.base) I.ok.mod.kin hk (wpAny_mono (ha pos pins s σ H _ (I.wish _) h) (fun us s1 ⟨vs, H1, I1, r, q⟩ => ⟨I1.kIn, ?_⟩) fun _ _ z => False.elim z) he hpl
  have I1' : Inv X pins σ H1 s1 := I1.unwish
  have r2 : Vals (vs ++ dvs) (us ++ ds) := r.append hd
  have hl : (us ++ ds).length = ps.length := by rw [← r2.length]; exact F.len _ _ _ _ q
  refine wpAny_call (codeAny_mono (F.run X.A X.stack s1 H1 ⟨us, []⟩ (us ++ ds) (vs ++ dvs) Q E hr I1'.env0 (hb s1 us I1'.kIn hl) r2 q) fun r s' hq => ?_)
  cases r with
  | error e => exact ⟨H1, s1, I1', hq⟩
  | ok fl =>
    cases fl with
    | ret u => exact I1'.after hq
    | next => exact False.elim hq
    | brk => exact False.elim hq
    | cont => exact False.elim hq
end
section
variable {X : Cx} {y1 y2 : Str} {CA CB : Addr} {np1 np2 hp1 hp2 : Pos} {b1 b2 : Stmt} {r1 r2 : List Stmt} {ts1 ts2 : Addr → TS}
def eTry2 (K : PySem.W.Frag) (CA CB : Addr) (ts1 ts2 : Addr → TS) (D : Ends) (σ : St) : XK := fun cls _ H =>
  (PySem.W.exmOne K cls (.ref CA) = some true ∧ ∀ ea, H ea = none → ts1 ea D σ (upd H ea (.ext fun h => C2 h ea))) ∨
  (PySem.W.exmOne K cls (.ref CA) = some false ∧ PySem.W.exmOne K cls (.ref CB) = some true ∧ ∀ ea, H ea = none → ts2 ea D σ (upd H ea (.ext fun h => C2 h ea)))
theorem suite_ok {pins : List (Addr × Obj)} {σ : St} {H H' : Hp} {s s' : Shared} {ea : Addr} {cls : Value} {B h5 : Heap} {a0 : Value} {D : Ends} {ts : Addr → TS} {b₀ : Stmt} {suite : List Stmt} {pos : Pos} (hp : PassesOwnAt (model X.prog X.w) (X.A.mark (some (.ref ea))) X.A X.env X.xe)
    (I : Inv X pins σ H s) (F : Fly X.prog X.w X.stack H s ea cls H' B s') (fl : Heap.FlyingW B X.stack ea cls a0 h5) (up : s'.heap.UpToSlots h5) (c : C2 h5 ea) (hs : PSs (X.heldX ea) (b₀ :: suite) (ts ea)) (hE : ts ea D σ (upd H' ea (.ext fun h => C2 h ea))) :
    codeAny (model X.prog X.w) (X.A.mark (some (.ref ea))) (.handlers (.ref ea) [.ExceptHandler none none (b₀ :: suite) pos] X.env) (fun r s₂ => match r with | .ok f => SP X pins D f s₂ | .error x => cameBackBy (model X.prog X.w) X.A X.env X.xe x s₂) { s' with heap := h5 } := by
  refine codeAny_handlers_suite ?_
  refine wpAny_mono (wpAny_keep2 (s := { s' with heap := h5 }) (calm_setFlight _ _) c (lands_againW (s := { s' with heap := h5 }) (Q := fun _ s2 => ∃ h6, s2 = { s' with heap := h6 } ∧ Heap.FlyingW B X.stack ea cls a0 h6 ∧ h5.UpToSlots h6) (E := fun _ _ => False) fl fun h6 f6 u6 => ⟨h6, rfl, f6, u6⟩)) (fun _ s2 z => ?_) fun _ _ z => False.elim z.1
  obtain ⟨⟨h6, rfl, f6, u6⟩, c6⟩ := z
  have I6 := (fly_land2 I F f6 (up.trans u6) c6).heldX ea
  have run := hs pins _ _ _ _ I6 hE
  refine wpAny_passesOwnAt hp (thn run fun f s8 q => ?_)
  have ok := I.ok
  cases f with
  | next => obtain ⟨σ', H2, I8, q⟩ := q; exact ⟨_, H2, I8.unheldX ok, q⟩
  | brk => obtain ⟨σ', H2, I8, q⟩ := q; exact ⟨_, H2, I8.unheldX ok, q⟩
  | cont => obtain ⟨σ', H2, I8, q⟩ := q; exact ⟨_, H2, I8.unheldX ok, q⟩
  | ret u => obtain ⟨v, σ', H2, I8, r, q⟩ := q; exact ⟨v, _, H2, I8.unheldX ok, r, q⟩
theorem caught2 {pins : List (Addr × Obj)} {σ : St} {D : Ends} {e : Value} {s' : Shared} (O : OwnCx X) (hp : ∀ ea, PassesOwnAt (model X.prog X.w) (X.A.mark (some (.ref ea))) X.A X.env X.xe) (hg1 : Gl X y1) (hm1 : X.mg y1 = some (.ref CA)) (hg2 : Gl X y2) (hm2 : X.mg y2 = some (.ref CB))
    (hs1 : ∀ ea, PSs (X.heldX ea) (b1 :: r1) (ts1 ea)) (hs2 : ∀ ea, PSs (X.heldX ea) (b2 :: r2) (ts2 ea)) (h : ∃ H1 s1, Inv X pins σ H1 s1 ∧ CXs X.prog X.w X.stack H1 s1 (eTry2 X.K CA CB ts1 ts2 D σ) e s') (hd1 : (y1 == ("__debug__" : Str)) = false := by decide) (hd2 : (y2 == ("__debug__" : Str)) = false := by decide) :
    wpAny (model X.prog X.w) X.A (noteFrame e X.env) (fun _ s₂ => wpAny (model X.prog X.w) X.A (setFlight e none) (fun _ s₃ => wpAny (model X.prog X.w) X.A (handleBy e X.env [.ExceptHandler (some (.Name y1 np1)) none (b1 :: r1) hp1, .ExceptHandler (some (.Name y2 np2)) none (b2 :: r2) hp2]) (SP X pins D) X.xe s₃) X.xe s₂) X.xe s' := by
  obtain ⟨H1, s1, I, ea, cls, H', B, rfl, F, c, hE⟩ := h
  have hfr : X.A.frames = some (X.env :: X.outer) := by rw [← O.stack]; exact I.ok.frames
  obtain ⟨a0, f⟩ := F.fly
  have f' := f
  rw [O.stack] at f'
  refine wpAny_mono (wpAny_keep2 (calm_noteFrame _ _) c (wpAny_looks_onW (Q := fun _ s2 => ∃ h4, s2 = { s' with heap := h4 } ∧ Heap.HeldW B (X.env :: X.outer) ea cls a0 X.env.locals h4 ∧ s'.heap.UpToSlots h4) (E := fun _ _ => False) hfr O.frame f' fun h4 q4 u4 => ⟨h4, rfl, q4, u4⟩)) (fun _ s2 z => ?_) fun _ _ z => False.elim z.1
  obtain ⟨⟨h4, rfl, q4, u4⟩, c4⟩ := z
  refine wpAny_mono (wpAny_keep2 (s := { s' with heap := h4 }) (calm_setFlight _ _) c4 (wpAny_landsW (s := { s' with heap := h4 }) (Q := fun _ s2 => ∃ h5, s2 = { s' with heap := h5 } ∧ Heap.FlyingW B (X.env :: X.outer) ea cls a0 h5 ∧ h4.UpToSlots h5) (E := fun _ _ => False) q4 fun h5 q5 u5 => ⟨h5, rfl, q5, u5⟩)) (fun _ s2 z => ?_) fun _ _ z => False.elim z.1
  obtain ⟨⟨h5, rfl, f5, u5⟩, c5⟩ := z
  rw [← O.stack] at f5
  have up5 := u4.trans u5
  have I5 := fly_land2 I F f5 up5 c5
  have I5h := I5.heldX ea
  obtain ⟨oe, vs, he, hc, _, _⟩ := f5.first
  have LT : PySem.W.Looks (model X.prog X.w) h5 (typeOf (.ref ea)) cls := by
    rw [← hc]
    exact PySem.W.Looks.andThen (PySem.W.Looks.ld he) .now
  refine wpAny_handleBy_cons (codeAny_handlers_test (ld_glob (X := X.heldX ea) I5h hg1 hm1 ?_ hd1)) (by intro q; cases q)
  rcases hE with ⟨x1, x2⟩ | ⟨x1, x2, x3⟩
  · refine (PySem.W.exm_one I5.kIn LT x1).here ?_
    exact suite_ok (ts := ts1) (hp ea) I F f5 up5 c5 (hs1 ea) (x2 ea F.out)
  · refine (PySem.W.exm_one I5.kIn LT x1).here ?_
    refine wpAny_handleBy_cons (codeAny_handlers_test (ld_glob (X := X.heldX ea) I5h hg2 hm2 ?_ hd2)) (by intro q; cases q)
    refine (PySem.W.exm_one I5.kIn LT x2).here ?_
    exact suite_ok (ts := ts2) (hp ea) I F f5 up5 c5 (hs2 ea) (x3 ea F.out)
variable {k : Nat} {f : Addr} {fd : FuncData} {ps : List Str} {sp : Sp} {dvs : List V} {ds : List Value} {x : Str} {p cpos epos pos : Pos} {e : Expr} {es : List Expr} {t : TA}
def tTry2 (K : PySem.W.Frag) (CA CB : Addr) (ts1 ts2 : Addr → TS) (sp : Sp) (dvs : List V) (t : TA) : TS := fun D σ H => tCall sp dvs (eTry2 K CA CB ts1 ts2 D σ) t σ H fun _ H1 => D.nx σ H1
theorem ps_try2 (O : OwnCx X) (hp : ∀ ea, PassesOwnAt (model X.prog X.w) (X.A.mark (some (.ref ea))) X.A X.env X.xe) (F : FnOk X.prog X.w X.K X.mg X.base (CXs X.prog X.w) k f fd ps sp) (hr : Room k X.A) (hg : Gl X x) (hm : X.mg x = some (.ref f)) (hk : PySem.W.keepIn X.K (.ref f) = true) (hb : Binds X.K fd ps ds) (hd : Vals dvs ds) (ha : PA X.nox (e :: es) t)
    (hg1 : Gl X y1) (hm1 : X.mg y1 = some (.ref CA)) (hg2 : Gl X y2) (hm2 : X.mg y2 = some (.ref CB)) (hs1 : ∀ ea, PSs (X.heldX ea) (b1 :: r1) (ts1 ea)) (hs2 : ∀ ea, PSs (X.heldX ea) (b2 :: r2) (ts2 ea))
    (hdb : (x == ("__debug__" : Str)) = false := by decide) (he : starEach (e :: es) X.env = (false, eval e X.env) :: starEach es X.env := by rfl) (hpl : (backTo cpos (starEach es X.env)).any (·.1) = false := by rfl)
    (hs : swapsWith (.Call (.Name x p) (e :: es) [] cpos) none epos.line X.env = pure false := by rfl) (hd1 : (y1 == ("__debug__" : Str)) = false := by decide) (hd2 : (y2 == ("__debug__" : Str)) = false := by decide) :
    PS X (.Try [.Expr (.Call (.Name x p) (e :: es) [] cpos) epos] [.ExceptHandler (some (.Name y1 np1)) none (b1 :: r1) hp1, .ExceptHandler (some (.Name y2 np2)) none (b2 :: r2) hp2] [] [] pos) (tTry2 X.K CA CB ts1 ts2 sp dvs t) := by
  intro pins s σ H D I h
  refine wpAny_Try_except (wpAny_execs_cons (wpAny_Expr_any (wpAny_mono (ex_callX (p := p) (pos := cpos) F hr hg hm hk hb hd ha I h hdb he hpl) (fun v s1 ⟨z, H1, I1, r1, q1⟩ => ?_) (fun e' s1 z => caught2 O hp hg1 hm1 hg2 hm2 hs1 hs2 z hd1 hd2)) I.quiet hs))
  exact wpAny_execs_nil (wpAny_execs_nil ⟨σ, H1, I1, q1⟩)
end
end L2
namespace Srt
open PySem PySem.W PyProof.Rows
def Lv {α : Type} (R : α → Prop) : KasT α → Prop
  | .ret a => R a
  | .ask _ _ k => ∀ b, Lv R (k b)
theorem Lv.out {α : Type} {R : α → Prop} (lt : Nat → Nat → Bool) : ∀ {t : KasT α}, Lv R t → R (run lt t)
  | .ret _, h => h
  | .ask i j k, h => Lv.out lt (t := k (lt i j)) (h (lt i j))
theorem Lv.mono {α : Type} {R S : α → Prop} (hs : ∀ a, R a → S a) : ∀ {t : KasT α}, Lv R t → Lv S t
  | .ret _, h => hs _ h
  | .ask _ _ _, h => fun b => Lv.mono hs (h b)
theorem Lv.bind {α β : Type} {R : α → Prop} {S : β → Prop} {f : α → KasT β} (hf : ∀ a, R a → Lv S (f a)) : ∀ {t : KasT α}, Lv R t → Lv S (t.bind f)
  | .ret _, h => hf _ h
  | .ask _ _ _, h => fun b => Lv.bind hf (h b)
theorem Lv.any {α : Type} : ∀ t : KasT α, Lv (fun _ => True) t
  | .ret _ => trivial
  | .ask _ _ k => fun b => Lv.any (k b)
theorem pm_desc : ∀ (f : Nat) (p : Array Nat) (n q : Nat), Lv (fun r => r.1.Perm p) (kas_desc f p n q)
  | 0, p, _, _ => Array.Perm.refl p
  | f + 1, p, n, q => fun c => by
    cases c with
    | true =>
      dsimp only
      by_cases hq : q > 0
      · rw [if_pos rfl, if_pos hq]
        exact (pm_desc f _ _ _).mono fun a h => h.trans (mirror_perm ..)
      · rw [if_pos rfl, if_neg hq]
        exact pm_desc f p (n + 1) 0
    | false =>
      dsimp only
      rw [if_neg Bool.false_ne_true]
      intro d
      cases d with
      | true => exact Array.Perm.refl p
      | false => exact pm_desc f p (n + 1) (q + 1)
theorem pm_tail (n m : Nat) (p : Array Nat) : Lv (fun r => r.2.Perm p) (kas_tail3 n m p) := (Lv.any _).bind (S := fun r : Nat × Array Nat => r.2.Perm p) (f := fun m => .ret (m, kas_rev p 0 n)) fun _ _ => (mirror_perm .. : (kas_rev p 0 n).Perm p)
theorem pm_part (n m : Nat) (p : Array Nat) : Lv (fun r => r.2.Perm p) (kas_descPart n m p) := (pm_desc _ p _ _).bind fun r hr => by
  by_cases e : r.2.2 > 0
  · rw [if_pos e]
    exact (pm_tail _ _ _).mono fun a h => h.trans ((mirror_perm ..).trans hr)
  · rw [if_neg e]
    exact (pm_tail _ _ _).mono fun a h => h.trans hr
theorem pm_count (m : Nat) (p : Array Nat) : Lv (fun r => r.2.Perm p) (kas_count m p) := (Lv.any _).bind fun n _ => by
  by_cases e : (n == m) = true
  · rw [if_pos e]
    exact Array.Perm.refl p
  · rw [if_neg e]
    by_cases h1 : n > 1
    · rw [if_pos h1]
      intro c
      cases c with
      | true => exact Array.Perm.refl p
      | false => exact (pm_part _ _ _).mono fun a h => h.trans (mirror_perm ..)
    · rw [if_neg h1]
      exact pm_part _ _ _
theorem pm_bin : ∀ (f : Nat) (p : Array Nat) (k : Nat), Lv (fun r => r.Perm p) (kas_bin f p k)
  | 0, p, _ => Array.Perm.refl p
  | f + 1, p, k => (Lv.any _).bind fun l _ => (pm_bin f _ _).mono fun a h => h.trans (bubble_perm ..)
theorem pm_sort (N : Nat) (lt : Nat → Nat → Bool) : (run lt (kas_sort N)).toList.Perm (List.range N) := by
  have h : Lv (fun r : Array Nat => r.Perm (List.toArray (List.range N))) (kas_sort N) := (pm_count N _).bind fun r hr => by
    by_cases e : r.1 < N
    · rw [if_pos e]
      exact (pm_bin _ _ _).mono fun a h => h.trans hr
    · rw [if_neg e]
      exact hr
  exact (Array.perm_iff_toList_perm.mp (h.out lt)).trans (by simp)
end Srt
namespace L2
open PySem PySem.Spec PySem.W PyProof.Rows
section
variable {prog : Program} {w : World} {A : Around} {E : Value → Shared → Prop} {s : Shared}
def SgV (c : Nat) (v : Value) : Prop := ∃ t, v = .str ⟨#[c]⟩ t
def ltC (cs : List Nat) (i j : Nat) : Bool := decide (cs.getD i 0 < cs.getD j 0)
theorem ltC_ord {cs : List Nat} (hn : cs.Nodup) : Srt.Ord cs.length (ltC cs) := by
  refine ⟨fun a b ha hb hab => ?_, fun a b c _ _ _ h1 h2 => ?_, fun a b _ _ h => ?_⟩
  · have hne : cs.getD a 0 ≠ cs.getD b 0 := fun e => by
      rw [List.getD_eq_getElem?_getD, List.getD_eq_getElem?_getD, List.getElem?_eq_getElem ha, List.getElem?_eq_getElem hb] at e
      have e' : cs[a] = cs[b] := e
      exact hab ((List.getElem?_inj ha hn).mp (by rw [List.getElem?_eq_getElem ha, List.getElem?_eq_getElem hb, e']))
    unfold ltC
    rw [decide_eq_true_eq, decide_eq_true_eq]
    omega
  · unfold ltC at h1 h2 ⊢
    rw [decide_eq_true_eq] at h1 h2 ⊢
    omega
  · unfold ltC at h ⊢
    rw [decide_eq_true_eq] at h
    rw [decide_eq_false_iff_not]
    omega
theorem sg_at {cs : List Nat} {vs : List Value} (r : Paired SgV cs vs) {i : Nat} (hi : i < cs.length) : SgV (cs.getD i 0) (vs.getD i .none) := by
  induction r generalizing i with
  | nil => simp at hi
  | cons p _ ih =>
    cases i with
    | zero => exact p
    | succ i => exact ih (by simpa using hi)
theorem sg_all {cs : List Nat} {vs : List Value} (r : Paired SgV cs vs) : ∀ v ∈ vs, ∃ c, SgV c v := by
  induction r with
  | nil => intro v hv; cases hv
  | cons p _ ih =>
    intro v hv
    rcases List.mem_cons.mp hv with rfl | z
    · exact ⟨_, p⟩
    · exact ih v z
theorem sort_signs {a : Addr} {vs : List Value} {n : Nat} {cs : List Nat} {P : PySem.Fin → Shared → Prop} (ho : s.heap.get? a = some (seqObj "list" vs.toArray n)) (r : Paired SgV cs vs) (h64 : vs.length < 64)
    (h : ∀ p : Array Nat, p.toList.Perm (List.range cs.length) → (cs.Nodup → Srt.Up (ltC cs) p cs.length) → P (.done (.ret .none)) { s with heap := sortedHeap s.heap a vs (p.toList.map fun i => vs.getD i .none).toArray }) :
    wpAny (model prog w) A (Builtin.«list.sort» ⟨[.ref a], []⟩) P E s := by
  have hl : cs.length = vs.length := Paired.length r
  have ha : a < s.heap.objs.size := Heap.lt_size ho
  obtain ⟨e1, ho1⟩ : ∃ e1, (s.heap.update a (Obj.mapSeq fun _ => (#[] : Array Value))).get? a = some (seqObj "list" #[] e1) := ⟨_, get?_update_seq ho fun _ => #[]⟩
  have ho6 : (((s.heap.update a (Obj.mapSeq fun _ => (#[] : Array Value))).push (seqObj "tuple" vs.toArray 0)).push (seqObj "list" #[] 0)).get? a = some (seqObj "list" #[] e1) := Heap.get?_push_of_some _ (Heap.get?_push_of_some _ ho1)
  rw [list_sort_plain]
  refine wpAny_bind (listItems_at ho rfl ?_)
  refine wpAny_bind (listUpdate_at ho rfl ?_ (by rw [List.size_toArray, sizeLine_eq]; omega) (Nat.zero_le _))
  refine wpAny_bind (seqEpoch_at ho1 rfl (wpAny_bind (wpAny_newTuple ?_ (by show vs.length ≤ _; rw [sizeLine_eq]; omega))))
  refine wpAny_bind (wpAny_newList (wpAny_holding ?_) (Nat.zero_le _))
  show wpAny (model prog w) A _ P E { s with heap := ((s.heap.update a (Obj.mapSeq fun _ => (#[] : Array Value))).push (seqObj "tuple" vs.toArray 0)).push (seqObj "list" #[] 0) }
  dsimp only
  have fin : ∀ (st : SortSt) (p : Array Nat), failedOf st = none → (arrOf st).map (·.2) = (p.toList.map fun i => vs.getD i .none).toArray → p.toList.Perm (List.range cs.length) → (cs.Nodup → Srt.Up (ltC cs) p cs.length) →
      wpAny (model prog w) A (do
        let touched := (← seqEpoch a) != e1
        Builtin.List.listUpdate (.ref a) fun _ => (arrOf st).map (·.2)
        if let some e := failedOf st then rule "list.sort.comparison-raised"; throw e
        if touched then rule "list.sort.modified"; raiseError "ValueError" "list modified during sort"
        ret .none) P E { s with heap := ((s.heap.update a (Obj.mapSeq fun _ => (#[] : Array Value))).push (seqObj "tuple" vs.toArray 0)).push (seqObj "list" #[] 0) } := fun st p hf har hA hU => by
    have hps : p.toList.length = cs.length := by rw [hA.length_eq, List.length_range]
    refine wpAny_bind (seqEpoch_at ho6 rfl (wpAny_bind (listUpdate_at ho6 rfl ?_ (Nat.zero_le _) (by rw [har, List.size_toArray, List.length_map, hps, sizeLine_eq]; omega))))
    rw [hf, har]
    simp only [bne_self_eq_false, Bool.false_eq_true, if_false]
    exact wpAny_pure (h p hA hU)
  by_cases h2 : vs.toArray.size < 2
  · rw [if_pos h2, if_pos h2]
    refine wpAny_bind (wpAny_pure ?_)
    rw [StateT.run_pure]
    refine wpAny_bind (wpAny_pure ?_)
    refine fin (SortSt.mk' general' (vs.toArray.zip vs.toArray) #[] 7 none) (List.toArray (List.range cs.length)) rfl ?_ (.refl _) fun _ i j hij hj => ?_
    · show (vs.toArray.zip vs.toArray).map (·.2) = _
      rw [List.size_toArray] at h2
      match vs, hl, h2 with
      | [], hl, _ => rw [hl]; simp
      | [v], hl, _ => rw [hl]; simp
      | _ :: _ :: _, _, h2 => simp at h2; omega
    · rw [List.size_toArray] at h2
      omega
  · rw [if_neg h2, if_neg h2]
    rw [List.size_toArray] at h2
    refine wpAny_bind (kas_kind (s := { s with heap := ((s.heap.update a (Obj.mapSeq fun _ => (#[] : Array Value))).push (seqObj "tuple" vs.toArray 0)).push (seqObj "list" #[] 0) }) (T := .type "str") (by omega) (fun f hf' => ?_) rfl rfl ?_)
    · obtain ⟨c, t, rfl⟩ := sg_all r f hf'
      exact PySem.W.Looks.of_pure rfl
    have go : (kas_sort vs.length).kasWp (kas_ask prog w A oneType' vs) (fun p s' => s' = { s with heap := ((s.heap.update a (Obj.mapSeq fun _ => (#[] : Array Value))).push (seqObj "tuple" vs.toArray 0)).push (seqObj "list" #[] 0) } ∧ p.toList.Perm (List.range cs.length) ∧ (cs.Nodup → Srt.Up (ltC cs) p cs.length))
        { s with heap := ((s.heap.update a (Obj.mapSeq fun _ => (#[] : Array Value))).push (seqObj "tuple" vs.toArray 0)).push (seqObj "list" #[] 0) } := by
      rw [← hl]
      refine Srt.wp_run (N := cs.length) (lt := ltC cs) (fun i j C hi hj hC => ?_) (Srt.fair_sort (by omega)) ⟨rfl, Srt.pm_sort _ _, fun hn => (Srt.sort_ok (ltC_ord hn) (by omega)).2⟩
      obtain ⟨t1, e1'⟩ := sg_at r hi
      obtain ⟨t2, e2'⟩ := sg_at r hj
      unfold kas_ask
      rw [e1', e2']
      refine kas_lt_str ?_
      unfold ltC at hC
      have e : ∀ x y : Nat, decide (([x] : List Nat) < [y]) = decide (x < y) := fun x y => decide_eq_decide.mpr (by simp [List.cons_lt_cons_iff])
      show C (decide (([cs.getD i 0] : List Nat) < [cs.getD j 0])) _
      rw [e]
      exact hC
    refine wpAny_bind (wpAny_mono (kat_run (ks := vs) (vs := vs) (Q := fun st' s' => s' = { s with heap := ((s.heap.update a (Obj.mapSeq fun _ => (#[] : Array Value))).push (seqObj "tuple" vs.toArray 0)).push (seqObj "list" #[] 0) } ∧ ∃ p : Array Nat, failedOf st' = none ∧ (arrOf st').map (·.2) = (p.toList.map fun i => vs.getD i .none).toArray ∧ p.toList.Perm (List.range cs.length) ∧ (cs.Nodup → Srt.Up (ltC cs) p cs.length))
      rfl (by omega) h64 (fun p st' s' _ har hfl' hG => ⟨hG.1, p, hfl', kat_snds rfl har, hG.2.1, hG.2.2⟩) go) ?_ fun _ _ e => e)
    rintro ⟨⟨⟩, st'⟩ s' ⟨rfl, p, hf', har, pA, pU⟩
    exact fin st' p hf' har pA pU
end
def sgn (c : Nat) : V := .str ⟨#[c]⟩
theorem signs_paired {x : Str} {acc : Array Value} (h : ItemsOf (SignAt x) acc x.cps.size) : Paired SgV x.cps.toList acc.toList := by
  have g : ∀ (cs : List Nat) (vs : List Value), cs.length = vs.length → (∀ (i : Nat) (v : Value), vs[i]? = some v → ∃ c u, cs[i]? = some c ∧ v = .str ⟨#[c]⟩ u) → Paired SgV cs vs := by
    intro cs
    induction cs with
    | nil =>
      intro vs hl _
      cases vs with
      | nil => exact .nil
      | cons v vs => simp at hl
    | cons c cs ih =>
      intro vs hl hv
      cases vs with
      | nil => simp at hl
      | cons v vs =>
        refine .cons ?_ (ih vs (by simpa using hl) fun i v' hv' => ?_)
        · obtain ⟨c', u, e, e'⟩ := hv 0 v rfl
          cases e
          exact ⟨u, e'⟩
        · obtain ⟨c', u, e, e'⟩ := hv (i + 1) v' (by simpa using hv')
          exact ⟨c', u, by simpa using e, e'⟩
  refine g _ _ (by rw [Array.length_toList, Array.length_toList, h.1]) fun i v hv => ?_
  obtain ⟨c, u, e1, e2⟩ := h.2 i v (by rw [← Array.getElem?_toList]; exact hv)
  exact ⟨c, u, by rw [Array.getElem?_toList]; exact e1, e2⟩
theorem signs_vals {cs : List Nat} {vs : List Value} (r : Paired SgV cs vs) : Vals (cs.map sgn) vs := by
  induction r with
  | nil => exact .nil
  | cons p _ ih =>
    obtain ⟨t, rfl⟩ := p
    exact .cons ⟨t, rfl⟩ ih
theorem signs_pick {cs : List Nat} {vs : List Value} (r : Paired SgV cs vs) : ∀ {l : List Nat}, (∀ i ∈ l, i < cs.length) → Paired SgV (l.map fun i => cs.getD i 0) (l.map fun i => vs.getD i .none)
  | [], _ => .nil
  | i :: l, h => .cons (sg_at r (h i List.mem_cons_self)) (signs_pick r fun j hj => h j (List.mem_cons_of_mem _ hj))
theorem getD_rangeN (W : List Nat) : (List.range W.length).map (fun i => W.getD i 0) = W := by
  refine List.ext_getElem? fun i => ?_
  rw [List.getElem?_map]
  by_cases h : i < W.length
  · rw [List.getElem?_range h, List.getElem?_eq_getElem h]
    show some (W.getD i 0) = _
    rw [List.getD_eq_getElem?_getD, List.getElem?_eq_getElem h]
    rfl
  · rw [List.getElem?_eq_none (by rw [List.length_range]; omega), List.getElem?_eq_none (by omega)]
    rfl
def rSortS : List V → Hp → VK → Prop := fun xs H Q => ∃ a : Str, xs = [.str a] ∧ a.cps.size < 64 ∧
    ∀ (l : Addr) (cs : List Nat), H l = none → cs.Perm a.cps.toList → (a.cps.toList.Nodup → cs.Pairwise (· < ·)) → Q (.ref l) (upd H l (.lst (cs.map sgn)))
section
variable {X : Cx}
theorem call_sortedS (hc : X.calm = true) : CallR X (.builtin "sorted") rSortS := by
  intro pins s σ H xs us Q I r h
  obtain ⟨x, rfl, h64, q⟩ := h
  obtain ⟨u, rfl, ru⟩ := r.one
  obtain ⟨t, rfl⟩ := ru
  refine Calls.call_function_entry kind_sorted plain_sorted entry_sorted (args_sorted1 _) ?_
  unfold Builtin.«sorted»
  refine wpAny_bind (m := checkCount "sorted" 1 1 _) (wpAny_pure (wpAny_bind (wpAny_collect_str (show X.A.in1.handled = none from I.ok.hd hc) x t (fun s' acc k1 k2 k3 k4 hit => ?_) (by rw [sizeLine_eq]; omega))))
  obtain ⟨h1, g1, d1, t1, o1⟩ := s'
  dsimp only at k1 k2 k3 k4
  subst k2 k3 k4
  have hp := signs_paired hit
  have hl : x.cps.toList.length = acc.toList.length := Paired.length hp
  have hl' : x.cps.toList.length < 64 := by rw [Array.length_toList]; exact h64
  generalize acc.toList = vs at hp hl
  refine wpAny_bind (wpAny_newList ?_ (by rw [sizeLine_eq]; omega))
  have hoL : (h1.push (seqObj "list" vs.toArray 0)).get? h1.objs.size = some (seqObj "list" vs.toArray 0) := Heap.get?_push_size _ rfl
  refine wpAny_bind (wpAny_holding (wpAny_call_entry slot_list_sort ⟨_, hoL, rfl⟩ entry_list_sort (sort_signs (s := ⟨h1.push (seqObj "list" vs.toArray 0), s.gens, s.drawn, t1, s.os⟩) hoL hp (by omega) fun p hP hU => ⟨_, rfl, wpAny_pure ⟨_, rfl, ?_⟩⟩) (args_list_sort _)))
  have hin : ∀ i ∈ p.toList, i < x.cps.toList.length := fun i hi => List.mem_range.mp (hP.mem_iff.mp hi)
  have pk := signs_pick hp hin
  have I1 : Inv X pins σ H { s with heap := h1, toks := t1 } := I.kept (t' := t1) k1
  obtain ⟨e, he⟩ := sortedHeap_at (out := (p.toList.map fun i => vs.getD i .none).toArray) hoL
  refine ⟨.ref h1.objs.size, _, I1.laid (t' := t1) (o := .lst ((p.toList.map fun i => x.cps.toList.getD i 0).map sgn)) (fun b ob z1 => ?_) (Nat.le_refl _) ?_, rfl, q _ _ (I1.hok.fresh (Nat.le_refl _)) ?_ ?_⟩
  · rw [sortedHeap_old (Nat.ne_of_lt (Heap.lt_size z1)) (by rw [Heap.size_push]; exact Nat.lt_succ_of_lt (Heap.lt_size z1))]
    exact Heap.get?_push_of_some _ z1
  · refine ⟨?_, _, e, signs_vals pk, he⟩
    rw [List.length_map, List.length_map, hP.length_eq, List.length_range, sizeLine_eq]
    omega
  · have := hP.map fun i => x.cps.toList.getD i 0
    rw [getD_rangeN] at this
    exact this
  · intro hn
    have hU := hU hn
    have hps : p.size = x.cps.toList.length := by rw [← Array.length_toList, hP.length_eq, List.length_range]
    rw [List.pairwise_iff_getElem]
    intro i j hi hj hij
    rw [List.length_map, Array.length_toList, hps] at hi hj
    have g : ∀ i (h : i < p.toList.length), p.toList[i] = p.getD i 0 := fun i h => by
      have h' : i < p.size := by simpa using h
      rw [Array.getD_eq_getD_getElem?, getElem?_pos p i h']
      simp
    rw [List.getElem_map, List.getElem_map, g, g]
    have := hU i j hij hj
    unfold ltC at this
    exact of_decide_eq_true this
end
end L2
namespace L2
open PySem PySem.Spec PyProof.Rows PySem.SeqAt
theorem norev_str : typeLookup (.type "str") "__reversed__" = pure none := by rw [typeLookup_type, builtinLookup_eq_fast]; kernel_rfl
theorem get_str : typeLookup (.type "str") "__getitem__" = pure (some (.builtin "str.__getitem__")) := PySem.F.slot_str_getitem.lookup
def rvS (x : Str) (t : Tok) (i : Int) : Obj := { cls := .type "reversed", data := .fields #[.str x t, rawInt i] }
def IsRvS (h : Heap) (a : Addr) (x : Str) (t : Tok) (i : Int) : Prop := ∃ o, h.get? a = some o ∧ o.cls = .type "reversed" ∧ o.data = .fields #[.str x t, rawInt i]
theorem IsRvS.ty {s : Shared} {a : Addr} {x : Str} {t : Tok} {i : Int} (y : IsRvS s.heap a x t i) : s.TypeIs (.ref a) "reversed" := let ⟨o, ho, hc, _⟩ := y; ⟨o, ho, hc⟩
theorem IsRvS.at {h h' : Heap} {a : Addr} {x : Str} {t : Tok} {i : Int} (y : IsRvS h a x t i) (e : ∀ o, h.get? a = some o → h'.get? a = some o) : IsRvS h' a x t i := let ⟨o, ho, r⟩ := y; ⟨o, e _ ho, r⟩
section
variable {prog : Program} {w : World} {A : Around} {E : Value → Shared → Prop} {s : Shared}
theorem meets_revS (x : Str) (t : Tok) (hz : x.length ≤ sizeLine) : MeetsIn prog w (Builtin.«reversed.__new__» ⟨[.type "reversed", .str x t], []⟩)
    (fun A R s => ∀ tk, R (.ok (.ret (.ref s.heap.objs.size))) { s with heap := s.heap.push (rvS x t ((x.length : Int) - 1)), toks := tk }) := .of_wp fun A R s h => by
  have hl := line63
  unfold Builtin.«reversed.__new__»
  refine wpAny_bind (wpAny_of_eq (newClass_reversed _) ?_)
  try dsimp only
  refine wpAny_bind (wpAny_of_eq (a := ()) (by first | rfl | kernel_rfl) ?_)
  refine wpAny_bind (wpAny_of_eq (a := ()) (by first | rfl | kernel_rfl) ?_)
  try dsimp only
  refine wpAny_bind (wpAny_specialOf (typeIs_str _ _ _) norev_str ?_)
  try dsimp only
  refine wpAny_bind ?_
  wp_delta
  refine wpAny_bind (wpAny_isInstance (T := "str") (b := false) (typeIs_str _ _ _) (by rw [isSubtype_type]; kernel_rfl) ?_)
  rw [if_neg Bool.false_ne_true]
  refine wpAny_bind (wpAny_specialOf (typeIs_str _ _ _) get_str ?_)
  dsimp only
  rw [if_pos (by decide +kernel)]
  refine wpAny_pure ?_
  rw [if_neg (by decide)]
  refine wpAny_bind (len_str (by omega) ?_)
  refine wpAny_bind (wpAny_of_eq (a := some (x.length : Int)) rfl ?_)
  dsimp only
  refine wpAny_bind ?_
  wp_delta
  refine wpAny_newObj_type ?_
  refine wpAny_pure ⟨_, rfl, ?_⟩
  exact h _
theorem call_revS {x : Str} {t : Tok} {Q : Value → Shared → Prop} (hz : x.length ≤ sizeLine)
    (h : ∀ tk, Q (.ref s.heap.objs.size) { s with heap := s.heap.push (rvS x t ((x.length : Int) - 1)), toks := tk }) : wpAny (model prog w) A (call (.type "reversed") [.str x t]) Q E s :=
  callType_newIn called_rev (by decide) (PySem.F.typeCall_reversed_1 _) (PySem.F.newCall_reversed_1 _) (fun obj => PySem.F.args_object_init_2 obj _) PySem.F.entry_reversed_new (meets_revS x t hz)
    fun tk => ⟨⟨_, Heap.get?_push_size _ rfl, rfl⟩, h tk⟩
theorem revS_item {it : Addr} {i : Nat} {x : Str} {t : Tok} {c : Nat} {Q : Option Value → Shared → Prop} (hit : IsRvS s.heap it x t (i : Int)) (hx : x.cps[i]? = some c) (hz : x.length ≤ sizeLine)
    (hQ : ∀ h' tk u, IsRvS h' it x t ((i : Int) - 1) → Heap.SameBut it s.heap h' → Q (some (.str ⟨#[c]⟩ u)) { s with heap := h', toks := tk }) : wpAny (model prog w) A (pyNext (.ref it)) Q E s := by
  obtain ⟨o, ho, hc, hd⟩ := id hit
  have hil : i < x.cps.size := (Array.getElem?_eq_some_iff.mp hx).1
  have hil' : i < x.length := hil
  have hl63 := line63
  unfold pyNext
  refine wpAny_bind (wpAny_attempt (wpAny_callSpecial?_slot (name := Str.ofString "__next__") hit.ty slot_rev_next (wpAny_call_entry slot_rev_next hit.ty entry_rev_next ?_ (args_rev_next _))))
  unfold Builtin.«reversed.__next__»
  refine wpAny_bind (wpAny_of_eq (a := (Value.ref it, [])) rfl ?_)
  try dsimp only
  refine wpAny_bind (wpAny_field ho hd (x := .str x t) rfl ?_)
  refine wpAny_bind (wpAny_field ho hd (x := rawInt (i : Int)) rfl ?_)
  show wpAny _ _ (if (i : Int) < 0 then _ else _) _ _ s
  rw [if_neg (by omega)]
  refine wpAny_bind (wpAny_specialOf (typeIs_str _ _ _) get_str ?_)
  try dsimp only
  rw [if_neg (by decide)]
  refine wpAny_bind ?_
  wp_delta
  refine wpAny_bind (wpAny_fresh (wpAny_pure ?_))
  refine wpAny_bind (wpAny_attempt (getItem_str (s := { s with toks := s.toks + 1 }) (c := c) (by
    have e1 : decide ((i : Int) < -(2 ^ 63 : Int)) = false := decide_eq_false (by omega)
    have e2 : decide ((i : Int) ≥ 2 ^ 63) = false := decide_eq_false (by omega)
    rw [e1, e2, Bool.or_false]) (by rw [seqIndex_of (by omega) (by omega)]; simpa using hx) ?_))
  try dsimp only
  refine wpAny_bind (wpAny_field (s := { s with toks := s.toks + 1 + 1 }) ho hd (x := rawInt (i : Int)) rfl ?_)
  show wpAny _ _ (setField (.ref it) 1 (rawInt ((i : Int) - 1)) >>= _) _ _ _
  refine wpAny_bind (wpAny_setField (s := { s with toks := s.toks + 1 + 1 }) ho hd (by simp) ?_)
  refine wpAny_pure ⟨_, rfl, wpAny_pure (hQ _ _ _ ?_ (Heap.SameBut.update ..))⟩
  exact ⟨_, Heap.get?_update_self _ ho (Obj.isFreed_of_fields (Obj.data_mapFields hd _)), (Obj.cls_mapFields ..).trans hc, by
    rw [Obj.data_mapFields hd]; simp⟩
theorem revS_end {it : Addr} {x : Str} {t : Tok} {Q : Option Value → Shared → Prop} (hh : A.handled = none) (hit : IsRvS s.heap it x t (-1))
    (hQ : ∀ h', Heap.ExtBut it s.heap h' → Q none { s with heap := h' }) : wpAny (model prog w) A (pyNext (.ref it)) Q E s := by
  obtain ⟨o, ho, hc, hd⟩ := id hit
  unfold pyNext
  refine wpAny_bind (wpAny_attempt (wpAny_callSpecial?_slot (name := Str.ofString "__next__") hit.ty slot_rev_next (wpAny_call_entry slot_rev_next hit.ty entry_rev_next ?_ (args_rev_next _))))
  unfold Builtin.«reversed.__next__»
  refine wpAny_bind (wpAny_of_eq (a := (Value.ref it, [])) rfl ?_)
  try dsimp only
  refine wpAny_bind (wpAny_field ho hd (x := .str x t) rfl ?_)
  refine wpAny_bind (wpAny_field ho hd (x := rawInt (-1)) rfl ?_)
  show wpAny _ _ (if (-1 : Int) < 0 then _ else _) _ _ s
  rw [if_pos (by decide)]
  refine wpAny_bind (wpAny_rule ?_)
  refine wpAny_bind ?_
  wp_delta
  refine wpAny_bind (wpAny_setField ho hd (by simp) ?_)
  have h1 := Heap.get?_update_self (Obj.mapFields (fun vs => vs.setIfInBounds 1 (rawInt (-1)))) ho (Obj.isFreed_of_fields (Obj.data_mapFields hd _))
  have hd1 := Obj.data_mapFields hd (fun vs => vs.setIfInBounds 1 (rawInt (-1)))
  refine wpAny_setField h1 hd1 (by simp) ?_
  refine wpAny_bind ?_
  wp_delta
  refine wpAny_bind ?_
  simp only [newExc, newTuple]
  refine wpAny_bind (wpAny_newObj_type ?_ (by size_fits))
  refine wpAny_bind (m := firstArgMember _ _) (wpAny_of_eq (a := Value.none) (by first | rfl | (simp only [firstArgMember]; rfl)) ?_)
  refine wpAny_newObj_type ?_ (by size_fits)
  simp only [raiseNew]
  refine wpAny_bind (wpAny_handled ?_)
  first | rw [show A.in1.handled = none from hh] | rw [hh]
  refine wpAny_bind (wpAny_pure (wpAny_throw ?_))
  refine wpAny_bind (wpAny_isInstance (T := "StopIteration") (b := true) ⟨_, Heap.get?_push_size _ rfl, rfl⟩ isSubtype_stop ?_)
  rw [if_pos rfl]
  refine wpAny_pure (hQ _ fun b o' hb e => ?_)
  refine Heap.get?_push_of_some _ (Heap.get?_push_of_some _ ?_)
  rw [Heap.get?_update_ne _ _ _ _ hb, Heap.get?_update_ne _ _ _ _ hb]
  exact e
theorem revS_self {it : Addr} {x : Str} {t : Tok} {i : Int} {Q : Value → Shared → Prop} (hit : IsRvS s.heap it x t i) (h : Q (.ref it) s) : wpAny (model prog w) A (pyIter (.ref it)) Q E s := by
  refine wpAny_pyIter_slot hit.ty slot_rev_iter (wpAny_call_entry slot_rev_iter hit.ty entry_rev_iter ?_ (args_rev_iter _))
  show wpAny _ _ (ret (.ref it)) _ _ s
  exact wpAny_pure ⟨_, rfl, "reversed", _, hit.ty, slot_rev_next.lookup, h⟩
end
def revT (x : Str) : Str := ⟨x.cps.reverse⟩
theorem walks_revS {prog : Program} {w : World} {A : Around} (hh : A.handled = none) (I : Addr) (x : Str) (t : Tok) (hz : x.length ≤ sizeLine) :
    Walks prog w A I [I] [I] (revT x).cps.size (SignAt (revT x)) (fun i h => i ≤ x.cps.size ∧ IsRvS h I x t ((x.cps.size : Int) - 1 - (i : Int))) where
  sub := fun b hb => hb
  frame := fun _ _ _ y hk => ⟨y.1, y.2.at fun o e => hk I (by simp) o e⟩
  item := fun i s Q E hi y hQ => by
    have hi' : i < x.cps.size := by simpa [revT] using hi
    have e : (x.cps.size : Int) - 1 - (i : Int) = ((x.cps.size - 1 - i : Nat) : Int) := by omega
    have hit := y.2
    rw [e] at hit
    have hx : x.cps[x.cps.size - 1 - i]? = some (x.cps[x.cps.size - 1 - i]'(by omega)) := Array.getElem?_eq_getElem (by omega)
    refine revS_item hit hx hz fun h' tk u hit' hs' => ?_
    have e2 : ((x.cps.size - 1 - i : Nat) : Int) - 1 = (x.cps.size : Int) - 1 - ((i + 1 : Nat) : Int) := by omega
    rw [e2] at hit'
    refine hQ _ h' tk ⟨_, _, ?_, rfl⟩ ⟨hi', hit'⟩ fun b o hb eo => hs'.extBut b o (fun h => hb (by simp [h])) eo
    rw [← hx]
    show x.cps.reverse[i]? = _
    rw [Array.getElem?_reverse hi']
  done := fun s Q E y hQ => by
    have hit := y.2
    have e : (x.cps.size : Int) - 1 - ((revT x).cps.size : Int) = -1 := by
      have : (revT x).cps.size = x.cps.size := by simp [revT]
      omega
    rw [e] at hit
    exact revS_end hh hit fun h' he' => hQ h' s.toks fun b o hb eo => he' b o (fun h => hb (by simp [h])) eo
  self := fun _ _ _ _ y hQ => revS_self y.2 hQ
theorem turn_revS {P : Program} {w : World} {K : PySem.W.Frag} {tg : Expr} {x : Str} {t : Tok} (it : Addr) (hz : x.length ≤ sizeLine) :
    Turn P w K tg (Its (revT x)) [it] it (fun i h => i ≤ x.cps.size ∧ IsRvS h it x t ((x.cps.size : Int) - 1 - (i : Int))) where
  mem := by simp
  obj := fun i h st b hb => by
    have e : b = it := by simpa using hb
    subst e
    obtain ⟨_, o, e, c, d⟩ := st
    exact ⟨o, e, fun v z => by rw [d] at z; cases z⟩
  keep := fun i h h' st k => ⟨st.1, st.2.at fun o e => k it (by simp) o e⟩
  item := by
    intro X hP hw hK hc i pins s σ H E I hf st hg
    subst hP hw hK
    obtain ⟨f0, f1, f2, f3, f4, f5⟩ := hf it (by simp)
    refine (walks_revS (I.ok.hd hc) it x t hz).item i s _ _ hg st fun v h' tk hv st' kk => ?_
    obtain ⟨c, u, hcx, rfl⟩ := hv
    have I1 : Inv X pins σ H { s with heap := h', toks := tk } := I.turned (fun b o hb e => kk b o (by simpa using hb) e) f0 f1 f3 f4 f5
    obtain ⟨_, o, e, oc, od⟩ := id st'
    exact ⟨_, rfl, go_of (s := { s with heap := h', toks := tk }) e oc od (by decide) ⟨.str ⟨#[c]⟩, H, I1, ⟨_, rfl⟩, ⟨rfl, c, hcx, rfl⟩, st', fun b hb => (hf b hb).1⟩⟩
  done := by
    intro X hP hw hK hc i pins s σ H E I hf st hg
    subst hP hw hK
    obtain ⟨f0, f1, f2, f3, f4, f5⟩ := hf it (by simp)
    have hg' : i = (revT x).cps.size := hg
    subst hg'
    exact (walks_revS (I.ok.hd hc) it x t hz).done s _ _ st fun h' tk kk => ⟨rfl, I.turned (fun b o hb e => kk b o (by simpa using hb) e) f0 f1 f3 f4 f5⟩
  self := fun A i s Q E st h => revS_self st.2 h
section
variable {X : Cx} {tg a : Expr} {ta : TE} {p2 c2 : Pos}
def iRevS (te : TE) : TI := fun σ H R => te σ H fun v H1 => ∃ x, v = .str x ∧ x.length ≤ sizeLine ∧ R (Its (revT x)) H1
theorem pi_revS (hgR : Gl X "reversed") (hmR : X.mg "reversed" = none) (ha : PE X a ta) (hs2 : starEach [a] X.env = [(false, eval a X.env)] := by rfl) : PI X tg (.Call (.Name "reversed" p2) [a] [] c2) (iRevS ta) := by
  intro pins s σ H R I h
  refine wpAny_Call_Name_kw (ld_blt I hgR hmR boot_reversed (PyProof.Rows.callWith_type1 ?_ hs2 rfl))
  rw [hs2]
  show wpAny _ _ (spliced ((false, eval a X.env) :: backTo c2 [])) _ _ s
  refine Calls.spliced_cons (thn (ha pins s σ H _ I h) fun u s1 ⟨y, H1, I1, r1, x, ex, hz, q⟩ => ?_)
  subst ex
  obtain ⟨t, rfl⟩ := r1
  refine Calls.spliced_nil ?_
  refine call_revS hz fun tk => ?_
  have hit : IsRvS (s1.heap.push (rvS x t ((x.length : Int) - 1))) s1.heap.objs.size x t ((x.cps.size : Int) - 1) := ⟨_, Heap.get?_push_size _ rfl, rfl, rfl⟩
  refine revS_self (s := { s1 with heap := s1.heap.push (rvS x t ((x.length : Int) - 1)), toks := tk }) hit ⟨s1.heap.objs.size, [s1.heap.objs.size], _, _, H1, rfl, I1.kept (t' := tk) fun b o e => Heap.get?_push_of_some _ e, turn_revS (x := x) (t := t) _ hz, ⟨Nat.zero_le _, by simpa using hit⟩, fun b hb => ?_, q⟩
  have e : b = s1.heap.objs.size := by simpa using hb
  subst e
  exact I1.fpOk (Nat.le_refl _) (I1.hok.fresh (Nat.le_refl _))
end
def dSB : Den (Str ⊕ Bool) := fun _ z v => match z with
  | .inl x => v = .str x
  | .inr b => v = .bl b
theorem eq_sb_ok {X : Cx} : EqOk X dSB 0 := by
  intro A pins s σ H a b x y u v _ I ha hb ru rv
  cases a with
  | inl a =>
    have ha' : x = .str a := ha
    subst ha'
    obtain ⟨t, rfl⟩ := ru
    cases b with
    | inl b =>
      have hb' : y = .str b := hb
      subst hb'
      obtain ⟨t', rfl⟩ := rv
      have h := PySem.SeqAt.EqAt.str_str (A := A) (s := s) a t b t'
      rw [show decide ((Sum.inl a : Str ⊕ Bool) = .inl b) = (a == b) by rw [Bool.eq_iff_iff]; simp]
      exact h
    | inr b =>
      have hb' : y = .bl b := hb
      subst hb'
      cases rv
      rw [show decide ((Sum.inl a : Str ⊕ Bool) = .inr b) = false by simp]
      exact PySem.SeqAt.EqAt.str_bool (A := A) (s := s) a t b
  | inr a =>
    have ha' : x = .bl a := ha
    subst ha'
    cases ru
    cases b with
    | inl b =>
      have hb' : y = .str b := hb
      subst hb'
      obtain ⟨t', rfl⟩ := rv
      rw [show decide ((Sum.inr a : Str ⊕ Bool) = .inl b) = false by simp]
      exact PySem.SeqAt.EqAt.bool_str (A := A) (s := s) a b t'
    | inr b =>
      have hb' : y = .bl b := hb
      subst hb'
      cases rv
      have h := PySem.SeqAt.EqAt.bool_bool (A := A) (s := s) a b
      rw [show decide ((Sum.inr a : Str ⊕ Bool) = .inr b) = (a == b) by rw [Bool.eq_iff_iff]; simp]
      exact h
theorem call_isiS {X : Cx} : CallR X (.builtin "isinstance") (fun xs H Q => ∃ a : Str, xs = [.str a, .ty "str"] ∧ Q (.bl true) H) := by
  intro pins s σ H xs us Q I r h
  obtain ⟨a, rfl, q⟩ := h
  obtain ⟨u, v, rfl, ru, rv⟩ := r.two
  cases rv
  obtain ⟨t, rfl⟩ := ru
  exact PySem.IsiPair.str_str ⟨.bl true, H, I, rfl, q⟩
end L2
namespace Bm
open PySem L2
def top (i : Nat) : Stmt := PySem.Challenge.pw_beatmakers_k07_voters_written.main.body.getD i (.Pass ⟨0, 0, 0, 0⟩)
abbrev sCheckCount : Stmt := top 9
abbrev sCheckVoters : Stmt := top 10
abbrev sShown : Stmt := top 14
abbrev sFiguresOf : Stmt := top 15
abbrev sRead : Stmt := top 16
abbrev sNumOf : Stmt := top 17
abbrev sVoterOf : Stmt := top 18
abbrev sCellAt : Stmt := top 20
abbrev sWhole : Stmt := top 21
abbrev sOrder : Stmt := top 22
abbrev sVoters : Stmt := top 23
abbrev sSpoiled : Stmt := top 24
abbrev sOdd : Stmt := top 25
abbrev sDue : Stmt := top 26
abbrev sTold : Stmt := top 27
abbrev sRight : Stmt := top 28
abbrev sLaw : Stmt := top 29
end Bm
namespace L2
theorem tYes_mk {σ : St} {H : Hp} {A B : Hp → Prop} (h : A H) : tYes σ H fun b H3 => if b = true then A H3 else B H3 := by
  show if true = true then A H else B H
  rw [if_pos rfl]; exact h
end L2
namespace L2
open PySem
theorem hu2_of {A : Around} {k : Nat} (hr : Room k A) : A.units + 2 < cLine := Nat.lt_of_le_of_lt (Nat.add_le_add_left (by decide : 2 ≤ 64) _) hr.units
end L2
namespace Bm
open PySem L2
structure Blt (mg : Str → Option Value) : Prop where
  range : mg "range" = none
  len : mg "len" = none
  list : mg "list" = none
  sorted : mg "sorted" = none
  tuple : mg "tuple" = none
  isi : mg "isinstance" = none
  int : mg "int" = none
  bool : mg "bool" = none
  all : mg "all" = none
  set : mg "set" = none
  reversed : mg "reversed" = none
  str : mg "str" = none
structure Glob (mg : Str → Option Value) : Prop where
  most : ∃ t, mg "MOST_THINGS" = some (.int 6 t)
def rangeK (k : Nat) : List Int := (List.range k).map fun i => (0 : Int) + (i : Nat)
def rangeI (n : Int) : List Int := rangeK n.toNat
def spCount : Sp := fun vs H Q _ => ∃ n : Int, vs = [.int n] ∧ 1 ≤ n ∧ n ≤ 6 ∧ Q .non H
def VAt (K : PySem.W.Frag) (H : Hp) (a : Addr) (L : List (List Int)) : Prop := ∃ xs, SqL K H a xs ∧ Paired (dT H) L xs
def Ords (n : Int) (L : List (List Int)) : Prop := ∀ o ∈ L, o.Perm (rangeI n)
theorem rangeK_mem {k : Nat} {i : Int} : i ∈ rangeK k ↔ 0 ≤ i ∧ i < k := by
  unfold rangeK
  rw [List.mem_map]
  constructor
  · rintro ⟨j, hj, rfl⟩
    have := List.mem_range.mp hj
    omega
  · intro h
    exact ⟨i.toNat, List.mem_range.mpr (by omega), by omega⟩
theorem rangeK_len (k : Nat) : (rangeK k).length = k := by unfold rangeK; rw [List.length_map, List.length_range]
theorem rangeK_succ (k : Nat) : rangeK (k + 1) = rangeK k ++ [(0 : Int) + (k : Nat)] := by unfold rangeK; rw [List.range_succ, List.map_append]; rfl
theorem rangeK_sorted (k : Nat) : (rangeK k).Pairwise (· ≤ ·) := by
  induction k with
  | zero => exact .nil
  | succ k ih =>
    rw [rangeK_succ, List.pairwise_append]
    refine ⟨ih, List.pairwise_singleton _ _, fun a ha b hb => ?_⟩
    have h1 := rangeK_mem.mp ha
    have h2 : b = (0 : Int) + (k : Nat) := by simpa using hb
    omega
theorem things_eq (n : Int) : ((List.range (n - 0).toNat).map fun i => V.int ((0 : Int) + (i : Nat))) = (rangeI n).map V.int := by
  unfold rangeI rangeK
  rw [List.map_map, Int.sub_zero]
  rfl
def spVoters (K : PySem.W.Frag) : Sp := fun vs H Q _ => ∃ (n : Int) (a : Addr) (L : List (List Int)), vs = [.int n, .ref a] ∧ 1 ≤ n ∧ n ≤ 6 ∧ VAt K H a L ∧ Ords n L ∧ ∀ H', Same H H' → Q .non H'
theorem erase_map {α β : Type} (f : α → β) : ∀ (l : List α) (i : Nat), (l.map f).eraseIdx i = (l.eraseIdx i).map f
  | [], _ => rfl
  | _ :: _, 0 => rfl
  | a :: l, i + 1 => by rw [List.map_cons, List.eraseIdx_cons_succ, List.eraseIdx_cons_succ, List.map_cons, erase_map f l i]
theorem erase_perm {α : Type} : ∀ {l : List α} {i : Nat} (h : i < l.length), (l[i] :: l.eraseIdx i).Perm l
  | [], _, h => by simp at h
  | _ :: _, 0, _ => .refl _
  | a :: l, i + 1, h => by
    have h' : i < l.length := by simpa using h
    show (l[i] :: a :: l.eraseIdx i).Perm (a :: l)
    exact (List.Perm.swap a l[i] _).trans ((erase_perm h').cons a)
def spCell (K : PySem.W.Frag) : Sp := fun vs H Q _ => ∃ (a : Addr) (ns : List Int) (k : Int), vs = [.ref a, .int k] ∧ SqL K H a (ns.map V.int) ∧ 0 ≤ k ∧ Q (.int (ns.getD k.toNat 0)) H
def spWhole : Sp := fun vs H Q _ => ∃ i : Int, vs = [.int i] ∧ Q (.bl true) H
def spOrder : Sp := fun vs H Q _ => ∃ c n : Int, vs = [.int c, .int n] ∧ 1 ≤ n ∧ n ≤ 6 ∧ ∀ H' p (o : List Int), Same H H' → H p = none → H' p = some (.tup (o.map V.int)) → o.Perm (rangeI n) → Q (.ref p) H'
def spLawVoters (K : PySem.W.Frag) : Sp := fun vs H Q _ => ∃ (a : Addr) (ns : List Int) (start n most : Int), vs = [.ref a, .int start, .int n, .int most] ∧ SqL K H a (ns.map V.int) ∧ 0 ≤ start ∧ 1 ≤ n ∧ n ≤ 6 ∧ 0 ≤ most ∧ most ≤ 60 ∧
  ∀ H' p xs L, Same H H' → H p = none → H' p = some (.lst xs) → Paired (dT H') L xs → Ords n L → L.length ≤ 100 → Q (.ref p) H'
theorem ords_take {n : Int} {L : List (List Int)} (h : Ords n L) (k : Nat) : Ords n (L.take k) := fun o ho => h o (List.mem_of_mem_take ho)
theorem ords_append {n : Int} {L M : List (List Int)} (h : Ords n L) (h' : Ords n M) : Ords n (L ++ M) := fun o ho => (List.mem_append.mp ho).elim (h o) (h' o)
theorem ords_rep {n : Int} {L : List (List Int)} (h : Ords n L) (k : Nat) : Ords n (List.replicate k L).flatten := fun o ho => by
  obtain ⟨M, hM, hm⟩ := List.mem_flatten.mp ho
  rw [(List.mem_replicate.mp hM).2] at hm
  exact h o hm
theorem cut_take (xs : List V) {e : Int} (h : 0 ≤ e) : cutV xs none (some e) = xs.take e.toNat := by
  unfold cutV
  have h1 : HT.sIx xs.length 0 none = 0 := rfl
  have h2 : HT.sIx xs.length xs.length (some e) = min e.toNat xs.length := by
    show (if e < 0 then _ else min e.toNat xs.length) = _
    rw [if_neg (by omega)]
  rw [h1, h2, List.drop_zero, Nat.sub_zero]
  by_cases hl : e.toNat ≤ xs.length
  · rw [Nat.min_eq_left hl]
  · rw [Nat.min_eq_right (by omega), List.take_length, List.take_of_length_le (by omega)]
end Bm
namespace Bm
structure Good (n : Int) (W : List (Int × Int)) : Prop where
  rng : ∀ b ∈ W, (0 ≤ b.1 ∧ b.1 < n) ∧ (0 ≤ b.2 ∧ b.2 < n)
  irr : ∀ b ∈ W, b.1 ≠ b.2
  nodup : W.Nodup
  asym : ∀ b ∈ W, (b.2, b.1) ∉ W
  len : W.length ≤ 40
inductive Walk (W : List (Int × Int)) : Nat → Int → Int → Prop
  | nil (a : Int) : Walk W 0 a a
  | snoc {m : Nat} {a b c : Int} : Walk W m a b → (b, c) ∈ W → Walk W (m + 1) a c
structure Pre (n : Int) (W : List (Int × Int)) (r : List Int) : Prop where
  nodup : r.Nodup
  sub : ∀ x ∈ r, x ∈ rangeI n
  ok : ∀ b ∈ W, b.2 ∈ r → b.1 ∈ r ∧ r.idxOf b.1 < r.idxOf b.2
structure Stuck (n : Int) (W : List (Int × Int)) (S : List Int) : Prop where
  ne : S ≠ []
  nodup : S.Nodup
  sub : ∀ x ∈ S, x ∈ rangeI n
  pred : ∀ t ∈ S, ∃ u ∈ S, (u, t) ∈ W
structure RingOk (W : List (Int × Int)) (r : List Int) : Prop where
  ne : r ≠ []
  nodup : r.Nodup
  step : ∀ k a b, r[k]? = some a → r[k + 1]? = some b → (a, b) ∈ W
  close : ∀ a b, r[r.length - 1]? = some a → r[0]? = some b → (a, b) ∈ W
structure Row (W : List (Int × Int)) (s : Int) (k : Nat) (R row : List Int) : Prop where
  len : row.length = k + 1
  head : row[0]? = some s
  step : ∀ k a b, row[k]? = some a → row[k + 1]? = some b → (a, b) ∈ W
  nodup : row.Nodup
  sub : ∀ x ∈ row, x ∈ R
  walk : ∀ l, row[k]? = some l → Walk W k s l
structure Lev (n : Int) (W : List (Int × Int)) (s : Int) (k : Nat) (R : List Int) (rows : List (List Int)) : Prop where
  row : ∀ row ∈ rows, Row W s k R row
  rng : ∀ x ∈ R, x ∈ rangeI n
  nodup : R.Nodup
  st : s ∈ R
  all : ∀ m u, m ≤ k → Walk W m s u → u ∈ R
  noc : ∀ m, m < k → ¬ Walk W (m + 1) s s
  loc : ∀ u v, (u, v) ∈ W → u ∈ R → (∃ row ∈ rows, row[k]? = some u) ∨ (v ≠ s ∧ v ∈ R)
  cnt : rows.length ≤ R.length
structure Mid (n : Int) (W : List (Int × Int)) (s : Int) (k : Nat) (R0 R : List Int) (longer : List (List Int)) : Prop where
  row : ∀ row ∈ longer, Row W s (k + 1) R row
  rng : ∀ x ∈ R, x ∈ rangeI n
  nodup : R.Nodup
  sub0 : ∀ x ∈ R0, x ∈ R
  new : ∀ x ∈ R, x ∈ R0 ∨ ∃ row ∈ longer, row[k + 1]? = some x
  cnt : longer.length ≤ R.length
structure Found (W : List (Int × Int)) (s : Int) (r : List Int) : Prop where
  ring : RingOk W r
  walk : Walk W r.length s s
  least : ∀ m, Walk W (m + 1) s s → r.length ≤ m + 1
end Bm
namespace Bm
open PySem L2
structure Least (n : Int) (W : List (Int × Int)) (r : List Int) : Prop where
  ring : RingOk W r
  walk : ∃ s, s ∈ rangeI n ∧ Walk W r.length s s
  least : ∀ s ∈ rangeI n, ∀ m, Walk W (m + 1) s s → r.length ≤ m + 1
theorem map_get {ns : List Int} {i : Nat} {x : V} (h : (ns.map V.int)[i]? = some x) : ∃ t, ns[i]? = some t ∧ x = .int t := by
  rw [List.getElem?_map] at h
  cases e : ns[i]? with
  | none => rw [e] at h; cases h
  | some t => rw [e] at h; cases h; exact ⟨t, rfl, rfl⟩
theorem take_succ_mem {α : Type} {l : List α} {i : Nat} {v x : α} (h : l[i]? = some v) (hx : x ∈ l.take (i + 1)) : x ∈ l.take i ∨ x = v := by
  rw [List.take_add_one, h] at hx
  rcases List.mem_append.mp hx with z | z
  · exact .inl z
  · exact .inr (by simpa using z)
end Bm
namespace Bm
end Bm
namespace Bm
end Bm
namespace Bm
end Bm
namespace Bm
end Bm
namespace Bm
end Bm
namespace Bm
open PySem L2
open PySem.Spec PyProof.Rows
section
variable {X : Cx}
end
end Bm
namespace Bm
open PySem L2
end Bm
namespace Bm
open PySem L2
structure Errs (K : PySem.W.Frag) (mg : Str → Option Value) where
  count : Addr
  voter : Addr
  web : Addr
  many : Addr
  note : Addr
  base : Addr
  mcount : mg "BadCount" = some (.ref count)
  mvoter : mg "BadVoter" = some (.ref voter)
  mweb : mg "BadWeb" = some (.ref web)
  mmany : mg "TooMany" = some (.ref many)
  mnote : mg "BadNote" = some (.ref note)
  mbase : mg "BeatError" = some (.ref base)
  kcount : isExcB K count = true
  kvoter : isExcB K voter = true
  kweb : isExcB K web = true
  kmany : isExcB K many = true
  knote : isExcB K note = true
section
variable {K : PySem.W.Frag} {mg : Str → Option Value}
def Errs.cl (er : Errs K mg) : Nat → Addr
  | 0 => er.count
  | 1 => er.voter
  | 2 => er.web
  | 3 => er.many
  | _ => er.note
structure Kin (er : Errs K mg) : Prop where
  caught : ∀ i < 5, PySem.W.exmOne K (.ref (er.cl i)) (.ref er.base) = some true
  at_ : ∀ i < 5, ExcK K (er.cl i)
  is : ∀ i < 5, ∀ j < 5, PySem.W.kitOne K (.ref (er.cl i)) (.ref (er.cl j)) = some (decide (i = j))
  isV : ∀ i < 5, PySem.W.kitOne K (.ref (er.cl i)) (.type "ValueError") = some true
end
section
variable {K : PySem.W.Frag} {mg : Str → Option Value}
end
end Bm
namespace Bm
open PySem L2
section
variable {P : Program} {w : World} {K : PySem.W.Frag} {mg : Str → Option Value} {base : Heap}
theorem scCell : FnScope ["script", "k"] ["script", "k"] (defScope sCellAt) := ⟨rfl, rfl, rfl, by decide +kernel, rfl, by decide +kernel, by decide +kernel⟩
theorem ok_cell (d : Def K mg "_law_cell_at" sCellAt ["script", "k"]) (B : Blt mg) : FnOk P w K mg base CX0 1 d.f d.fd ["script", "k"] (spCell K) := by
  refine d.F.ok scCell (fun vs H Q E h => ?_) (fun cdv A outer s H vs Q E hr h => ?_)
  · obtain ⟨a, ns, k, rfl, _⟩ := h
    rfl
  · obtain ⟨a, ns, k, rfl, hS, hk, q⟩ := h
    refine ⟨_, pss_cons (ps_if (pt_cmpR op_lt (pv 1) (pe_callB call_len_seq (by rfl) B.len PySem.boot_len (pa_cons (pv 0) pa_nil)) (nomark _)) (pss_one (ps_ret (pe_ix ix_list (pv 0) (pv 1) (fun _ _ => rfl)))) pss_nil)
      (pss_one (ps_ret pe_int)), ?_⟩
    refine ⟨_, rfl, _, rfl, a, _, rfl, .inl hS, _, _, rfl, rfl, _, rfl, ?_⟩
    refine ite2 (fun hb => ?_) (fun hb => ?_)
    · have hb' : k < ((ns.map V.int).length : Int) := of_decide_eq_true hb
      rw [List.length_map] at hb'
      have hlt : k.toNat < ns.length := by omega
      refine ⟨_, rfl, _, rfl, a, _, k, .int (ns.getD k.toNat 0), rfl, rfl, hS, ?_, q⟩
      have e : (ns.map V.int)[k.toNat]? = some (.int (ns.getD k.toNat 0)) := by
        rw [List.getElem?_map, List.getElem?_eq_getElem hlt, List.getD_eq_getElem?_getD, List.getElem?_eq_getElem hlt]
        rfl
      have z := atI_nat e
      rw [show ((k.toNat : Nat) : Int) = k by omega] at z
      exact z
    · have hb' : ¬ k < ((ns.map V.int).length : Int) := fun z => hb (decide_eq_true z)
      rw [List.length_map] at hb'
      have e : ns.getD k.toNat 0 = 0 := by rw [List.getD_eq_getElem?_getD, List.getElem?_eq_none (by omega)]; rfl
      rw [e] at q
      exact q
end
end Bm
namespace Bm
open PySem L2
section
variable {P : Program} {w : World} {K : PySem.W.Frag} {mg : Str → Option Value} {base : Heap}
theorem scCount : FnScope ["many"] ["many"] (defScope sCheckCount) := ⟨rfl, rfl, rfl, by decide +kernel, rfl, by decide +kernel, by decide +kernel⟩
theorem ok_count (d : Def K mg "check_count" sCheckCount ["many"]) (Gl : Glob mg) : FnOk P w K mg base CX0 1 d.f d.fd ["many"] spCount := by
  refine d.F.ok scCount (fun vs H Q E h => ?_) (fun cdv A outer s H vs Q E hr h => ?_)
  · obtain ⟨n, rfl, _⟩ := h
    rfl
  · obtain ⟨n, rfl, h1, h6, k⟩ := h
    obtain ⟨t, hm⟩ := Gl.most
    refine ⟨_, pss_one (ps_if (pw_or (pt_cmpR op_lt (pv 0) pe_int (nomark _)) (pw_or1 (pt_cmpR op_gt (pv 0) (pe_glob (v := .int 6) (by rfl) hm ⟨t, rfl⟩) (nomark _)))).pt pss_never pss_nil), ?_⟩
    refine ⟨_, rfl, _, _, rfl, rfl, _, rfl, ?_⟩
    rw [decide_eq_false (by omega)]
    refine iteF ?_
    refine ⟨_, rfl, _, _, rfl, rfl, _, rfl, ?_⟩
    rw [decide_eq_false (by omega)]
    exact iteF k
end
end Bm
namespace Bm
open PySem L2
section
variable {P : Program} {w : World} {K : PySem.W.Frag} {mg : Str → Option Value} {base : Heap}
theorem scOrder : FnScope ["cell", "many", "left", "order", "k"] ["cell", "many"] (defScope sOrder) := ⟨rfl, rfl, rfl, by decide +kernel, rfl, by decide +kernel, by decide +kernel⟩
theorem ok_order (d : Def K mg "_law_order" sOrder ["cell", "many"]) (B : Blt mg) : FnOk P w K mg base CX0 1 d.f d.fd ["cell", "many"] spOrder := by
  refine d.F.ok scOrder (fun vs H Q E h => ?_) (fun cdv A outer s H vs Q E hr h => ?_)
  · obtain ⟨c, n, rfl, _⟩ := h
    rfl
  · obtain ⟨c, n, rfl, h1, h6, k⟩ := h
    refine ⟨_, pss_cons (ps_set (i := 2) scOrder.nd rfl (Or.inl rfl) (pe_callTy (call_list_rng rfl) (by rfl) B.list PyProof.Rows.boot_list (pa_cons (pe_callTy call_range (by rfl) B.range PyProof.Rows.boot_range (pa_cons (pv 1) pa_nil)) pa_nil)))
      (pss_cons (ps_set (i := 3) scOrder.nd rfl (Or.inl rfl) (pe_lst pa_nil))
      (pss_cons (ps_for PassesOwn.never rfl (pi_range1 (by rfl) B.range (pa_cons (pv 1) pa_nil)) (pg_name (i := 4) scOrder.nd rfl (Or.inl rfl))
        (pss_cons (ps_expr (pe_bm PySem.F.plainAttrs_list PySem.F.slot_list_append PySem.F.type_list_append mt_append (pv 3) (pa_cons
            (pe_bm PySem.F.plainAttrs_list PySem.F.slot_list_pop PySem.F.type_list_pop mt_popAt (pv 2) (pa_cons (pe_op op_mod (pv 0) (pe_callB call_len_seq (by rfl) B.len PySem.boot_len (pa_cons (pv 2) pa_nil))) pa_nil)) pa_nil)))
        (pss_one (ps_set (i := 0) scOrder.nd rfl (Or.inl rfl) (pe_op op_fdiv (pv 0) (pe_op op_add (pe_callB call_len_seq (by rfl) B.len PySem.boot_len (pa_cons (pv 2) pa_nil)) pe_int))))))
      (pss_one (ps_ret (pe_callTy call_tuple_of (by rfl) B.tuple PyProof.Rows.boot_tuple (pa_cons (pv 3) pa_nil)))))), ?_⟩
    refine ⟨_, rfl, n, rfl, fun p hp => ⟨p, 0, n, rfl, upd_same, ⟨by omega, by omega, by omega, by omega⟩, by omega, fun lf hlf => ?_⟩⟩
    rw [things_eq]
    have s1 : Same H (upd (upd H p (.rng 0 n)) lf (.lst ((rangeI n).map V.int))) := (same_upd hp).trans (same_upd hlf)
    have flf : H lf = none := (same_upd hp).free hlf
    refine ⟨Nat.zero_le _, fun od hod => ?_⟩
    have fod : H od = none := s1.free hod
    have hne : lf ≠ od := ne_of_none upd_same hod
    refine ⟨_, rfl, n, rfl, by omega, by omega, for_range (n := n.toNat) (fun i σ H' => ∃ (c : Int) (v : Option V) (o l : List Int), σ = [some (.int c), some (.int n), some (.ref lf), some (.ref od), v] ∧ Same H H' ∧
        H' lf = some (.lst (l.map V.int)) ∧ H' od = some (.lst (o.map V.int)) ∧ (o ++ l).Perm (rangeI n) ∧ l.length + i = n.toNat ∧ o.length = i)
      ⟨c, none, [], rangeI n, rfl, s1.trans (same_upd hod), by rw [upd_ne hne]; exact upd_same, upd_same, .refl _, by rw [show (rangeI n).length = n.toNat from rangeK_len _]; omega, rfl⟩ ?_ ?_⟩
    · rintro i σ H' hi ⟨c, v, o, l, rfl, s2, hl, ho, hperm, hlen, hol⟩
      have hl0 : 0 < l.length := by omega
      have hm0 : ((l.map V.int).length : Int) = (l.length : Int) := by rw [List.length_map]
      have j0 : 0 ≤ c % (l.length : Int) := Int.emod_nonneg _ (by omega)
      have j1 : c % (l.length : Int) < (l.length : Int) := Int.emod_lt_of_pos _ (by omega)
      have hj : (c % (l.length : Int)).toNat < l.length := by omega
      refine ⟨_, rfl, .inl ⟨rfl, _, SqL.of ho⟩, _, rfl, .inl ⟨rfl, _, SqL.of hl⟩, _, rfl, _, rfl, lf, _, rfl, .inl (SqL.of hl), _, _, rfl, rfl, by rw [hm0]; omega, ?_⟩
      rw [hm0]
      refine ⟨lf, l.map V.int, c % (l.length : Int), (c % (l.length : Int)).toNat, .int (l[(c % (l.length : Int)).toNat]), rfl, rfl, hl, by omega, by omega, by rw [List.length_map]; exact seqIndex_of j0 j1, by rw [List.getElem?_map, List.getElem?_eq_getElem hj]; rfl, ?_⟩
      have ho2 : (upd H' lf (.lst ((l.map V.int).eraseIdx (c % (l.length : Int)).toNat))) od = some (.lst (o.map V.int)) := by rw [upd_ne hne.symm]; exact ho
      refine ⟨od, o.map V.int, _, rfl, rfl, ho2, by rw [List.length_map]; exact small1000 (by omega), ?_⟩
      have hl2 : (upd (upd H' lf (.lst ((l.map V.int).eraseIdx (c % (l.length : Int)).toNat))) od (.lst (o.map V.int ++ [V.int (l[(c % (l.length : Int)).toNat])]))) lf = some (.lst ((l.eraseIdx (c % (l.length : Int)).toNat).map V.int)) := by
        rw [upd_ne hne, upd_same, erase_map]
      refine ⟨_, rfl, _, rfl, lf, _, rfl, .inl (SqL.of hl2), _, _, rfl, rfl, _, _, rfl, rfl, ⟨by omega, by rw [List.length_map]; have := len_erase l (c % (l.length : Int)).toNat; omega⟩, ?_⟩
      refine ⟨_, _, o ++ [l[(c % (l.length : Int)).toNat]], l.eraseIdx (c % (l.length : Int)).toNat, rfl, same_upd' (same_upd' s2 flf) fod, hl2, by rw [upd_same, List.map_append]; rfl, ?_, by rw [List.length_eraseIdx_of_lt hj]; omega, by rw [List.length_append, List.length_singleton]; omega⟩
      rw [List.append_assoc]
      exact ((erase_perm hj).append_left o).trans hperm
    · rintro σ H' ⟨c, v, o, l, rfl, s2, hl, ho, hperm, hlen, hol⟩
      have hnil : l = [] := List.eq_nil_of_length_eq_zero (by omega)
      subst hnil
      rw [List.append_nil] at hperm
      refine ⟨_, rfl, od, o.map V.int, rfl, .inl ⟨SqL.of ho, fun t ht => ?_⟩⟩
      exact k _ t o (same_upd' s2 (s2.free ht)) (s2.free ht) upd_same hperm
end
end Bm
namespace Bm
open PySem L2
section
variable {P : Program} {w : World} {K : PySem.W.Frag} {mg : Str → Option Value} {base : Heap}
theorem scVoters : FnScope ["many", "voters", "things", "voter"] ["many", "voters"] (defScope sCheckVoters) := ⟨rfl, rfl, rfl, by decide +kernel, rfl, by decide +kernel, by decide +kernel⟩
theorem ok_checkVoters (d : Def K mg "check_voters" sCheckVoters ["many", "voters"]) (B : Blt mg) (dC : Def K mg "check_count" sCheckCount ["many"]) (GC : FnOk P w K mg base CX0 1 dC.f dC.fd ["many"] spCount) :
    FnOk P w K mg base CX0 2 d.f d.fd ["many", "voters"] (spVoters K) := by
  refine d.F.ok scVoters (fun vs H Q E h => ?_) (fun cdv A outer s H vs Q E hr h => ?_)
  · obtain ⟨n, a, L, rfl, _⟩ := h
    rfl
  · obtain ⟨n, a, L, rfl, h1, h6, ⟨xs, hx, px⟩, hO, k⟩ := h
    refine ⟨_, pss_cons (ps_expr (pe_call GC hr (by rfl) dC.mgf dC.F.kp dC.b .nil pass0 (pa_cons (pv 0) pa_nil)))
      (pss_cons (ps_set (i := 2) scVoters.nd rfl (Or.inl rfl) (pe_callTy (call_list_rng rfl) (by rfl) B.list PyProof.Rows.boot_list (pa_cons (pe_callTy call_range (by rfl) B.range PyProof.Rows.boot_range (pa_cons (pv 0) pa_nil)) pa_nil)))
      (pss_one (ps_for PassesOwn.never rfl (pi_list (pv 1)) (pg_name (i := 3) scVoters.nd rfl (Or.inl rfl))
        (pss_one (ps_if (pt_cmpR (op_neL eq_int_ok (hu_of hr)) (pe_callB call_sorted (by rfl) B.sorted PyProof.Rows.boot_sorted (pa_cons (pv 3) pa_nil)) (pv 2) (nomark _)) pss_never pss_nil))))), ?_⟩
    refine ⟨_, rfl, n, rfl, h1, h6, ?_⟩
    refine ⟨_, rfl, n, rfl, fun p hp => ⟨p, 0, n, rfl, upd_same, ⟨by omega, by omega, by omega, by omega⟩, by omega, fun l hl => ?_⟩⟩
    rw [things_eq]
    have s1 : Same H (upd (upd H p (.rng 0 n)) l (.lst ((rangeI n).map V.int))) := (same_upd hp).trans (same_upd hl)
    refine ⟨_, rfl, a, rfl, ⟨_, s1.seq hx⟩, for_list (K := K) (a := a) (xs := xs) (fun i σ H' => ∃ v, σ = [some (.int n), some (.ref a), some (.ref l), v] ∧ Same (upd (upd H p (.rng 0 n)) l (.lst ((rangeI n).map V.int))) H')
      ⟨none, rfl, Same.refl _⟩ (fun i σ H' _ ⟨_, _, s2⟩ => (s1.trans s2).seq hx) ?_ ?_⟩
    · rintro i x σ H' hi ⟨v, rfl, s2⟩
      obtain ⟨o, ho, q, rfl, hq⟩ := paired_get px hi
      have hperm := hO o (List.mem_of_getElem? ho)
      have hlen : o.length = n.toNat := by rw [hperm.length_eq]; exact rangeK_len _
      refine ⟨_, rfl, q, o, rfl, .inr (SqT.of (s2 _ _ (s1 _ _ hq))), by omega, fun l' ns' hl' hp' hs' => ⟨_, rfl, ?_⟩⟩
      have s3 := s2.trans (same_upd (o := .lst (ns'.map V.int)) hl')
      refine ⟨l', l, _, _, ns', rangeI n, rfl, rfl, SqL.of upd_same, SqL.of (s3 _ _ upd_same), paired_ints _, paired_ints _, _, rfl, ?_⟩
      refine iteNS (PySem.W.ksm_same (hp'.trans hperm) hs' (rangeK_sorted _)) ?_
      exact ⟨_, rfl, s3⟩
    · rintro σ H' ⟨v, rfl, s2⟩
      exact k H' (s1.trans s2)
end
end Bm
namespace Bm
open PySem L2
section
variable {P : Program} {w : World} {K : PySem.W.Frag} {mg : Str → Option Value} {base : Heap}
theorem scLawVoters : FnScope ["script", "start", "many", "most", "count", "voters", "more"] ["script", "start", "many", "most"] (defScope sVoters) := ⟨rfl, rfl, rfl, by decide +kernel, rfl, by decide +kernel, by decide +kernel⟩
theorem ok_lawVoters (d : Def K mg "_law_voters" sVoters ["script", "start", "many", "most"]) (B : Blt mg) (dC : Def K mg "_law_cell_at" sCellAt ["script", "k"]) (GC : FnOk P w K mg base CX0 1 dC.f dC.fd ["script", "k"] (spCell K))
    (dO : Def K mg "_law_order" sOrder ["cell", "many"]) (GO : FnOk P w K mg base CX0 1 dO.f dO.fd ["cell", "many"] spOrder) : FnOk P w K mg base CX0 2 d.f d.fd ["script", "start", "many", "most"] (spLawVoters K) := by
  refine d.F.ok scLawVoters (fun vs H Q E h => ?_) (fun cdv A outer s H vs Q E hr h => ?_)
  · obtain ⟨a, ns, start, n, most, rfl, _⟩ := h
    rfl
  · obtain ⟨a, ns, start, n, most, rfl, hS, hs0, h1, h6, m0, m60, k⟩ := h
    refine ⟨_, pss_cons (ps_set (i := 4) scLawVoters.nd rfl (Or.inl rfl) (pe_op op_mod (pe_call GC hr (by rfl) dC.mgf dC.F.kp dC.b .nil pass0 (pa_cons (pv 0) (pa_cons (pv 1) pa_nil))) (pe_op op_add (pv 3) pe_int)))
      (pss_cons (ps_setC (i := 5) (ts := ["k"]) (fs := [(2, "many"), (0, "script"), (1, "start")]) scLawVoters.nd rfl (Or.inl rfl) rfl (by exact .mk' rfl (by rfl) ⟨rfl, rfl, rfl, rfl, rfl, rfl, trivial⟩) (pi_range1 (by rfl) B.range (pa_cons (pv 4) pa_nil))
        (by intros; exact pg_name (i := 0) (show (["k", "many", "script", "start"] : List Str).Nodup by decide +kernel) rfl (Or.inl rfl))
        (by intros; exact pts_nil)
        (by intros; exact pe_call GO hr (by rfl) dO.mgf dO.F.kp dO.b .nil pass0 (pa_cons (pe_call GC hr (by rfl) dC.mgf dC.F.kp dC.b .nil pass0 (pa_cons (pv 2) (pa_cons (pe_op op_add (pe_op op_add (pv 3) pe_int) (pv 0)) pa_nil))) (pa_cons (pv 1) pa_nil))))
      (pss_cons (ps_set (i := 6) scLawVoters.nd rfl (Or.inl rfl) (pe_op op_fdiv (pe_call GC hr (by rfl) dC.mgf dC.F.kp dC.b .nil pass0 (pa_cons (pv 0) (pa_cons (pv 1) pa_nil))) (pe_op op_add (pv 3) pe_int)))
      (pss_cons (ps_if (pt_cmpR op_eq (pe_op op_mod (pv 6) pe_int) pe_int (nomark _))
          (pss_one (ps_ret (pe_slice sl_list (pe_op op_rep (pv 5) pe_int) po_none (po_some (pe_op op_add (pv 3) (pe_op op_mod (pe_op op_fdiv (pv 6) pe_int) (pe_op op_sub pe_int (pv 3))))))))
          pss_nil)
      (pss_one (ps_ret (pe_op op_cat (pv 5) (pe_slice sl_list (pv 5) po_none (po_some (pe_op op_mod (pv 6) pe_int))))))))), ?_⟩
    refine ⟨_, rfl, _, rfl, a, ns, start, rfl, hS, hs0, _, rfl, _, _, rfl, rfl, _, _, rfl, rfl, by omega, ?_⟩
    obtain ⟨cnt, ec, c0, c1⟩ : ∃ cnt, ns.getD start.toNat 0 % (most + 1) = cnt ∧ 0 ≤ cnt ∧ cnt < most + 1 := ⟨_, rfl, Int.emod_nonneg _ (by omega), Int.emod_lt_of_pos _ (by omega)⟩
    refine ⟨_, rfl, cnt, congrArg (fun z => [V.int z]) ec, by omega, by omega, fun l hl => comp_range' (lo := 0) (m0 := cnt.toNat) (fun i acc H' => Same H H' ∧ H' l = some (.lst acc) ∧ ∃ L, Paired (dT H') L acc ∧ Ords n L ∧ acc.length = i)
      ⟨same_upd hl, upd_same, [], .nil, fun o z => absurd z (by simp), rfl⟩ (fun i acc H' _ ⟨_, z, _⟩ => z) ?_ ?_⟩
    · rintro i acc H' hi ⟨s1, hla, L, pL, hO, hlen⟩
      refine ⟨small1000 (by omega), ⟨rfl, rfl⟩, ?_⟩
      refine tYes_mk ?_
      refine ⟨_, rfl, _, rfl, _, _, rfl, rfl, _, rfl, _, _, rfl, rfl, a, ns, _, rfl, s1.seq hS, by omega, _, rfl, _, n, rfl, h1, h6, fun H2 p o s2 fp hp hperm => ⟨s2 _ _ hla, Nx.mk hi ⟨same_upd' (s1.trans s2) hl, upd_same, L ++ [o], ?_, ords_append hO fun o' ho' => ?_, by rw [List.length_append, List.length_singleton]; omega⟩⟩⟩
      · have hpl : p ≠ l := (ne_of_none hla fp).symm
        refine pd_append (pd_same (fun b x ⟨q, e, hq⟩ => ⟨q, e, ?_⟩) pL) (.cons ⟨p, rfl, by rw [upd_ne hpl]; exact hp⟩ .nil)
        rw [upd_ne (ne_of hq hla (by intro z; cases z))]
        exact s2 _ _ hq
      · rw [List.mem_singleton.mp ho']; exact hperm
    · rintro acc H' ⟨s1, hla, L, pL, hO, hlen⟩
      have hLl := Paired.length pL
      refine ⟨_, rfl, _, rfl, a, ns, start, rfl, s1.seq hS, hs0, _, rfl, _, _, rfl, rfl, _, _, rfl, rfl, ⟨by omega, by omega⟩, ?_⟩
      dsimp only
      generalize ns.getD start.toNat 0 / (most + 1) = more
      refine ⟨_, rfl, _, _, rfl, rfl, (by show (0 : Int) < 8; decide), rfl, _, rfl, ?_⟩
      refine ite2 (fun _ => ?_) (fun _ => ?_)
      · refine ⟨_, rfl, l, 60, acc, rfl, rfl, hla, by decide, by decide, by rw [sizeLine_eq]; show acc.length * 60 ≤ _; omega, fun p hp => ?_⟩
        have e0 : 0 ≤ more / 8 % (61 - most) := Int.emod_nonneg _ (by omega)
        have e1 : more / 8 % (61 - most) < 61 - most := Int.emod_lt_of_pos _ (by omega)
        refine ⟨_, rfl, _, rfl, _, _, rfl, rfl, ⟨by decide, by decide⟩, _, rfl, _, _, rfl, rfl, _, _, rfl, rfl, by omega, _, _, rfl, rfl, _, rfl, p, _, rfl, SqL.of upd_same, fun t ht => ?_⟩
        rw [cut_take _ (by omega)]
        have f1 : H p = none := s1.free hp
        have f2 : H t = none := (same_upd' s1 f1).free ht
        refine k _ t _ ((List.replicate 60 L).flatten.take (most + more / 8 % (61 - most)).toNat) (same_upd' (same_upd' s1 f1) f2) f2 upd_same ?_ (ords_take (ords_rep hO 60) _) ?_
        · refine pd_same (fun b x ⟨q, e, hq⟩ => ⟨q, e, ?_⟩) (pd_take _ (pd_rep pL 60))
          exact (same_upd hp |>.trans (same_upd ht)) _ _ hq
        · rw [List.length_take]; omega
      · have e0 : 0 ≤ more % 4 := Int.emod_nonneg _ (by decide)
        have e1 : more % 4 < 4 := Int.emod_lt_of_pos _ (by decide)
        refine ⟨_, rfl, _, rfl, _, rfl, _, _, rfl, rfl, (by show (0 : Int) < 4; decide), _, rfl, l, acc, rfl, SqL.of hla, fun p hp => ?_⟩
        rw [cut_take _ e0]
        have f1 : H p = none := s1.free hp
        refine ⟨l, p, acc, _, rfl, rfl, (same_upd hp) _ _ hla, upd_same, by rw [List.length_take, sizeLine_eq]; omega, fun t ht => ?_⟩
        have f2 : H t = none := (same_upd' s1 f1).free ht
        refine k _ t _ (L ++ L.take (more % 4).toNat) (same_upd' (same_upd' s1 f1) f2) f2 upd_same ?_ (ords_append hO (ords_take hO _)) ?_
        · refine pd_same (fun b x ⟨q, e, hq⟩ => ⟨q, e, ?_⟩) (pd_append pL (pd_take _ pL))
          exact (same_upd hp |>.trans (same_upd ht)) _ _ hq
        · rw [List.length_append, List.length_take]; omega
end
end Bm
namespace Bm
open PySem L2
section
variable {P : Program} {w : World} {K : PySem.W.Frag} {mg : Str → Option Value} {base : Heap}
theorem scWhole : FnScope ["found"] ["found"] (defScope sWhole) := ⟨rfl, rfl, rfl, by decide +kernel, rfl, by decide +kernel, by decide +kernel⟩
theorem ok_whole (d : Def K mg "_law_whole" sWhole ["found"]) (B : Blt mg) : FnOk P w K mg base CX0 1 d.f d.fd ["found"] spWhole := by
  refine d.F.ok scWhole (fun vs H Q E h => ?_) (fun cdv A outer s H vs Q E hr h => ?_)
  · obtain ⟨i, rfl, _⟩ := h
    rfl
  · obtain ⟨i, rfl, q⟩ := h
    refine ⟨_, pss_one (ps_ret (pe_and (pe_callB call_isi (by rfl) B.isi PyProof.Rows.boot_isinstance (pa_cons (pv 0) (pa_cons (pe_bltn (v := .ty "int") (by rfl) B.int PyProof.Rows.boot_int rfl) pa_nil)))
      (pe_one (pe_not (pe_callB call_isi (by rfl) B.isi PyProof.Rows.boot_isinstance (pa_cons (pv 0) (pa_cons (pe_bltn (v := .ty "bool") (by rfl) B.bool PyProof.Rows.boot_bool rfl) pa_nil))))))), ?_⟩
    refine ⟨_, rfl, .int i, "int", true, rfl, .int_int i, true, rfl, ?_⟩
    rw [if_pos rfl]
    exact ⟨_, rfl, .int i, "bool", false, rfl, .int_bool i, false, rfl, q⟩
end
end Bm
namespace Bm
open PySem L2
def numS (i : Int) : Str := (toString i : Str)
def figM (o : List Int) : Str := Txt.join "" (o.map numS)
def shownM (n : Int) (L : List (List Int)) : Str := Txt.join " " ((Str.empty ++ numS n ++ ":") :: L.map figM)
def spFigures : Sp := fun vs H Q _ => ∃ (p : Addr) (o : List Int), vs = [.ref p] ∧ H p = some (.tup (o.map V.int)) ∧ (∀ x ∈ o, 0 ≤ x ∧ x < 6) ∧ o.length ≤ 6 ∧ ∀ H', Same H H' → Q (.str (figM o)) H'
def spShownM (K : PySem.W.Frag) : Sp := fun vs H Q _ => ∃ (n : Int) (a : Addr) (L : List (List Int)), vs = [.int n, .ref a] ∧ 1 ≤ n ∧ n ≤ 6 ∧ VAt K H a L ∧ Ords n L ∧ L.length ≤ 1000 ∧ ∀ H', Same H H' → Q (.str (shownM n L)) H'
theorem num_len {i : Int} (h : 0 ≤ i) (h' : i < 7) : (numS i).length = 1 ∧ (Str.empty ++ numS i).length = 1 ∧ (Str.empty ++ numS i ++ ":").length = 2 := by
  have hc : i = 0 ∨ i = 1 ∨ i = 2 ∨ i = 3 ∨ i = 4 ∨ i = 5 ∨ i = 6 := by omega
  rcases hc with rfl | rfl | rfl | rfl | rfl | rfl | rfl <;> decide +kernel
theorem joinOk_of {sep : Str} {ts : List Str} {B : Nat} (hB : ∀ y ∈ ts, y.length ≤ B) (h : ts.length * B + ts.length * sep.length ≤ 16777216) : JoinOk sep ts = true := by
  unfold JoinOk
  rw [Bool.not_eq_true']
  exact StrLaws.joinFits hB h
section
variable {P : Program} {w : World} {K : PySem.W.Frag} {mg : Str → Option Value} {base : Heap}
theorem sc_figures : FnScope ["voter"] ["voter"] (defScope sFiguresOf) := ⟨rfl, rfl, rfl, by decide +kernel, rfl, by decide +kernel, by decide +kernel⟩
theorem ok_figures (d : Def K mg "figures_of" sFiguresOf ["voter"]) (B : Blt mg) : FnOk P w K mg base CX0 1 d.f d.fd ["voter"] spFigures := by
  refine d.F.ok sc_figures (fun vs H Q E h => ?_) (fun cdv A outer s H vs Q E hr h => ?_)
  · obtain ⟨p, o, rfl, _⟩ := h
    rfl
  · obtain ⟨p, o, rfl, hp, ho, hl, k⟩ := h
    refine ⟨_, pss_one (ps_ret (pe_bm PySem.F.plainAttrs_str PySem.F.slot_str_join PySem.F.type_str_join mt_join pe_str (pa_cons (pe_comp (ts := ["thing"]) (fs := []) rfl (by exact .mk' rfl (by rfl) trivial) (pi_tup (pv 0))
          (by intros; exact pg_name (i := 0) (show (["thing"] : List Str).Nodup by decide +kernel) rfl (Or.inl rfl))
          (by intros; exact pts_nil)
          (by intros; exact (pe_callTy call_str_int (by rfl) B.str PyProof.Rows.boot_str (pa_cons (pv 0) pa_nil)))) pa_nil))), ?_⟩
    refine ⟨rfl, _, rfl, p, rfl, ⟨_, SqT.of hp⟩, fun l fl => comp_tup' (xs := o.map V.int) (fun i acc H' => Same H H' ∧ H' l = some (.lst acc) ∧ acc = ((o.take i).map numS).map V.str)
      ⟨same_upd fl, upd_same, rfl⟩ (fun i acc H' _ ⟨z1, z2, _⟩ => ⟨SqT.of (z1 _ _ hp), z2⟩) ?_ ?_⟩
    · rintro i x acc H1 hi hlt ⟨s1, hl1, hacc⟩
      obtain ⟨t, ht, rfl⟩ := map_get hi
      have hb := ho t (List.mem_of_getElem? ht)
      have hlog : t.natAbs.log2 < 1920 := by
        have hc : t = 0 ∨ t = 1 ∨ t = 2 ∨ t = 3 ∨ t = 4 ∨ t = 5 := by omega
        rcases hc with rfl | rfl | rfl | rfl | rfl | rfl <;> decide +kernel
      refine ⟨small1000 (by rw [hacc, List.length_map, List.length_map, List.length_take]; omega), ⟨rfl, rfl⟩, tYes_mk ?_⟩
      refine ⟨_, rfl, t, rfl, hlog, hl1, Nx.mk hlt ⟨same_upd' s1 fl, upd_same, ?_⟩⟩
      rw [List.take_add_one, ht, List.map_append, List.map_append, hacc]
      rfl
    · rintro acc H1 ⟨s1, hl1, hacc⟩
      rw [List.length_map, List.take_of_length_le (Nat.le_refl _)] at hacc
      subst hacc
      refine ⟨"", l, o.map numS, rfl, rfl, SqL.of hl1, joinOk_of (B := 1) (fun y hy => ?_) (by rw [List.length_map, show ("" : Str).length = 0 from rfl]; omega), k H1 s1⟩
      obtain ⟨t, ht, rfl⟩ := List.mem_map.mp hy
      have := ho t ht
      exact Nat.le_of_eq (num_len this.1 (by omega)).1
theorem fig_len {o : List Int} (ho : ∀ x ∈ o, 0 ≤ x ∧ x < 6) (hl : o.length ≤ 6) : (figM o).length ≤ 6 := by
  unfold figM Txt.join
  rw [StrLaws.glued_eq_join]
  refine Nat.le_trans (StrLaws.join_length_le "" (o.map numS)) ?_
  have e : ("" : Str).length = 0 := rfl
  rw [e, Nat.mul_zero, Nat.add_zero, List.map_map]
  have : ∀ l : List Int, (∀ x ∈ l, 0 ≤ x ∧ x < 6) → (l.map ((fun t : Str => t.length) ∘ numS)).sum ≤ l.length := by
    intro l
    induction l with
    | nil => intro _; exact Nat.le_refl _
    | cons a l ih =>
      intro h
      rw [List.map_cons, List.sum_cons, List.length_cons]
      have h1 := (num_len (h a List.mem_cons_self).1 (by have := (h a List.mem_cons_self).2; omega)).1
      have h2 := ih fun x hx => h x (List.mem_cons_of_mem _ hx)
      show (numS a).length + _ ≤ _
      omega
  exact Nat.le_trans (this o ho) hl
theorem sc_shown : FnScope ["many", "voters"] ["many", "voters"] (defScope sShown) := ⟨rfl, rfl, rfl, by decide +kernel, rfl, by decide +kernel, by decide +kernel⟩
theorem ok_shown (d : Def K mg "shown" sShown ["many", "voters"]) (dV : Def K mg "check_voters" sCheckVoters ["many", "voters"]) (GV : FnOk P w K mg base CX0 2 dV.f dV.fd ["many", "voters"] (spVoters K)) (dF : Def K mg "figures_of" sFiguresOf ["voter"]) (GF : FnOk P w K mg base CX0 1 dF.f dF.fd ["voter"] spFigures) :
    FnOk P w K mg base CX0 3 d.f d.fd ["many", "voters"] (spShownM K) := by
  refine d.F.ok sc_shown (fun vs H Q E h => ?_) (fun cdv A outer s H vs Q E hr h => ?_)
  · obtain ⟨n, a, L, rfl, _⟩ := h
    rfl
  · obtain ⟨n, a, L, rfl, h1, h6, hV, hO, hL, k⟩ := h
    refine ⟨_, pss_cons (ps_expr (pe_call GV hr (by rfl) dV.mgf dV.F.kp dV.b .nil pass0 (pa_cons (pv 0) (pa_cons (pv 1) pa_nil))))
      (pss_one (ps_ret (pe_bm PySem.F.plainAttrs_str PySem.F.slot_str_join PySem.F.type_str_join mt_join pe_str (pa_cons (pe_op op_cat (pe_lst (pa_cons (pe_fstrE (pv 0)) pa_nil)) (pe_comp (ts := ["voter"]) (fs := []) rfl (by exact .mk' rfl (by rfl) trivial) (pi_list (pv 1))
          (by intros; exact pg_name (i := 0) (show (["voter"] : List Str).Nodup by decide +kernel) rfl (Or.inl rfl))
          (by intros; exact pts_nil)
          (by intros; exact (pe_call GF (hr.mono (by decide)) (by rfl) dF.mgf dF.F.kp dF.b .nil pass0 (pa_cons (pv 0) pa_nil))))) pa_nil)))), ?_⟩
    have small : ∀ {z : Nat}, z ≤ 2000 → z ≤ sizeLine := fun {z} h => by rw [sizeLine_eq]; omega
    have ordB : ∀ o ∈ L, (∀ x ∈ o, 0 ≤ x ∧ x < 6) ∧ o.length ≤ 6 := fun o ho => by
      have hp := hO o ho
      refine ⟨fun x hx => ?_, ?_⟩
      · have := rangeK_mem.mp (hp.mem_iff.mp hx)
        omega
      · rw [hp.length_eq, show (rangeI n).length = n.toNat from rangeK_len _]
        omega
    refine ⟨_, rfl, _, rfl, n, a, L, rfl, h1, h6, hV, hO, fun H0 s0 => ?_⟩
    obtain ⟨xs, hx, px⟩ := hV
    have hxl := Paired.length px
    obtain ⟨m1, m2, m3⟩ := num_len (i := n) (by omega) (by omega)
    have hlog : n.natAbs.log2 < 1920 := by
      have hc : n = 1 ∨ n = 2 ∨ n = 3 ∨ n = 4 ∨ n = 5 ∨ n = 6 := by omega
      rcases hc with rfl | rfl | rfl | rfl | rfl | rfl <;> decide +kernel
    refine ⟨rfl, _, rfl, n, rfl, hlog, small (by have : (Str.empty ++ (toString n : Str)).length = 1 := m2; omega), small (by have : (Str.empty ++ (toString n : Str) ++ ":").length = 2 := m3; omega), sz1, fun l1 fl1 => ?_⟩
    have t1 := same_upd (o := .lst [.str (Str.empty ++ numS n ++ ":")]) fl1
    have s1 := s0.trans t1
    have hl1 : (upd H0 l1 (.lst [.str (Str.empty ++ numS n ++ ":")])) l1 = some (.lst [.str (Str.empty ++ numS n ++ ":")]) := upd_same
    refine ⟨_, rfl, a, rfl, ⟨_, s1.seq hx⟩, fun l fl => comp_list' (xs := xs) (fun i acc H' => Same (upd H0 l1 (.lst [.str (Str.empty ++ numS n ++ ":")])) H' ∧ H' l = some (.lst acc) ∧ acc = ((L.take i).map figM).map V.str)
      ⟨same_upd fl, upd_same, rfl⟩ (fun i acc H' _ ⟨z1, z2, _⟩ => ⟨(s1.trans z1).seq hx, z2⟩) ?_ ?_⟩
    · rintro i x acc H2 hi hlt ⟨s2, hl2, hacc⟩
      obtain ⟨o, ho, q, rfl, hq⟩ := paired_get px hi
      obtain ⟨b1, b2⟩ := ordB o (List.mem_of_getElem? ho)
      refine ⟨small1000 (by rw [hacc, List.length_map, List.length_map, List.length_take]; omega), ⟨rfl, rfl⟩, tYes_mk ?_⟩
      refine ⟨_, rfl, q, o, rfl, (s1.trans s2) _ _ hq, b1, b2, fun H3 s3 => ⟨s3 _ _ hl2, Nx.mk hlt ⟨same_upd' (s2.trans s3) fl, upd_same, ?_⟩⟩⟩
      rw [List.take_add_one, ho, List.map_append, List.map_append, hacc]
      rfl
    · rintro acc H2 ⟨s2, hl2, hacc⟩
      rw [List.take_of_length_le (by omega)] at hacc
      subst hacc
      refine ⟨l1, l, _, _, rfl, rfl, s2 _ _ hl1, hl2, small (by rw [List.length_map, List.length_map]; show 1 + _ ≤ 2000; omega), fun r fr => ?_⟩
      have e : [V.str (Str.empty ++ numS n ++ ":")] ++ (L.map figM).map V.str = ((Str.empty ++ numS n ++ ":") :: L.map figM).map V.str := rfl
      rw [e]
      refine ⟨" ", r, _, rfl, rfl, SqL.of upd_same, joinOk_of (B := 6) (fun y hy => ?_) ?_, k _ ((s1.trans s2).trans (same_upd fr))⟩
      · rcases List.mem_cons.mp hy with rfl | hy
        · omega
        · obtain ⟨o, ho, rfl⟩ := List.mem_map.mp hy
          obtain ⟨b1, b2⟩ := ordB o ho
          exact fig_len b1 b2
      · have e1 : (" " : Str).length = 1 := rfl
        rw [e1, List.length_cons, List.length_map]
        omega
end
end Bm
namespace Bm
open PySem L2
section
variable {P : Program} {w : World} {K : PySem.W.Frag} {mg : Str → Option Value} {base : Heap}
def spCkC (er : Errs K mg) : Sp := fun vs H Q E => ∃ n : Int, vs = [.int n] ∧ (1 ≤ n ∧ n ≤ 6 → Q .non H) ∧ (¬ (1 ≤ n ∧ n ≤ 6) → E (.ref er.count) none H)
theorem cks_count (d : Def K mg "check_count" sCheckCount ["many"]) (Gl : Glob mg) (er : Errs K mg) : FnOk P w K mg base (CXs P w) 1 d.f d.fd ["many"] (spCkC er) := by
  refine d.F.okX scCount (fun vs H Q E h => ?_) (fun cdv A outer s H vs Q E hr h => ?_)
  · obtain ⟨n, rfl, _⟩ := h
    rfl
  · obtain ⟨n, rfl, hq, he⟩ := h
    obtain ⟨t, hm⟩ := Gl.most
    refine ⟨_, pss_one (ps_if (pw_or (pt_cmpR op_lt (pv 0) pe_int (nomark _)) (pw_or1 (pt_cmpR op_gt (pv 0) (pe_glob (v := .int 6) (by rfl) hm ⟨t, rfl⟩) (nomark _)))).pt
      (pss_one (ps_raise raisesS rfl (by rfl) er.mcount er.kcount (pa_cons (pe_fstr (pe_glob (v := .int 6) (by rfl) hm ⟨t, rfl⟩) (by rw [sizeLine_eq]; decide +kernel)) pa_nil))) pss_nil), ?_⟩
    have bad : ¬ (1 ≤ n ∧ n ≤ 6) → tRaise er.count E (fun σ H Q => tFstr "the number of things is not from 1 to " (tC (.int 6)) σ H fun v H1 => tNil σ H1 fun vs H2 => Q (v :: vs) H2) { nx := fun _ H' => Q .non H', rt := Q } (start ["many"] [.int n]) H := fun z =>
      ⟨6, rfl, by decide +kernel, by rw [sizeLine_eq]; decide +kernel, by rw [sizeLine_eq]; decide +kernel, by rw [sizeLine_eq]; decide, he z⟩
    refine ⟨_, rfl, _, _, rfl, rfl, _, rfl, ite2 (fun q1 => ?_) (fun q1 => ?_)⟩
    · have : n < 1 := of_decide_eq_true q1
      exact bad (by omega)
    · have h1 : ¬ n < 1 := fun z => q1 (decide_eq_true z)
      refine ⟨_, rfl, _, _, rfl, rfl, _, rfl, ite2 (fun q2 => ?_) (fun q2 => ?_)⟩
      · have : 6 < n := of_decide_eq_true q2
        exact bad (by omega)
      · have h6 : ¬ 6 < n := fun z => q2 (decide_eq_true z)
        exact hq ⟨by omega, by omega⟩
end
end Bm
namespace Bm
open PySem L2
section
variable {P : Program} {w : World} {K : PySem.W.Frag} {mg : Str → Option Value} {base : Heap}
def spCkV (er : Errs K mg) : Sp := fun vs H Q E => ∃ (n : Int) (a : Addr) (L : List (List Int)), vs = [.int n, .ref a] ∧ VAt K H a L ∧ (∀ o ∈ L, o.length < 64) ∧
  (¬ (1 ≤ n ∧ n ≤ 6) → ∀ H', Same H H' → E (.ref er.count) none H') ∧ (1 ≤ n ∧ n ≤ 6 → ¬ Ords n L → ∀ H', Same H H' → E (.ref er.voter) none H') ∧ (1 ≤ n ∧ n ≤ 6 → Ords n L → ∀ H', Same H H' → Q .non H')
theorem cks_voters (d : Def K mg "check_voters" sCheckVoters ["many", "voters"]) (B : Blt mg) (er : Errs K mg) (dC : Def K mg "check_count" sCheckCount ["many"]) (GC : FnOk P w K mg base (CXs P w) 1 dC.f dC.fd ["many"] (spCkC er)) :
    FnOk P w K mg base (CXs P w) 2 d.f d.fd ["many", "voters"] (spCkV er) := by
  refine d.F.okX scVoters (fun vs H Q E h => ?_) (fun cdv A outer s H vs Q E hr h => ?_)
  · obtain ⟨n, a, L, rfl, _⟩ := h
    rfl
  · obtain ⟨n, a, L, rfl, ⟨xs, hx, px⟩, h64, hcnt, hvot, hok⟩ := h
    refine ⟨_, pss_cons (ps_expr (pe_call GC hr (by rfl) dC.mgf dC.F.kp dC.b .nil passS (pa_cons (pv 0) pa_nil)))
      (pss_cons (ps_set (i := 2) scVoters.nd rfl (Or.inl rfl) (pe_callTy (call_list_rng rfl) (by rfl) B.list PyProof.Rows.boot_list (pa_cons (pe_callTy call_range (by rfl) B.range PyProof.Rows.boot_range (pa_cons (pv 0) pa_nil)) pa_nil)))
      (pss_one (ps_for PassesOwn.leaving rfl (pi_list (pv 1)) (pg_name (i := 3) scVoters.nd rfl (Or.inl rfl))
        (pss_one (ps_if (pt_cmpR (op_neL eq_int_ok (hu_of hr)) (pe_callB call_sorted (by rfl) B.sorted PyProof.Rows.boot_sorted (pa_cons (pv 3) pa_nil)) (pv 2) (nomark _))
          (pss_one (ps_raise raisesS rfl (by rfl) er.mvoter er.kvoter (pa_cons pe_str pa_nil))) pss_nil))))), ?_⟩
    refine ⟨_, rfl, n, rfl, fun hn => ?_, fun hn => hcnt hn H (Same.refl H)⟩
    have h1 := hn.1
    have h6 := hn.2
    refine ⟨_, rfl, n, rfl, fun p hp => ⟨p, 0, n, rfl, upd_same, ⟨by omega, by omega, by omega, by omega⟩, by omega, fun l hl => ?_⟩⟩
    rw [things_eq]
    have s1 : Same H (upd (upd H p (.rng 0 n)) l (.lst ((rangeI n).map V.int))) := (same_upd hp).trans (same_upd hl)
    refine ⟨_, rfl, a, rfl, ⟨_, s1.seq hx⟩, for_list (K := K) (a := a) (xs := xs) (fun i σ H' => ∃ v, σ = [some (.int n), some (.ref a), some (.ref l), v] ∧ Same (upd (upd H p (.rng 0 n)) l (.lst ((rangeI n).map V.int))) H' ∧ Ords n (L.take i))
      ⟨none, rfl, Same.refl _, fun o ho => absurd ho (by simp)⟩ (fun i σ H' _ ⟨_, _, s2, _⟩ => (s1.trans s2).seq hx) ?_ ?_⟩
    · rintro i x σ H' hi ⟨v, rfl, s2, hO⟩
      obtain ⟨o, ho, q, rfl, hq⟩ := paired_get px hi
      refine ⟨_, rfl, q, o, rfl, .inr (SqT.of (s2 _ _ (s1 _ _ hq))), h64 o (List.mem_of_getElem? ho), fun l' ns' hl' hp' hs' => ⟨_, rfl, ?_⟩⟩
      have s3 := s2.trans (same_upd (o := .lst (ns'.map V.int)) hl')
      refine ⟨l', l, _, _, ns', rangeI n, rfl, rfl, SqL.of upd_same, SqL.of (s3 _ _ upd_same), paired_ints _, paired_ints _, _, rfl, ite2 (fun hb => ?_) (fun hb => ?_)⟩
      · refine ⟨(by rw [sizeLine_eq]; decide), hvot hn (fun hO' => ?_) _ (s1.trans s3)⟩
        have e : ns' = rangeI n := PySem.W.ksm_same (hp'.trans (hO' o (List.mem_of_getElem? ho))) hs' (rangeK_sorted _)
        rw [decide_eq_true e] at hb
        exact absurd hb Bool.false_ne_true
      · refine ⟨_, rfl, s3, fun o' ho' => ?_⟩
        have e : ns' = rangeI n := by
          by_cases z : ns' = rangeI n
          · exact z
          · exact absurd (by rw [decide_eq_false z]; rfl) hb
        rcases take_succ_mem ho ho' with z | rfl
        · exact hO o' z
        · rw [← e]; exact hp'.symm
    · rintro σ H' ⟨v, rfl, s2, hO⟩
      rw [List.take_of_length_le (by have := Paired.length px; omega)] at hO
      exact hok hn hO H' (s1.trans s2)
end
end Bm
namespace L2
open PySem PySem.Spec PyProof.Rows
def allStr : List Expr → Option (List Str)
  | [] => some []
  | .Constant (.str x) _ _ :: es => (allStr es).map (x :: ·)
  | _ => none
theorem pa_strs {X : Cx} : ∀ {es : List Expr} {xs : List Str}, allStr es = some xs → PA X es (fun _ H Q => Q (xs.map V.str) H)
  | [], xs, h => by
    cases h
    exact pa_nil
  | e :: es, xs, h => by
    cases e with
    | Constant c j p =>
      cases c with
      | str x =>
        cases hr : allStr es with
        | none =>
          have h' : (allStr es).map (x :: ·) = some xs := h
          rw [hr] at h'
          cases h'
        | some ys =>
          have h' : (allStr es).map (x :: ·) = some xs := h
          rw [hr] at h'
          cases h'
          exact pa_cons pe_str (pa_strs hr)
      | _ => cases h
    | _ => cases h
end L2
namespace Bm
open PySem L2
open PySem.Spec PyProof.Rows
abbrev bl : Str := " "
def Run (B : Nat) (l : List Nat) : Prop := ∀ i n, (∀ k, i ≤ k → k < i + n → ∃ c, l[k]? = some c ∧ c ≠ 32) → n ≤ B
theorem run_len {B : Nat} {l : List Nat} (h : l.length ≤ B) : Run B l := fun i n hn => by
  by_cases z : n = 0
  · omega
  · obtain ⟨c, e, _⟩ := hn (i + n - 1) (by omega) (by omega)
    have := (List.getElem?_eq_some_iff.mp e).1
    omega
theorem run_mono {B C : Nat} {l : List Nat} (h : Run B l) (hb : B ≤ C) : Run C l := fun i n hn => Nat.le_trans (h i n hn) hb
theorem run_drop {B : Nat} {l : List Nat} (h : Run B l) (a : Nat) : Run B (l.drop a) := fun i n hn => h (a + i) n fun k h1 h2 => by
  obtain ⟨c, e, hc⟩ := hn (k - a) (by omega) (by omega)
  rw [List.getElem?_drop, show a + (k - a) = k by omega] at e
  exact ⟨c, e, hc⟩
theorem run_take {B : Nat} {l : List Nat} (h : Run B l) (a : Nat) : Run B (l.take a) := fun i n hn => h i n fun k h1 h2 => by
  obtain ⟨c, e, hc⟩ := hn k h1 h2
  have hk := (List.getElem?_eq_some_iff.mp e).1
  rw [List.length_take] at hk
  rw [List.getElem?_take_of_lt (by omega)] at e
  exact ⟨c, e, hc⟩
theorem run_append {B C : Nat} {l m : List Nat} (h : Run B l) (h' : Run C m) : Run (B + C) (l ++ m) := fun i n hn => by
  have g1 : min n (l.length - i) ≤ B := h i _ fun k h1 h2 => by
    obtain ⟨c, e, hc⟩ := hn k h1 (by omega)
    rw [List.getElem?_append_left (by omega)] at e
    exact ⟨c, e, hc⟩
  have g2 : n - min n (l.length - i) ≤ C := h' (i - l.length) _ fun k h1 h2 => by
    obtain ⟨c, e, hc⟩ := hn (k + l.length) (by omega) (by omega)
    rw [List.getElem?_append_right (by omega), Nat.add_sub_cancel] at e
    exact ⟨c, e, hc⟩
  omega
theorem run_sep {B : Nat} {l m : List Nat} (h : Run B l) (h' : Run B m) : Run B (l ++ 32 :: m) := fun i n hn => by
  by_cases z : i ≤ l.length ∧ l.length < i + n
  · obtain ⟨c, e, hc⟩ := hn l.length z.1 z.2
    rw [List.getElem?_append_right (Nat.le_refl _), Nat.sub_self] at e
    cases e
    exact absurd rfl hc
  · by_cases y : i < l.length
    · refine h i n fun k h1 h2 => ?_
      obtain ⟨c, e, hc⟩ := hn k h1 h2
      rw [List.getElem?_append_left (by omega)] at e
      exact ⟨c, e, hc⟩
    · by_cases n0 : n = 0
      · omega
      refine h' (i - l.length - 1) n fun k h1 h2 => ?_
      obtain ⟨c, e, hc⟩ := hn (k + l.length + 1) (by omega) (by omega)
      rw [List.getElem?_append_right (by omega), show k + l.length + 1 - l.length = k + 1 by omega, List.getElem?_cons_succ] at e
      exact ⟨c, e, hc⟩
theorem bl_cps : bl.cps.toList = [32] := by decide +kernel
theorem bl_eq : bl = ⟨#[32]⟩ := by decide +kernel
theorem app_cps (a b : Str) : (a ++ b).cps.toList = a.cps.toList ++ b.cps.toList := by rw [Str.cps_append, Array.toList_append]
theorem join_cps (w v : Str) (ws : List Str) : (Str.join bl (w :: v :: ws)).cps.toList = w.cps.toList ++ 32 :: (Str.join bl (v :: ws)).cps.toList := by
  show ((w ++ bl ++ Str.join bl (v :: ws)) : Str).cps.toList = _
  rw [app_cps, app_cps, bl_cps, List.append_assoc]
  rfl
theorem run_join {B : Nat} : ∀ {ws : List Str}, (∀ w ∈ ws, Run B w.cps.toList) → Run B (Str.join bl ws).cps.toList
  | [], _ => run_len (by show (0 : Nat) ≤ B; omega)
  | [w], h => h w List.mem_cons_self
  | w :: v :: ws, h => by
    rw [join_cps]
    exact run_sep (h w List.mem_cons_self) (run_join fun x hx => h x (List.mem_cons_of_mem _ hx))
theorem join_words {B : Nat} : ∀ {ws : List Str}, (∀ w ∈ ws, 32 ∉ w.cps.toList) → Run B (Str.join bl ws).cps.toList → ∀ w ∈ ws, w.cps.size ≤ B
  | [], _, _, w, hw => by cases hw
  | [v], hf, h, w, hw => by
    rw [List.mem_singleton.mp hw]
    have hv := hf v List.mem_cons_self
    refine h 0 v.cps.size fun k _ h2 => ?_
    have hk : k < v.cps.toList.length := by rw [Array.length_toList]; omega
    exact ⟨_, List.getElem?_eq_getElem hk, fun e => hv (e ▸ List.getElem_mem hk)⟩
  | v :: u :: ws, hf, h, w, hw => by
    rw [join_cps] at h
    rcases List.mem_cons.mp hw with rfl | hw
    · have hv := hf w List.mem_cons_self
      refine h 0 w.cps.size fun k _ h2 => ?_
      have hk : k < w.cps.toList.length := by rw [Array.length_toList]; omega
      refine ⟨w.cps.toList[k], ?_, fun e => hv (e ▸ List.getElem_mem hk)⟩
      rw [List.getElem?_append_left hk]
      exact List.getElem?_eq_getElem hk
    · refine join_words (fun x hx => hf x (List.mem_cons_of_mem _ hx)) ?_ w hw
      have := run_drop h (v.cps.toList.length + 1)
      rw [List.drop_append, List.drop_of_length_le (Nat.le_succ _), List.nil_append, Nat.add_sub_cancel_left] at this
      exact this
theorem words_ok {B : Nat} {t : Str} (h : Run B t.cps.toList) : ∀ w ∈ Txt.split t bl, w.cps.size ≤ B ∧ 32 ∉ w.cps.toList := by
  have hf : ∀ w ∈ Txt.split t bl, 32 ∉ w.cps.toList := by rw [bl_eq]; exact StrLaws.split_free t 32
  have hj : Str.join bl (Txt.split t bl) = t := StrLaws.join_split t bl
  exact fun w hw => ⟨join_words hf (by rw [hj]; exact h) w hw, hf w hw⟩
theorem words_many (t : Str) : (Txt.split t bl).length ≤ t.length + 1 := by
  have := split_weight t bl (by decide +kernel)
  omega
theorem words_ne (t : Str) : Txt.split t bl ≠ [] := fun e => by
  unfold Txt.split at e
  split at e
  · cases e
  · split at e
    · cases e
    · rw [StrLaws.partsBetween_eq] at e
      obtain ⟨p, r, e'⟩ := StrLaws.partsFrom_ne t bl.length 0 (Builtin.Str.occurrences t bl 0 t.length (t.length + 1))
      rw [e'] at e
      cases e
theorem range_mid {a b : Int} {len : Nat} (ha : 0 ≤ a) (ha' : a ≤ len) (hb : b ≤ len) : ∃ c n : Nat, c + n ≤ len ∧ sliceRange a b 1 = (List.range n).map (fun k => c + k) := by
  refine ⟨a.toNat, (b - a).toNat, by omega, ?_⟩
  unfold sliceRange
  rw [if_pos (by decide)]
  have e : (if a < b then (b - a + 1 - 1) / 1 else 0 : Int).toNat = (b - a).toNat := by
    split <;> omega
  dsimp only
  rw [e]
  refine List.map_congr_left fun k _ => ?_
  omega
theorem slice_mid (x : Str) (l u : Option Int) : ∃ a n, (Txt.slice x l u).cps.toList = (x.cps.toList.drop a).take n := by
  unfold Txt.slice
  split
  · exact ⟨0, x.cps.toList.length, by rw [List.drop_zero, List.take_of_length_le (Nat.le_refl _)]⟩
  · have hi : ∃ a n : Nat, a + n ≤ x.length ∧ Builtin.Str.strSliceIndices l u 1 x.length = (List.range n).map (fun k => a + k) := by
      unfold Builtin.Str.strSliceIndices
      have clip : ∀ (v : Option Int) (d : Int), 0 ≤ d → d ≤ x.length → ∃ r : Int, (match v with | none => d | some i => if (1 : Int) > 0 then max 0 (min (if i < 0 then i + (x.length : Int) else i) (x.length : Int)) else max (-1) (min (if i < 0 then i + (x.length : Int) else i) ((x.length : Int) - 1))) = r ∧ 0 ≤ r ∧ r ≤ x.length := fun v d h1 h2 => by
        refine ⟨_, rfl, ?_⟩
        cases v with
        | none => exact ⟨h1, h2⟩
        | some i =>
          dsimp only
          rw [if_pos (by decide)]
          omega
      obtain ⟨r1, e1, c1, d1⟩ := clip l 0 (Int.le_refl _) (by omega)
      obtain ⟨r2, e2, c2, d2⟩ := clip u x.length (by omega) (Int.le_refl _)
      obtain ⟨c, n, h1, h2⟩ := range_mid (b := r2) c1 d1 d2
      refine ⟨c, n, h1, ?_⟩
      rw [← h2, ← e1, ← e2]
      rfl
    obtain ⟨a, n, h1, h2⟩ := hi
    refine ⟨a, n, ?_⟩
    rw [h2]
    have := StrLaws.picks x.cps.toList n a (by simpa [Str.length] using h1)
    simpa using this
theorem run_slice {B : Nat} {x : Str} (h : Run B x.cps.toList) (l u : Option Int) : Run B (Txt.slice x l u).cps.toList := by
  obtain ⟨a, n, e⟩ := slice_mid x l u
  rw [e]
  exact run_take (run_drop h a) n
def fig (c : Nat) : Int := if 48 ≤ c ∧ c ≤ 54 then (c : Int) - 48 else -1
def figs (w : Str) : List Int := w.cps.toList.map fig
theorem fig_inv {c : Nat} (h : 0 ≤ fig c) : 48 ≤ c ∧ c ≤ 54 ∧ (c : Int) = fig c + 48 := by
  unfold fig at h ⊢
  split at h
  · rename_i z
    rw [if_pos z]
    omega
  · omega
theorem seven : ("0123456" : Str).cps.toList = [48, 49, 50, 51, 52, 53, 54] := by decide +kernel
theorem six1 : ("123456" : Str).cps.toList = [49, 50, 51, 52, 53, 54] := by decide +kernel
theorem none7 {c : Nat} (h : ¬ (48 ≤ c ∧ c ≤ 54)) : Builtin.Str.occurrences "0123456" ⟨#[c]⟩ 0 ("0123456" : Str).length 1 = [] := by
  have e := empty_one "0123456" c
  rw [seven, decide_eq_false (by simp; omega)] at e
  exact List.isEmpty_iff.mp e
theorem find_fig (c : Nat) : Txt.find "0123456" ⟨#[c]⟩ = fig c := by
  by_cases h : 48 ≤ c ∧ c ≤ 54
  · have hc : c = 48 ∨ c = 49 ∨ c = 50 ∨ c = 51 ∨ c = 52 ∨ c = 53 ∨ c = 54 := by omega
    rcases hc with rfl | rfl | rfl | rfl | rfl | rfl | rfl <;> decide +kernel
  · unfold Txt.find fig
    rw [none7 h, if_neg h]
theorem idx7 {c : Nat} (h : 49 ≤ c ∧ c ≤ 54) : ∃ i rest, Builtin.Str.occurrences "0123456" ⟨#[c]⟩ 0 ("0123456" : Str).length 1 = i :: rest ∧ (i : Int) = fig c := by
  have hc : c = 49 ∨ c = 50 ∨ c = 51 ∨ c = 52 ∨ c = 53 ∨ c = 54 := by omega
  rcases hc with rfl | rfl | rfl | rfl | rfl | rfl
  · exact ⟨1, [], by decide +kernel, by decide⟩
  · exact ⟨2, [], by decide +kernel, by decide⟩
  · exact ⟨3, [], by decide +kernel, by decide⟩
  · exact ⟨4, [], by decide +kernel, by decide⟩
  · exact ⟨5, [], by decide +kernel, by decide⟩
  · exact ⟨6, [], by decide +kernel, by decide⟩
theorem idx6 {c : Nat} (h : 48 ≤ c ∧ c ≤ 53) : ∃ i rest, Builtin.Str.occurrences "012345" ⟨#[c]⟩ 0 ("012345" : Str).length 1 = i :: rest ∧ (i : Int) = fig c := by
  have hc : c = 48 ∨ c = 49 ∨ c = 50 ∨ c = 51 ∨ c = 52 ∨ c = 53 := by omega
  rcases hc with rfl | rfl | rfl | rfl | rfl | rfl
  · exact ⟨0, [], by decide +kernel, by decide⟩
  · exact ⟨1, [], by decide +kernel, by decide⟩
  · exact ⟨2, [], by decide +kernel, by decide⟩
  · exact ⟨3, [], by decide +kernel, by decide⟩
  · exact ⟨4, [], by decide +kernel, by decide⟩
  · exact ⟨5, [], by decide +kernel, by decide⟩
theorem in6 (c : Nat) : (Builtin.Str.occurrences "123456" ⟨#[c]⟩ 0 ("123456" : Str).length 1).isEmpty = !decide (1 ≤ fig c ∧ fig c ≤ 6) := by
  rw [empty_one, six1]
  congr 1
  refine decide_eq_decide.mpr ⟨fun h => ?_, fun h => ?_⟩
  · simp at h
    unfold fig
    rw [if_pos (by omega)]
    omega
  · obtain ⟨h1, h2, h3⟩ := fig_inv (c := c) (by omega)
    simp
    omega
def firstC (n : Int) : List Nat := (List.range n.toNat).map fun k => 48 + k
theorem firstC_sorted (n : Int) : (firstC n).Pairwise (· < ·) := by
  unfold firstC
  rw [List.pairwise_map]
  exact List.pairwise_lt_range.imp fun h => by omega
theorem firstC_mem {n : Int} {c : Nat} : c ∈ firstC n ↔ 48 ≤ c ∧ (c : Int) < 48 + n := by
  unfold firstC
  rw [List.mem_map]
  constructor
  · rintro ⟨k, hk, rfl⟩
    rw [List.mem_range] at hk
    omega
  · intro h
    exact ⟨c - 48, List.mem_range.mpr (by omega), by omega⟩
theorem firstC_figs {n : Int} (h1 : 1 ≤ n) (h6 : n ≤ 6) : (firstC n).map fig = rangeI n := by
  have hc : n = 1 ∨ n = 2 ∨ n = 3 ∨ n = 4 ∨ n = 5 ∨ n = 6 := by omega
  rcases hc with rfl | rfl | rfl | rfl | rfl | rfl <;> decide
theorem perm_figs {n : Int} (h1 : 1 ≤ n) (h6 : n ≤ 6) {w : List Nat} : (w.map fig).Perm (rangeI n) ↔ w.Perm (firstC n) := by
  constructor
  · intro h
    have hm : ∀ c ∈ w, 0 ≤ fig c ∧ fig c < n := fun c hc => by
      have := rangeK_mem.mp (h.mem_iff.mp (List.mem_map_of_mem hc))
      omega
    have e : ∀ l : List Nat, (∀ c ∈ l, 0 ≤ fig c) → (l.map fig).map (fun i => (i + 48).toNat) = l := by
      intro l
      induction l with
      | nil => intro _; rfl
      | cons c l ih =>
        intro hl
        rw [List.map_cons, List.map_cons, ih fun d hd => hl d (List.mem_cons_of_mem _ hd)]
        have := (fig_inv (hl c List.mem_cons_self)).2.2
        congr 1
        omega
    have h2 := (h.trans (firstC_figs h1 h6 ▸ .refl _ : (rangeI n).Perm ((firstC n).map fig))).map fun i => (i + 48).toNat
    rw [e w fun c hc => (hm c hc).1, e (firstC n) fun c hc => ?_] at h2
    · exact h2
    · have := firstC_mem.mp hc
      unfold fig
      rw [if_pos (by omega)]
      omega
  · intro h
    have := h.map fig
    rw [firstC_figs h1 h6] at this
    exact this
theorem sorted_figs {n : Int} (h1 : 1 ≤ n) (h6 : n ≤ 6) {w cs : List Nat} (hp : cs.Perm w) (hs : w.Nodup → cs.Pairwise (· < ·)) : cs = firstC n ↔ (w.map fig).Perm (rangeI n) := by
  rw [perm_figs h1 h6]
  constructor
  · rintro rfl
    exact hp.symm
  · intro h
    have hn : (firstC n).Nodup := (firstC_sorted n).imp fun h => Nat.ne_of_lt h
    exact List.Perm.eq_of_pairwise (fun a b _ _ x y => absurd x (Nat.lt_asymm y)) (hs (h.nodup_iff.mpr hn)) (firstC_sorted n) (hp.trans h)
structure Wr (t : Str) (n : Int) (L : List (List Int)) : Prop where
  ex : ∃ h ws c, Txt.split t bl = h :: ws ∧ h.cps.toList = [c, 58] ∧ fig c = n ∧ ws.length ≤ 60 ∧ (∀ w ∈ ws, (figs w).Perm (rangeI n)) ∧ L = ws.map figs
  low : 1 ≤ n
  high : n ≤ 6
theorem Wr.same {t : Str} {n m : Int} {L M : List (List Int)} (h : Wr t n L) (k : Wr t m M) : n = m ∧ L = M := by
  obtain ⟨h1, ws, c, e1, e2, e3, _, _, e4⟩ := h.ex
  obtain ⟨h2, vs, d, f1, f2, f3, _, _, f4⟩ := k.ex
  rw [e1] at f1
  cases f1
  rw [e2] at f2
  cases f2
  exact ⟨e3.symm.trans f3, e4.trans f4.symm⟩
structure TxOk (t : Str) : Prop where
  run : Run 13 t.cps.toList
  len : t.length ≤ 100000
def Res (H H' : Hp) (v : V) (n : Int) (L : List (List Int)) : Prop := ∃ p a xs, v = .ref p ∧ H' p = some (.tup [.int n, .ref a]) ∧ H a = none ∧ H' a = some (.lst xs) ∧ Paired (dT H') L xs
def Ref (H' : Hp) (v : V) : Prop := ∃ p, v = .ref p ∧ H' p = some (.tup [.str "refused", .bl true])
def Tld (H : Hp) (v : V) (n : Int) (L : List (List Int)) : Prop := ∃ p a xs, v = .ref p ∧ H p = some (.tup [.int n, .ref a]) ∧ H a = some (.lst xs) ∧ Paired (dT H) L xs
theorem Res.tld {H H' : Hp} {v : V} {n : Int} {L : List (List Int)} (h : Res H H' v n L) : Tld H' v n L := let ⟨p, a, xs, e, h1, _, h2, h3⟩ := h; ⟨p, a, xs, e, h1, h2, h3⟩
theorem Tld.same {H H' : Hp} {v : V} {n : Int} {L : List (List Int)} (h : Tld H v n L) (s : Same H H') : Tld H' v n L := let ⟨p, a, xs, e, h1, h2, h3⟩ := h; ⟨p, a, xs, e, s _ _ h1, s _ _ h2, pd_same (dT_same s) h3⟩
def sg1 (c : Nat) : Str := ⟨#[c]⟩
theorem sgn_map (cs : List Nat) : cs.map sgn = (cs.map sg1).map V.str := by rw [List.map_map]; rfl
theorem sg1_inj {as bs : List Nat} (h : as.map sg1 = bs.map sg1) : as = bs := by
  induction as generalizing bs with
  | nil =>
    cases bs with
    | nil => rfl
    | cons b bs => cases h
  | cons a as ih =>
    cases bs with
    | nil => cases h
    | cons b bs =>
      rw [List.map_cons, List.map_cons] at h
      injection h with h1 h2
      have : a = b := by
        have e := congrArg (fun t : Str => t.cps.toList) h1
        injection e
      rw [this, ih h2]
def sixS : List Str := ["0", "1", "2", "3", "4", "5"]
theorem first_take {n : Int} (h1 : 1 ≤ n) (h6 : n ≤ 6) : (sixS.map V.str).take n.toNat = ((firstC n).map sg1).map V.str := by
  have hc : n = 1 ∨ n = 2 ∨ n = 3 ∨ n = 4 ∨ n = 5 ∨ n = 6 := by omega
  rcases hc with rfl | rfl | rfl | rfl | rfl | rfl <;> decide +kernel
theorem join_len {sep : Str} {ws : List Str} {B : Nat} (hB : ∀ w ∈ ws, w.length ≤ B) : (Txt.join sep ws).length ≤ ws.length * B + ws.length * sep.length := by
  unfold Txt.join
  rw [StrLaws.glued_eq_join]
  refine Nat.le_trans (StrLaws.join_length_le sep ws) ?_
  have := StrLaws.sumLen_le ws hB
  omega
theorem tx_join {ws : List Str} (hB : ∀ w ∈ ws, w.length ≤ 12) (hN : ws.length ≤ 2000) : TxOk (Txt.join bl ws) := by
  refine ⟨?_, ?_⟩
  · unfold Txt.join
    rw [StrLaws.glued_eq_join]
    exact run_mono (run_join fun w hw => run_len (B := 12) (by rw [Array.length_toList]; exact hB w hw)) (by decide)
  · have := join_len (sep := bl) hB
    have e : bl.length = 1 := by decide +kernel
    rw [e] at this
    omega
theorem app_len (a b : Str) : (a ++ b).length = a.length + b.length := Str.length_append a b
theorem seq_le {z : Nat} (h : z ≤ 1000000) : z ≤ sizeLine := by rw [sizeLine_eq]; omega
theorem seq_lt {z : Nat} (h : z ≤ 1000000) : z < sizeLine := by rw [sizeLine_eq]; omega
end Bm
namespace Bm
open PySem L2
structure GlobN (mg : Str → Option Value) : Prop where
  fig : ∃ t, mg "FIGURES" = some (.str "0123456" t)
  most : ∃ t, mg "MOST_VOTERS" = some (.int 60 t)
theorem two_list {l : List Nat} (h : l.length = 2) : ∃ a b, l = [a, b] := by
  cases l with
  | nil => cases h
  | cons a l =>
    cases l with
    | nil => cases h
    | cons b l =>
      cases l with
      | nil => exact ⟨a, b, rfl⟩
      | cons c l => cases h
section
variable {P : Program} {w : World} {K : PySem.W.Frag} {mg : Str → Option Value} {base : Heap}
def spNum (er : Errs K mg) : Sp := fun vs H Q E => ∃ h : Str, vs = [.str h] ∧ h.length ≤ 5000 ∧ (∀ c, h.cps.toList = [c, 58] → Q (.int (fig c)) H) ∧ ((¬ ∃ c, h.cps.toList = [c, 58]) → E (.ref er.note) none H)
theorem sc_number_of_things : FnScope ["head"] ["head"] (defScope sNumOf) := ⟨rfl, rfl, rfl, by decide +kernel, rfl, by decide +kernel, by decide +kernel⟩
theorem ok_numOf (d : Def K mg "number_of_things" sNumOf ["head"]) (B : Blt mg) (GN : GlobN mg) (er : Errs K mg) : FnOk P w K mg base (CXr P w) 1 d.f d.fd ["head"] (spNum er) := by
  refine d.F.okR sc_number_of_things (fun vs H Q E h => ?_) (fun cdv A outer s H vs Q E hr h => ?_)
  · obtain ⟨h, rfl, _⟩ := h
    rfl
  · obtain ⟨h, rfl, hl, kq, ke⟩ := h
    obtain ⟨tF, hF⟩ := GN.fig
    have hz : h.length ≤ sizeLine := seq_le (by omega)
    refine ⟨_, pss_cons (ps_if (pw_or (pt_cmpR op_ne (pe_callB call_len_str (by rfl) B.len PySem.boot_len (pa_cons (pv 0) pa_nil)) pe_int (nomark _)) (pw_or1 (pt_cmpR op_ne (pe_ix ix_str (pv 0) pe_int (fun _ _ => rfl)) pe_str (nomark _)))).pt
        (pss_one (ps_raise raisesR rfl (by rfl) er.mnote er.knote (pa_cons pe_str pa_nil))) pss_nil)
      (pss_one (ps_ret (pe_bm PySem.F.plainAttrs_str PySem.F.slot_str_find PySem.F.type_str_find mt_find (pe_glob (v := .str "0123456") (by rfl) hF ⟨tF, rfl⟩) (pa_cons (pe_ix ix_str (pv 0) pe_int (fun _ _ => rfl)) pa_nil)))), ?_⟩
    have hlen : h.cps.toList.length = h.length := by rw [Array.length_toList]; rfl
    refine ⟨_, rfl, h, rfl, hz, rfl, _, rfl, ite2 (fun q1 => ?_) (fun q1 => ?_)⟩
    · refine ⟨(by rw [sizeLine_eq]; decide), ke ?_⟩
      rintro ⟨c, e⟩
      rw [e] at hlen
      have e2 : h.length = 2 := hlen.symm
      rw [e2] at q1
      exact absurd q1 (by decide)
    · have e2 : h.length = 2 := by
        by_cases z : h.length = 2
        · exact z
        · refine absurd ?_ q1
          rw [decide_eq_false (fun y => z (by injection y with y; omega))]
          rfl
      obtain ⟨c0, c1, e⟩ := two_list (hlen.trans e2)
      refine ⟨_, rfl, h, 1, c1, rfl, rfl, hz, by rw [e]; rfl, rfl, _, rfl, ite2 (fun q2 => ?_) (fun q2 => ?_)⟩
      · refine ⟨(by rw [sizeLine_eq]; decide), ke ?_⟩
        rintro ⟨c, e'⟩
        rw [e] at e'
        injection e' with _ e'
        injection e' with e' _
        subst e'
        exact absurd q2 (by decide)
      · have e3 : c1 = 58 := by
          by_cases z : c1 = 58
          · exact z
          · refine absurd ?_ q2
            rw [decide_eq_false (fun y => z (by
              injection y with y
              have := congrArg (fun t : Str => t.cps.toList) y
              have e4 : ((":" : Str)).cps.toList = [58] := by decide +kernel
              dsimp only at this
              rw [e4] at this
              injection this))]
            rfl
        refine ⟨rfl, _, rfl, h, 0, c0, rfl, rfl, hz, by rw [e]; rfl, _, _, rfl, rfl, ?_⟩
        rw [find_fig]
        exact kq c0 (by rw [e, e3])
end
end Bm
namespace Bm
open PySem L2
section
variable {P : Program} {w : World} {K : PySem.W.Frag} {mg : Str → Option Value} {base : Heap}
def spVoterOf : Sp := fun vs H Q _ => ∃ x : Str, vs = [.str x] ∧ x.length ≤ 5000 ∧ ∀ H' p, Same H H' → H' p = some (.tup ((figs x).map V.int)) → Q (.ref p) H'
theorem sc_voter_of : FnScope ["part"] ["part"] (defScope sVoterOf) := ⟨rfl, rfl, rfl, by decide +kernel, rfl, by decide +kernel, by decide +kernel⟩
theorem ok_voterOf (d : Def K mg "voter_of" sVoterOf ["part"]) (B : Blt mg) (GN : GlobN mg) : FnOk P w K mg base CX0 1 d.f d.fd ["part"] spVoterOf := by
  refine d.F.ok sc_voter_of (fun vs H Q E h => ?_) (fun cdv A outer s H vs Q E hr h => ?_)
  · obtain ⟨x, rfl, _⟩ := h
    rfl
  · obtain ⟨x, rfl, hl, k⟩ := h
    obtain ⟨tF, hF⟩ := GN.fig
    refine ⟨_, pss_one (ps_ret (pe_callTy call_tuple_of (by rfl) B.tuple PyProof.Rows.boot_tuple (pa_cons (pe_comp (ts := ["sign"]) (fs := []) rfl (by exact .mk' rfl (by rfl) trivial) (pi_str (pv 0))
          (by intros; exact pg_name (i := 0) (show (["sign"] : List Str).Nodup by decide +kernel) rfl (Or.inl rfl))
          (by intros; exact pts_nil)
          (by intros; exact (pe_bm PySem.F.plainAttrs_str PySem.F.slot_str_find PySem.F.type_str_find mt_find (pe_glob (v := .str "0123456") (by rfl) hF ⟨tF, rfl⟩) (pa_cons (pv 0) pa_nil)))) pa_nil))), ?_⟩
    have hsz : x.cps.size = x.length := rfl
    refine ⟨_, rfl, x, rfl, fun l fl => comp_str' (fun i acc H' => Same H H' ∧ H' l = some (.lst acc) ∧ acc = ((x.cps.toList.take i).map fig).map V.int)
      ⟨same_upd fl, upd_same, rfl⟩ (fun i acc H' _ z => z.2.1) ?_ ?_⟩
    · rintro i c acc H1 hi hlt ⟨s1, hl1, hacc⟩
      refine ⟨seq_lt (by rw [hacc, List.length_map, List.length_map, List.length_take]; omega), ⟨rfl, rfl⟩, tYes_mk ?_⟩
      refine ⟨rfl, _, rfl, _, _, rfl, rfl, hl1, Nx.mk hlt ⟨same_upd' s1 fl, upd_same, ?_⟩⟩
      have ht : x.cps.toList[i]? = some c := by rw [Array.getElem?_toList]; exact hi
      rw [List.take_add_one, ht, List.map_append, List.map_append, hacc, find_fig]
      rfl
    · rintro acc H1 ⟨s1, hl1, hacc⟩
      rw [List.take_of_length_le (by rw [Array.length_toList]; exact Nat.le_refl _)] at hacc
      subst hacc
      exact ⟨l, _, rfl, .inl ⟨SqL.of hl1, fun p fp => k _ p (s1.trans (same_upd fp)) upd_same⟩⟩
end
end Bm
namespace Bm
open PySem L2
theorem cutD (xs : List V) {e : Int} (h : 0 ≤ e) : cutV xs (some e) none = xs.drop e.toNat := by
  unfold cutV
  have e1 : HT.sIx xs.length xs.length none = xs.length := rfl
  have e2 : HT.sIx xs.length 0 (some e) = min e.toNat xs.length := by
    show (if e < 0 then (e + (xs.length : Int)).toNat else min e.toNat xs.length) = _
    rw [if_neg (by omega)]
  rw [e1, e2]
  by_cases z : e.toNat ≤ xs.length
  · rw [Nat.min_eq_left z]
    exact List.take_of_length_le (by rw [List.length_drop]; omega)
  · rw [Nat.min_eq_right (by omega), List.drop_of_length_le (Nat.le_refl _), List.drop_of_length_le (by omega), List.take_nil]
theorem map_getS {l : List Str} {i : Nat} {x : V} (h : (l.map V.str)[i]? = some x) : ∃ a, l[i]? = some a ∧ x = .str a := by
  rw [List.getElem?_map] at h
  cases e : l[i]? with
  | none => rw [e] at h; cases h
  | some a => rw [e] at h; cases h; exact ⟨a, rfl, rfl⟩
theorem at0 {α : Type} (x : α) (xs : List α) : atI (x :: xs) 0 = some x := by
  unfold atI ixN
  rw [if_pos (by decide), if_pos (by rw [List.length_cons]; omega)]
  rfl
section
variable {P : Program} {w : World} {K : PySem.W.Frag} {mg : Str → Option Value} {base : Heap}
structure Kin2 (er : Errs K mg) : Prop where
  cc : PySem.W.exmOne K (.ref er.count) (.ref er.count) = some true
  vc : PySem.W.exmOne K (.ref er.voter) (.ref er.count) = some false
  vv : PySem.W.exmOne K (.ref er.voter) (.ref er.voter) = some true
def spRead (er : Errs K mg) : Sp := fun vs H Q E => ∃ t : Str, vs = [.str t] ∧ TxOk t ∧ (∀ n L, Wr t n L → ∀ H' v, Same H H' → Res H H' v n L → Q v H') ∧ ((¬ ∃ n L, Wr t n L) → ∀ H', Same H H' → E (.ref er.note) none H')
theorem sc_read : FnScope ["text", "parts", "many", "voters"] ["text"] (defScope sRead) := ⟨rfl, rfl, rfl, by decide +kernel, rfl, by decide +kernel, by decide +kernel⟩
theorem ok_read (d : Def K mg "read" sRead ["text"]) (B : Blt mg) (GG : GlobN mg) (er : Errs K mg) (kin : Kin2 er) (dN : Def K mg "number_of_things" sNumOf ["head"]) (GN : FnOk P w K mg base (CXr P w) 1 dN.f dN.fd ["head"] (spNum er))
    (dW : Def K mg "voter_of" sVoterOf ["part"]) (GW : FnOk P w K mg base CX0 1 dW.f dW.fd ["part"] spVoterOf) (dV : Def K mg "check_voters" sCheckVoters ["many", "voters"]) (GV : FnOk P w K mg base (CXs P w) 2 dV.f dV.fd ["many", "voters"] (spCkV er)) :
    FnOk P w K mg base (CXr P w) 3 d.f d.fd ["text"] (spRead er) := by
  refine d.F.okR sc_read (fun vs H Q E h => ?_) (fun cdv A outer s H vs Q E hr h => ?_)
  · obtain ⟨t, rfl, _⟩ := h
    rfl
  · obtain ⟨t, rfl, ht, kq, ke⟩ := h
    obtain ⟨tF, hF⟩ := GG.fig
    obtain ⟨tM, hM⟩ := GG.most
    refine ⟨_, pss_cons (ps_set (i := 1) sc_read.nd rfl (Or.inl rfl) (pe_bm PySem.F.plainAttrs_str PySem.F.slot_str_split PySem.F.type_str_split mt_split (pv 0) (pa_cons pe_str pa_nil)))
      (pss_cons (ps_set (i := 2) sc_read.nd rfl (Or.inl rfl) (pe_call GN (hr.mono (by decide)) (by rfl) dN.mgf dN.F.kp dN.b .nil passR (pa_cons (pe_ix ix_list (pv 1) pe_int (fun _ _ => rfl)) pa_nil)))
      (pss_cons (ps_setC (i := 3) (ts := ["part"]) (fs := []) sc_read.nd rfl (Or.inl rfl) rfl (by exact .mk' rfl (by rfl) trivial) (pi_list (pe_slice sl_list (pv 1) (po_some pe_int) po_none))
          (by intros; exact pg_name (i := 0) (show (["part"] : List Str).Nodup by decide +kernel) rfl (Or.inl rfl))
          (by intros; exact pts_nil)
          (by intros; exact (pe_call GW (hr.mono (by decide)) (by rfl) dW.mgf dW.F.kp dW.b .nil pass0 (pa_cons (pv 0) pa_nil))))
      (pss_cons (ps_if (pt_cmpR op_gt (pe_callB call_len_seq (by rfl) B.len PySem.boot_len (pa_cons (pv 3) pa_nil)) (pe_glob (v := .int 60) (by rfl) hM ⟨tM, rfl⟩) (nomark _))
          (pss_one (ps_raise raisesR rfl (by rfl) er.mnote er.knote (pa_cons (pe_fstr3 (pe_glob (v := .int 60) (by rfl) hM ⟨tM, rfl⟩) (by rw [sizeLine_eq]; decide +kernel)) pa_nil))) pss_nil)
      (pss_cons (ps_try2 ⟨rfl, rfl, rfl⟩ (fun ea => PassesOwnAt.leaving) GV hr (by rfl) dV.mgf dV.F.kp dV.b .nil (pa_cons (pv 2) (pa_cons (pv 3) pa_nil)) (by rfl) er.mcount (by rfl) er.mvoter
          (fun ea => pss_one (ps_raiseF raisesF (by rfl) er.mnote er.knote (pa_cons pe_str pa_nil))) (fun ea => pss_one (ps_raiseF raisesF (by rfl) er.mnote er.knote (pa_cons pe_str pa_nil))))
      (pss_one (ps_ret (pe_tup (pa_cons (pv 2) (pa_cons (pv 3) pa_nil))))))))), ?_⟩
    obtain ⟨h0, ws, ew⟩ : ∃ h ws, Txt.split t bl = h :: ws := by
      cases e : Txt.split t bl with
      | nil => exact absurd e (words_ne t)
      | cons h ws => exact ⟨h, ws, rfl⟩
    have hlen := ht.len
    have hmany := words_many t
    rw [ew, List.length_cons] at hmany
    have hword : ∀ x ∈ h0 :: ws, x.length ≤ 13 := fun x hx => (words_ok ht.run x (ew ▸ hx)).1
    refine ⟨_, rfl, rfl, t, bl, rfl, rfl, by decide, seq_le (by omega), seq_le (by rw [ew, List.length_cons]; omega), fun l fl => ?_⟩
    rw [ew]
    have u0 := same_upd (o := .lst ((h0 :: ws).map V.str)) fl
    have hl0 : (upd H l (.lst ((h0 :: ws).map V.str))) l = some (.lst ((h0 :: ws).map V.str)) := upd_same
    generalize upd H l (.lst ((h0 :: ws).map V.str)) = H0 at u0 hl0
    refine ⟨_, rfl, l, _, 0, .str h0, rfl, rfl, SqL.of hl0, at0 _ _, h0, rfl, by have := hword h0 List.mem_cons_self; omega, fun c ec => ?_, fun ne => ?_⟩
    · refine ⟨_, rfl, _, rfl, l, _, rfl, SqL.of hl0, fun l1 fl1 => ?_⟩
      rw [cutD _ (by decide), show List.drop (Int.toNat 1) ((h0 :: ws).map V.str) = ws.map V.str from rfl]
      have u1 := same_upd (o := .lst (ws.map V.str)) fl1
      have hl1 : (upd H0 l1 (.lst (ws.map V.str))) l1 = some (.lst (ws.map V.str)) := upd_same
      generalize upd H0 l1 (.lst (ws.map V.str)) = H1 at u1 hl1
      refine ⟨l1, rfl, ⟨_, SqL.of hl1⟩, fun l2 fl2 => comp_list' (xs := ws.map V.str) (fun i acc H' => Same H1 H' ∧ H' l2 = some (.lst acc) ∧ Paired (dT H') ((ws.take i).map figs) acc) ⟨same_upd fl2, upd_same, .nil⟩ (fun i acc H' _ z => ⟨SqL.of (z.1 _ _ hl1), z.2.1⟩) ?_ ?_⟩
      · rintro i x acc H2 hi hlt ⟨s2, hl2, pacc⟩
        obtain ⟨x', hx', rfl⟩ := map_getS hi
        have hal := Paired.length pacc
        rw [List.length_map, List.length_take] at hal
        refine ⟨seq_lt (by omega), ⟨rfl, rfl⟩, tYes_mk ?_⟩
        refine ⟨_, rfl, x', rfl, by have := hword x' (List.mem_cons_of_mem _ (List.mem_of_getElem? hx')); omega, fun H3 p s3 hp => ⟨s3 _ _ hl2, Nx.mk hlt ⟨same_upd' (s2.trans s3) fl2, upd_same, ?_⟩⟩⟩
        have hpl : p ≠ l2 := ne_of hp (s3 _ _ hl2) (by intro z; cases z)
        rw [List.take_add_one, hx', List.map_append]
        refine pd_append (pd_same (fun b x ⟨q, e, hq⟩ => ⟨q, e, ?_⟩) pacc) (.cons ⟨p, rfl, by rw [upd_ne hpl]; exact hp⟩ .nil)
        rw [upd_ne (ne_of hq hl2 (by intro z; cases z))]
        exact s3 _ _ hq
      · rintro acc H2 ⟨s2, hl2, pacc⟩
        rw [List.take_of_length_le (by rw [List.length_map]; exact Nat.le_refl _)] at pacc
        have hal := Paired.length pacc
        rw [List.length_map] at hal
        have s02 : Same H H2 := (u0.trans u1).trans s2
        refine ⟨_, rfl, l2, acc, rfl, .inl (SqL.of hl2), _, _, rfl, rfl, _, rfl, ite2 (fun q1 => ?_) (fun q1 => ?_)⟩
        · have hbig : (60 : Int) < acc.length := of_decide_eq_true q1
          refine ⟨60, rfl, by decide +kernel, by rw [sizeLine_eq]; decide +kernel, by rw [sizeLine_eq]; decide +kernel, by rw [sizeLine_eq]; decide, ke ?_ H2 s02⟩
          rintro ⟨n, L, hW⟩
          obtain ⟨h, vs, c', e1, _, _, e4, _⟩ := hW.ex
          rw [ew] at e1
          cases e1
          omega
        · have hsm : ¬ (60 : Int) < acc.length := fun z => q1 (decide_eq_true z)
          refine ⟨_, rfl, _, rfl, fig c, l2, ws.map figs, rfl, ⟨acc, SqL.of hl2, pacc⟩, fun o ho => ?_, fun hn H3 s3 => ?_, fun hn hO H3 s3 => ?_, fun hn hO H3 s3 => ?_⟩
          · obtain ⟨x, hx, rfl⟩ := List.mem_map.mp ho
            have := hword x (List.mem_cons_of_mem _ hx)
            show (x.cps.toList.map fig).length < 64
            rw [List.length_map, Array.length_toList]
            have e : x.cps.size = x.length := rfl
            omega
          · refine .inl ⟨kin.cc, fun ea hea => ⟨(by rw [sizeLine_eq]; decide), upd_same, ke ?_ _ ((s02.trans s3).trans (same_upd hea))⟩⟩
            rintro ⟨n, L, hW⟩
            obtain ⟨h, vs, c', e1, e2, e3, _⟩ := hW.ex
            rw [ew] at e1
            cases e1
            rw [ec] at e2
            cases e2
            exact hn (by rw [e3]; exact ⟨hW.low, hW.high⟩)
          · refine .inr ⟨kin.vc, kin.vv, fun ea hea => ⟨(by rw [sizeLine_eq]; decide), upd_same, ke ?_ _ ((s02.trans s3).trans (same_upd hea))⟩⟩
            rintro ⟨n, L, hW⟩
            obtain ⟨h, vs, c', e1, e2, e3, _, e5, _⟩ := hW.ex
            rw [ew] at e1
            cases e1
            rw [ec] at e2
            cases e2
            refine hO fun o ho => ?_
            obtain ⟨x, hx, rfl⟩ := List.mem_map.mp ho
            rw [e3]
            exact e5 x hx
          · refine ⟨_, rfl, _, rfl, sz2, fun p fp => ?_⟩
            have u3 := same_upd (o := .tup [.int (fig c), .ref l2]) fp
            have fl2H : H l2 = none := (u0.trans u1).free fl2
            refine kq (fig c) (ws.map figs) ⟨⟨h0, ws, c, ew, ec, rfl, by omega, fun x hx => hO _ (List.mem_map_of_mem hx), rfl⟩, hn.1, hn.2⟩ _ _ ((s02.trans s3).trans u3) ⟨p, l2, acc, rfl, upd_same, fl2H, u3 _ _ (s3 _ _ hl2), pd_same (dT_same (s3.trans u3)) pacc⟩
    · refine ke ?_ H0 u0
      rintro ⟨n, L, hW⟩
      obtain ⟨h, vs, c, e1, e2, _⟩ := hW.ex
      rw [ew] at e1
      cases e1
      exact ne ⟨c, e2⟩
end
end Bm
namespace Bm
open PySem L2
theorem op_notInB {X : Cx} {ea : Addr} (hu : X.A.units + 1 < cLine) : OpR (X.held ea) (compareOp .NotIn) (fun x y H Q => ∃ q ys a bs, y = .ref q ∧ (SqL X.K H q ys ∨ SqT X.K H q ys) ∧ dBl H a x ∧ Paired (dBl H) bs ys ∧ Q (.bl (!decide (a ∈ bs))) H) :=
  op_notInL (X := X.held ea) eq_bool_ok dBl_inj hu
section
variable {P : Program} {w : World} {K : PySem.W.Frag} {mg : Str → Option Value} {base : Heap}
def spTold : Sp := fun vs H Q _ => ∃ t : Str, vs = [.str t] ∧ TxOk t ∧ (∀ n L, Wr t n L → ∀ H' v, Same H H' → Res H H' v n L → Q v H') ∧ ((¬ ∃ n L, Wr t n L) → ∀ H' v, Same H H' → Ref H' v → Q v H')
theorem sc_law_told : FnScope ["text", "found", "e", "flags"] ["text"] (defScope sTold) := ⟨rfl, rfl, rfl, by decide +kernel, rfl, by decide +kernel, by decide +kernel⟩
theorem ok_lawTold (d : Def K mg "_law_told" sTold ["text"]) (B : Blt mg) (hve : mg "ValueError" = none) (er : Errs K mg) (kin : Kin er) (dR : Def K mg "read" sRead ["text"]) (GR : FnOk P w K mg base (CXr P w) 3 dR.f dR.fd ["text"] (spRead er)) :
    FnOk P w K mg base CX0 4 d.f d.fd ["text"] spTold := by
  refine d.F.ok sc_law_told (fun vs H Q E h => ?_) (fun cdv A outer s H vs Q E hr h => ?_)
  · obtain ⟨t, rfl, _⟩ := h
    rfl
  · obtain ⟨t, rfl, ht, kq, ke⟩ := h
    refine ⟨_, pss_cons (ps_set (i := 1) sc_law_told.nd rfl (Or.inl rfl) pe_non)
      (pss_cons (ps_tryS (i := 2) (j := 1) ⟨rfl, rfl, rfl⟩ GR hr (by rfl) dR.mgf dR.F.kp dR.b .nil (pa_cons (pv 0) pa_nil) sc_law_told.nd rfl rfl rfl (Or.inl rfl) (by rfl) er.mbase
        (fun ea => pss_cons (ps_set (i := 3) sc_law_told.nd rfl (Or.inl rfl) (pe_lst (pa_cons (pe_callB (call_isiK (K := K) rfl) (by rfl) B.isi PyProof.Rows.boot_isinstance (pa_cons (pv 2) (pa_cons (pe_glob (v := .ref er.count) (by rfl) er.mcount rfl) pa_nil))) (pa_cons (pe_callB (call_isiK (K := K) rfl) (by rfl) B.isi PyProof.Rows.boot_isinstance (pa_cons (pv 2) (pa_cons (pe_glob (v := .ref er.voter) (by rfl) er.mvoter rfl) pa_nil)))
            (pa_cons (pe_callB (call_isiK (K := K) rfl) (by rfl) B.isi PyProof.Rows.boot_isinstance (pa_cons (pv 2) (pa_cons (pe_glob (v := .ref er.web) (by rfl) er.mweb rfl) pa_nil))) (pa_cons (pe_callB (call_isiK (K := K) rfl) (by rfl) B.isi PyProof.Rows.boot_isinstance (pa_cons (pv 2) (pa_cons (pe_glob (v := .ref er.many) (by rfl) er.mmany rfl) pa_nil))) pa_nil))))))
          (pss_one (ps_set (i := 1) sc_law_told.nd rfl (Or.inl rfl) (pe_tup (pa_cons pe_str (pa_cons (pe_and (pe_callB (call_isiK (K := K) rfl) (by rfl) B.isi PyProof.Rows.boot_isinstance (pa_cons (pv 2) (pa_cons (pe_glob (v := .ref er.note) (by rfl) er.mnote rfl) pa_nil)))
            (pe_and (pe_callB (call_isiK (K := K) rfl) (by rfl) B.isi PyProof.Rows.boot_isinstance (pa_cons (pv 2) (pa_cons (pe_bltn (v := .ty "ValueError") (by rfl) hve (by decide +kernel) rfl) pa_nil)))
              (pe_one (pe_cmpR (op_notInB (hu_of hr)) pe_bl (pv 3) (by with_unfolding_all rfl))))) pa_nil)))))))
      (pss_one (ps_ret (pv 1)))), ?_⟩
    refine ⟨_, rfl, t, rfl, ht, fun n L hW H' v s' hR => ⟨_, rfl, kq n L hW H' v s' hR⟩, fun ne H' s' => ?_⟩
    refine ⟨kin.caught 4 (by decide), fun ea hea => ?_⟩
    have u1 := same_upd (o := .ext (ExcAt ea (.ref (er.cl 4)))) hea
    refine ⟨_, rfl, ea, er.cl 4, _, .ref (er.cl 0), decide (4 = 0), rfl, upd_same, kin.at_ 4 (by decide), fun u hu => hu, kin.is 4 (by decide) 0 (by decide), ?_⟩
    refine ⟨_, rfl, ea, er.cl 4, _, .ref (er.cl 1), decide (4 = 1), rfl, upd_same, kin.at_ 4 (by decide), fun u hu => hu, kin.is 4 (by decide) 1 (by decide), ?_⟩
    refine ⟨_, rfl, ea, er.cl 4, _, .ref (er.cl 2), decide (4 = 2), rfl, upd_same, kin.at_ 4 (by decide), fun u hu => hu, kin.is 4 (by decide) 2 (by decide), ?_⟩
    refine ⟨_, rfl, ea, er.cl 4, _, .ref (er.cl 3), decide (4 = 3), rfl, upd_same, kin.at_ 4 (by decide), fun u hu => hu, kin.is 4 (by decide) 3 (by decide), ?_⟩
    refine ⟨Nat.le_of_lt (small1000 (by show 4 ≤ 1000; decide)), fun l1 fl1 => ?_⟩
    have u2 := same_upd (o := .lst [.bl (decide (4 = 0)), .bl (decide (4 = 1)), .bl (decide (4 = 2)), .bl (decide (4 = 3))]) fl1
    have hx := u2 ea _ upd_same
    refine ⟨_, rfl, ea, er.cl 4, _, .ref (er.cl 4), decide (4 = 4), rfl, hx, kin.at_ 4 (by decide), fun u hu => hu, kin.is 4 (by decide) 4 (by decide), _, rfl, ?_⟩
    rw [if_pos (by decide)]
    refine ⟨_, rfl, ea, er.cl 4, _, .type "ValueError", true, rfl, hx, kin.at_ 4 (by decide), fun u hu => hu, kin.isV 4 (by decide), _, rfl, ?_⟩
    rw [if_pos rfl]
    refine ⟨_, rfl, l1, _, true, [false, false, false, false], rfl, .inl (SqL.of upd_same), rfl, paired_bools [false, false, false, false], sz2, fun p fp => ?_⟩
    have u3 := same_upd (o := .tup [.str "refused", .bl (!decide (true ∈ [false, false, false, false]))]) fp
    exact ⟨_, rfl, ke ne _ _ (((s'.trans u1).trans u2).trans u3) ⟨p, rfl, upd_same⟩⟩
end
end Bm
namespace Bm
open PySem L2
theorem allT : ∀ {bs : List Bool}, (∀ b ∈ bs, b = true) → bs.all id = true := fun h => List.all_eq_true.mpr fun b hb => h b hb
section
variable {P : Program} {w : World} {K : PySem.W.Frag} {mg : Str → Option Value} {base : Heap}
def spRight7 : Sp := fun vs H Q _ => ∃ f u, vs = [f, u] ∧ ((u = .non ∧ Ref H f) ∨ ∃ n L, Tld H f n L ∧ Tld H u n L ∧ ∀ o ∈ L, o.length ≤ 1000) ∧ ∀ H', Same H H' → Q (.bl true) H'
theorem sc_law_right7 : FnScope ["found", "due", "voter"] ["found", "due"] (defScope sRight) := ⟨rfl, rfl, rfl, by decide +kernel, rfl, by decide +kernel, by decide +kernel⟩
theorem ok_lawRight7 (d : Def K mg "_law_right" sRight ["found", "due"]) (B : Blt mg) (dWh : Def K mg "_law_whole" sWhole ["found"]) (GWh : FnOk P w K mg base CX0 1 dWh.f dWh.fd ["found"] spWhole) :
    FnOk P w K mg base CX0 2 d.f d.fd ["found", "due"] spRight7 := by
  refine d.F.ok sc_law_right7 (fun vs H Q E h => ?_) (fun cdv A outer s H vs Q E hr h => ?_)
  · obtain ⟨f, u, rfl, _⟩ := h
    rfl
  · obtain ⟨f, u, rfl, h, k⟩ := h
    refine ⟨_, pss_cons (ps_if (pt_cmpR op_isN (pv 1) pe_non (nomark _)) (pss_one (ps_ret (pe_cmpR (op_eqT eq_sb_ok (hu_of hr)) (pv 0) (pe_tup (pa_cons pe_str (pa_cons pe_bl pa_nil))) (nomark _)))) pss_nil)
      (pss_cons (ps_if (pw_or (pt_not (pt_val (pe_callB call_isi (by rfl) B.isi PyProof.Rows.boot_isinstance (pa_cons (pv 0) (pa_cons (pe_bltn (v := .ty "tuple") (by rfl) B.tuple PyProof.Rows.boot_tuple rfl) pa_nil))))) (pw_or (pt_cmpR op_ne (pe_callB call_len_seq (by rfl) B.len PySem.boot_len (pa_cons (pv 0) pa_nil)) pe_int (nomark _)) (pw_or (pt_not (pt_val (pe_call GWh (hr.mono (by decide)) (by rfl) dWh.mgf dWh.F.kp dWh.b .nil pass0 (pa_cons (pe_ix ix_tup (pv 0) pe_int (fun _ _ => rfl)) pa_nil)))) (pw_or1 (pt_cmpR op_ne (pe_ix ix_tup (pv 0) pe_int (fun _ _ => rfl)) (pe_ix ix_tup (pv 1) pe_int (fun _ _ => rfl)) (nomark _)))))).pt pss_never pss_nil)
      (pss_cons (ps_if (pw_or (pt_not (pt_val (pe_callB call_isi (by rfl) B.isi PyProof.Rows.boot_isinstance (pa_cons (pe_ix ix_tup (pv 0) pe_int (fun _ _ => rfl)) (pa_cons (pe_bltn (v := .ty "list") (by rfl) B.list PyProof.Rows.boot_list rfl) pa_nil))))) (pw_or1 (pt_cmpR (op_neL eq_dT_ok (hu2_of hr)) (pe_ix ix_tup (pv 0) pe_int (fun _ _ => rfl)) (pe_ix ix_tup (pv 1) pe_int (fun _ _ => rfl)) (nomark _)))).pt pss_never pss_nil)
      (pss_cons (ps_for PassesOwn.never rfl (pi_list (pe_ix ix_tup (pv 0) pe_int (fun _ _ => rfl))) (pg_name (i := 2) sc_law_right7.nd rfl (Or.inl rfl))
        (pss_one (ps_if (pw_or (pt_not (pt_val (pe_callB call_isi (by rfl) B.isi PyProof.Rows.boot_isinstance (pa_cons (pv 2) (pa_cons (pe_bltn (v := .ty "tuple") (by rfl) B.tuple PyProof.Rows.boot_tuple rfl) pa_nil))))) (pw_or1 (pt_not (pt_val (pe_callB (call_allB rfl) (by rfl) B.all PyProof.Rows.boot_all (pa_cons (pe_comp (ts := ["thing"]) (fs := []) rfl (by exact .mk' rfl (by rfl) trivial) (pi_tup (pv 2))
          (by intros; exact pg_name (i := 0) (show (["thing"] : List Str).Nodup by decide +kernel) rfl (Or.inl rfl))
          (by intros; exact pts_nil)
          (by intros; exact (pe_call GWh (hr.mono (by decide)) (by rfl) dWh.mgf dWh.F.kp dWh.b .nil pass0 (pa_cons (pv 0) pa_nil)))) pa_nil)))))).pt pss_never pss_nil)))
      (pss_one (ps_ret pe_bl))))), ?_⟩
    rcases h with ⟨rfl, p, rfl, hp⟩ | ⟨n, L, ⟨p, a, xs, rfl, hp, ha, px⟩, ⟨q, b, ys, rfl, hq, hb, py⟩, hL⟩
    · refine ⟨_, rfl, rfl, _, rfl, ite2 (fun _ => ?_) (fun z => absurd (by decide) z)⟩
      refine ⟨_, rfl, sz2, fun p2 fp2 => ?_⟩
      have u := same_upd (o := .tup [.str "refused", .bl true]) fp2
      refine ⟨p, p2, _, _, [.inl "refused", .inr true], [.inl "refused", .inr true], rfl, rfl, SqT.of (u _ _ hp), SqT.of upd_same, .cons rfl (.cons rfl .nil), .cons rfl (.cons rfl .nil), ?_⟩
      rw [decide_eq_true rfl]
      exact k _ u
    · refine ⟨_, rfl, rfl, _, rfl, ite2 (fun z => absurd (of_decide_eq_true z) (by intro y; cases y)) (fun _ => ?_)⟩
      refine ⟨_, rfl, .ref p, "tuple", true, rfl, .tup_tup (SqT.of hp), true, rfl, iteF ?_⟩
      refine ⟨_, rfl, p, _, rfl, .inr (SqT.of hp), rfl, _, rfl, iteNS (by rfl) ?_⟩
      refine ⟨_, rfl, p, _, 0, .int n, rfl, rfl, SqT.of hp, rfl, n, rfl, true, rfl, iteF ?_⟩
      refine ⟨_, rfl, p, _, 0, .int n, rfl, rfl, SqT.of hp, rfl, _, rfl, q, _, 0, .int n, rfl, rfl, SqT.of hq, rfl, rfl, _, rfl, iteNS (by rfl) ?_⟩
      refine ⟨_, rfl, p, _, 1, .ref a, rfl, rfl, SqT.of hp, rfl, .ref a, "list", true, rfl, .list_list (SqL.of ha), true, rfl, iteF ?_⟩
      refine ⟨_, rfl, p, _, 1, .ref a, rfl, rfl, SqT.of hp, rfl, _, rfl, q, _, 1, .ref b, rfl, rfl, SqT.of hq, rfl, a, b, xs, ys, L, L, rfl, rfl, SqL.of ha, SqL.of hb, px, py, _, rfl, iteNS (by rfl) ?_⟩
      refine ⟨_, rfl, p, _, 1, .ref a, rfl, rfl, SqT.of hp, rfl, a, rfl, ⟨_, SqL.of ha⟩, for_list (K := K) (a := a) (xs := xs) (fun i σ H' => ∃ v, σ = [some (.ref p), some (.ref q), v] ∧ Same H H') ⟨none, rfl, Same.refl _⟩ (fun i σ H' _ z => let ⟨_, _, s2⟩ := z; SqL.of (s2 _ _ ha)) ?_ ?_⟩
      · rintro i x σ H' hi ⟨v, rfl, s2⟩
        obtain ⟨o, ho, r, rfl, hr'⟩ := paired_get px hi
        have hr2 := s2 _ _ hr'
        have hol := hL o (List.mem_of_getElem? ho)
        refine ⟨_, rfl, .ref r, "tuple", true, rfl, .tup_tup (SqT.of hr2), true, rfl, iteF ?_⟩
        refine ⟨_, rfl, r, rfl, ⟨_, SqT.of hr2⟩, fun l hl => comp_tup' (xs := o.map V.int) (fun i acc H1 => Same H' H1 ∧ H1 l = some (.lst acc) ∧ acc = (List.replicate i true).map V.bl)
          ⟨same_upd hl, upd_same, rfl⟩ (fun i acc H1 _ z => ⟨SqT.of (z.1 _ _ hr2), z.2.1⟩) ?_ ?_⟩
        · rintro j y acc H1 hj hlt ⟨s1, hl1, hacc⟩
          obtain ⟨t, ht, rfl⟩ := map_get hj
          rw [List.length_map] at hlt
          refine ⟨seq_lt (by rw [hacc, List.length_map, List.length_replicate]; omega), ⟨rfl, rfl⟩, tYes_mk ?_⟩
          refine ⟨_, rfl, t, rfl, hl1, ?_⟩
          rw [List.length_map]
          refine Nx.mk hlt ⟨same_upd' s1 hl, upd_same, ?_⟩
          rw [hacc, List.replicate_succ', List.map_append]
          rfl
        · rintro acc H1 ⟨s1, hl1, hacc⟩
          refine ⟨l, List.replicate (o.map V.int).length true, rfl, SqL.of (by rw [← hacc]; exact hl1), ?_⟩
          rw [allT fun b hb => (List.mem_replicate.mp hb).2]
          exact ⟨true, rfl, iteF ⟨_, rfl, s2.trans s1⟩⟩
      · rintro σ H' ⟨v, rfl, s2⟩
        exact k H' s2
end
end Bm
namespace Bm
open PySem L2
section
variable {P : Program} {w : World} {K : PySem.W.Frag} {mg : Str → Option Value} {base : Heap}
def spDue : Sp := fun vs H Q _ => ∃ t : Str, vs = [.str t] ∧ TxOk t ∧ (∀ n L, Wr t n L → ∀ H' v, Same H H' → Tld H' v n L → Q v H') ∧ ((¬ ∃ n L, Wr t n L) → ∀ H', Same H H' → Q .non H')
theorem sc_law_due : FnScope ["text", "words", "many", "voters", "word"] ["text"] (defScope sDue) := ⟨rfl, rfl, rfl, by decide +kernel, rfl, by decide +kernel, by decide +kernel⟩
theorem ok_lawDue (d : Def K mg "_law_due" sDue ["text"]) (B : Blt mg) : FnOk P w K mg base CX0 1 d.f d.fd ["text"] spDue := by
  refine d.F.ok sc_law_due (fun vs H Q E h => ?_) (fun cdv A outer s H vs Q E hr h => ?_)
  · obtain ⟨t, rfl, _⟩ := h
    rfl
  · obtain ⟨t, rfl, ht, kq, ke⟩ := h
    refine ⟨_, pss_cons (ps_set (i := 1) sc_law_due.nd rfl (Or.inl rfl) (pe_bm PySem.F.plainAttrs_str PySem.F.slot_str_split PySem.F.type_str_split mt_split (pv 0) (pa_cons pe_str pa_nil)))
      (pss_cons (ps_if (pw_or (pt_cmpR op_ne (pe_callB call_len_str (by rfl) B.len PySem.boot_len (pa_cons (pe_ix ix_list (pv 1) pe_int (fun _ _ => rfl)) pa_nil)) pe_int (nomark _)) (pw_or (pt_cmpR op_notIn_str (pe_ix ix_str (pe_ix ix_list (pv 1) pe_int (fun _ _ => rfl)) pe_int (fun _ _ => rfl)) pe_str (by with_unfolding_all rfl)) (pw_or (pt_cmpR op_ne (pe_ix ix_str (pe_ix ix_list (pv 1) pe_int (fun _ _ => rfl)) pe_int (fun _ _ => rfl)) pe_str (nomark _)) (pw_or1 (pt_cmpR op_gt (pe_callB call_len_seq (by rfl) B.len PySem.boot_len (pa_cons (pv 1) pa_nil)) pe_int (nomark _)))))).pt (pss_one (ps_ret pe_non)) pss_nil)
      (pss_cons (ps_set (i := 2) sc_law_due.nd rfl (Or.inl rfl) (pe_bm PySem.F.plainAttrs_str PySem.F.slot_str_index PySem.F.type_str_index mt_indexS pe_str (pa_cons (pe_ix ix_str (pe_ix ix_list (pv 1) pe_int (fun _ _ => rfl)) pe_int (fun _ _ => rfl)) pa_nil)))
      (pss_cons (ps_set (i := 3) sc_law_due.nd rfl (Or.inl rfl) (pe_lst pa_nil))
      (pss_cons (ps_for PassesOwn.never rfl (pi_list (pe_slice sl_list (pv 1) (po_some pe_int) po_none)) (pg_name (i := 4) sc_law_due.nd rfl (Or.inl rfl))
        (pss_cons (ps_if (pt_cmpR (op_neL eq_str_ok (hu_of hr)) (pe_callB (call_sortedS rfl) (by rfl) B.sorted PyProof.Rows.boot_sorted (pa_cons (pv 4) pa_nil)) (pe_slice sl_list (pe_lst (pa_strs (xs := sixS) (by rfl))) po_none (po_some (pv 2))) (nomark _)) (pss_one (ps_ret pe_non)) pss_nil)
        (pss_one (ps_expr (pe_bm PySem.F.plainAttrs_list PySem.F.slot_list_append PySem.F.type_list_append mt_append (pv 3) (pa_cons (pe_callTy call_tuple_of (by rfl) B.tuple PyProof.Rows.boot_tuple (pa_cons (pe_comp (ts := ["sign"]) (fs := []) rfl (by exact .mk' rfl (by rfl) trivial) (pi_str (pv 4))
          (by intros; exact pg_name (i := 0) (show (["sign"] : List Str).Nodup by decide +kernel) rfl (Or.inl rfl))
          (by intros; exact pts_nil)
          (by intros; exact (pe_bm PySem.F.plainAttrs_str PySem.F.slot_str_index PySem.F.type_str_index mt_indexS pe_str (pa_cons (pv 0) pa_nil)))) pa_nil)) pa_nil))))))
      (pss_one (ps_ret (pe_tup (pa_cons (pv 2) (pa_cons (pv 3) pa_nil))))))))), ?_⟩
    obtain ⟨h0, ws, ew⟩ : ∃ h ws, Txt.split t bl = h :: ws := by
      cases e : Txt.split t bl with
      | nil => exact absurd e (words_ne t)
      | cons h ws => exact ⟨h, ws, rfl⟩
    have hlen := ht.len
    have hmany := words_many t
    rw [ew, List.length_cons] at hmany
    have hword : ∀ x ∈ h0 :: ws, x.length ≤ 13 := fun x hx => (words_ok ht.run x (ew ▸ hx)).1
    have hz : h0.length ≤ sizeLine := seq_le (by have := hword h0 List.mem_cons_self; omega)
    have hlen0 : h0.cps.toList.length = h0.length := by rw [Array.length_toList]; rfl
    have no : ∀ {C : Prop}, (∀ n L c, h0.cps.toList = [c, 58] → fig c = n → 1 ≤ n → n ≤ 6 → ws.length ≤ 60 → (∀ x ∈ ws, (figs x).Perm (rangeI n)) → L = ws.map figs → C) → (∃ n L, Wr t n L) → C := by
      rintro C k ⟨n, L, hW⟩
      obtain ⟨h, vs, c, e1, e2, e3, e4, e5, e6⟩ := hW.ex
      rw [ew] at e1
      cases e1
      exact k n L c e2 e3 hW.low hW.high e4 e5 e6
    refine ⟨_, rfl, rfl, t, bl, rfl, rfl, by decide, seq_le (by omega), seq_le (by rw [ew, List.length_cons]; omega), fun l fl => ?_⟩
    rw [ew]
    have u0 := same_upd (o := .lst ((h0 :: ws).map V.str)) fl
    have hl0 : (upd H l (.lst ((h0 :: ws).map V.str))) l = some (.lst ((h0 :: ws).map V.str)) := upd_same
    generalize upd H l (.lst ((h0 :: ws).map V.str)) = H0 at u0 hl0
    refine ⟨_, rfl, l, _, 0, .str h0, rfl, rfl, SqL.of hl0, at0 _ _, h0, rfl, hz, rfl, _, rfl, ite2 (fun q1 => ?_) (fun q1 => ?_)⟩
    · refine ke (no fun n L c e _ _ _ _ _ _ => ?_) H0 u0
      rw [e] at hlen0
      have e2 : h0.length = 2 := hlen0.symm
      rw [e2] at q1
      exact absurd q1 (by decide)
    have e2 : h0.length = 2 := by
      by_cases z : h0.length = 2
      · exact z
      · refine absurd ?_ q1
        rw [decide_eq_false (fun y => z (by injection y with y; omega))]
        rfl
    obtain ⟨c0, c1, e⟩ := two_list (hlen0.trans e2)
    refine ⟨_, rfl, l, _, 0, .str h0, rfl, rfl, SqL.of hl0, at0 _ _, h0, 0, c0, rfl, rfl, hz, by rw [e]; rfl, ⟨#[c0]⟩, "123456", rfl, rfl, _, rfl, ?_⟩
    rw [in6, Bool.not_not]
    refine ite2 (fun q2 => ?_) (fun q2 => ?_)
    · refine ke (no fun n L c e' ec h1 h6 _ _ _ => ?_) H0 u0
      rw [e] at e'
      cases e'
      rw [decide_eq_true (by rw [ec]; exact ⟨h1, h6⟩)] at q2
      exact absurd q2 (by decide)
    have hn : 1 ≤ fig c0 ∧ fig c0 ≤ 6 := by
      by_cases z : 1 ≤ fig c0 ∧ fig c0 ≤ 6
      · exact z
      · exact absurd (by rw [decide_eq_false z]; rfl) q2
    refine ⟨_, rfl, l, _, 0, .str h0, rfl, rfl, SqL.of hl0, at0 _ _, h0, 1, c1, rfl, rfl, hz, by rw [e]; rfl, rfl, _, rfl, ite2 (fun q3 => ?_) (fun q3 => ?_)⟩
    · refine ke (no fun n L c e' _ _ _ _ _ _ => ?_) H0 u0
      rw [e] at e'
      cases e'
      exact absurd q3 (by decide)
    have e3 : c1 = 58 := by
      by_cases z : c1 = 58
      · exact z
      · refine absurd ?_ q3
        rw [decide_eq_false (fun y => z (by
          injection y with y
          have := congrArg (fun t : Str => t.cps.toList) y
          have e4 : ((":" : Str)).cps.toList = [58] := by decide +kernel
          dsimp only at this
          rw [e4] at this
          injection this))]
        rfl
    subst e3
    refine ⟨_, rfl, l, _, rfl, .inl (SqL.of hl0), _, _, rfl, rfl, _, rfl, ite2 (fun q4 => ?_) (fun q4 => ?_)⟩
    · have hbig : (61 : Int) < ((h0 :: ws).map V.str).length := of_decide_eq_true q4
      rw [List.length_map, List.length_cons] at hbig
      exact ke (no fun n L c _ _ _ _ h _ _ => by omega) H0 u0
    have hws : ws.length ≤ 60 := by
      by_cases z : (61 : Int) < ((h0 :: ws).map V.str).length
      · exact absurd (decide_eq_true z) q4
      · rw [List.length_map, List.length_cons] at z
        omega
    have h49 : 49 ≤ c0 ∧ c0 ≤ 54 := by
      have := fig_inv (c := c0) (by omega)
      omega
    obtain ⟨i0, rest, hocc, hi0⟩ := idx7 h49
    refine ⟨rfl, _, rfl, l, _, 0, .str h0, rfl, rfl, SqL.of hl0, at0 _ _, h0, 0, c0, rfl, rfl, hz, by rw [e]; rfl, _, _, i0, rest, rfl, rfl, hocc, ?_⟩
    rw [hi0]
    generalize hN : fig c0 = n at hn
    refine ⟨Nat.zero_le _, fun vo fvo => ?_⟩
    have u1 := same_upd (o := .lst []) fvo
    have hl1 := u1 _ _ hl0
    have hvo1 : (upd H0 vo (.lst [])) vo = some (.lst []) := upd_same
    have fvoH : H vo = none := u0.free fvo
    have nel : l ≠ vo := ne_of_none hl0 fvo
    generalize upd H0 vo (.lst []) = H1 at u1 hl1 hvo1
    refine ⟨_, rfl, _, rfl, l, _, rfl, SqL.of hl1, fun l1 fl1 => ?_⟩
    rw [cutD _ (by decide), show List.drop (Int.toNat 1) ((h0 :: ws).map V.str) = ws.map V.str from rfl]
    have u2 := same_upd (o := .lst (ws.map V.str)) fl1
    have hl2 : (upd H1 l1 (.lst (ws.map V.str))) l1 = some (.lst (ws.map V.str)) := upd_same
    have hvo2 := u2 _ _ hvo1
    have nel1 : l1 ≠ vo := (ne_of_none hvo1 fl1).symm
    generalize upd H1 l1 (.lst (ws.map V.str)) = H2 at u2 hl2 hvo2
    have s02 : Same H H2 := (u0.trans u1).trans u2
    refine ⟨l1, rfl, ⟨_, SqL.of hl2⟩, for_list (K := K) (a := l1) (xs := ws.map V.str) (fun i σ H' => ∃ (acc : List V) (v4 : Option V), σ = [some (.str t), some (.ref l), some (.int n), some (.ref vo), v4] ∧ (∀ b u, H2 b = some u → b ≠ vo → H' b = some u) ∧ H' vo = some (.lst acc) ∧ Paired (dT H') ((ws.take i).map figs) acc ∧ ∀ x ∈ ws.take i, (figs x).Perm (rangeI n))
      ⟨[], none, rfl, fun _ _ z _ => z, hvo2, .nil, fun x hx => absurd hx (by simp)⟩ (by rintro i σ H' _ ⟨_, _, _, sb, _⟩; exact SqL.of (sb _ _ hl2 nel1)) ?_ ?_⟩
    · rintro i x σ H3 hi ⟨acc, v4, rfl, sb, hvo3, pacc, hperm⟩
      obtain ⟨x', hx', rfl⟩ := map_getS hi
      have hxm : x' ∈ ws := List.mem_of_getElem? hx'
      have hxl := hword x' (List.mem_cons_of_mem _ hxm)
      have hxs : x'.cps.size = x'.length := rfl
      have sH3 : Same H H3 := fun b u hb => sb _ _ (s02 _ _ hb) (ne_of_none hb fvoH)
      refine ⟨_, rfl, x', rfl, by omega, fun ls cs fls hcp hcs => ?_⟩
      have v1 := same_upd (o := .lst (cs.map sgn)) fls
      refine ⟨seq_le (by decide), fun l6 fl6 => ?_⟩
      have v2 := same_upd (o := .lst (sixS.map V.str)) fl6
      refine ⟨_, rfl, _, rfl, l6, _, rfl, SqL.of upd_same, fun l7 fl7 => ?_⟩
      rw [cut_take _ (by omega), first_take hn.1 hn.2]
      have v3 := same_upd (o := .lst (((firstC n).map sg1).map V.str)) fl7
      have hls : (upd H3 ls (.lst (cs.map sgn))) ls = some (.lst ((cs.map sg1).map V.str)) := by rw [upd_same, sgn_map]
      have v13 := (v1.trans v2).trans v3
      refine ⟨ls, l7, _, _, cs.map sg1, (firstC n).map sg1, rfl, rfl, SqL.of ((v2.trans v3) _ _ hls), SqL.of upd_same, paired_strs _, paired_strs _, _, rfl, ite2 (fun q5 => ?_) (fun q5 => ?_)⟩
      · refine ke (no fun m L c e' ec _ _ _ hp _ => ?_) _ (sH3.trans v13)
        rw [e] at e'
        cases e'
        have hp' := hp x' hxm
        rw [← ec, hN] at hp'
        have hcs' : cs = firstC n := (sorted_figs hn.1 hn.2 hcp hcs).mpr hp'
        rw [hcs', decide_eq_true rfl] at q5
        exact absurd q5 (by decide)
      · have hcs' : cs = firstC n := by
          by_cases z : cs.map sg1 = (firstC n).map sg1
          · exact sg1_inj z
          · exact absurd (by rw [decide_eq_false z]; rfl) q5
        have hp' : (figs x').Perm (rangeI n) := (sorted_figs hn.1 hn.2 hcp hcs).mp hcs'
        have hvo4 := v13 _ _ hvo3
        have pacc4 := pd_same (dT_same v13) pacc
        generalize upd (upd (upd H3 ls (.lst (cs.map sgn))) l6 (.lst (sixS.map V.str))) l7 (.lst (((firstC n).map sg1).map V.str)) = H4 at v13 hvo4 pacc4
        refine ⟨_, rfl, .inl ⟨rfl, _, SqL.of hvo4⟩, _, rfl, x', rfl, fun lc flc => comp_str' (fun i acc H' => Same H4 H' ∧ H' lc = some (.lst acc) ∧ acc = ((x'.cps.toList.take i).map fig).map V.int)
          ⟨same_upd flc, upd_same, rfl⟩ (fun i acc H' _ z => z.2.1) ?_ ?_⟩
        · rintro j c ac H5 hj hlt ⟨s5, hl5, hac⟩
          have ht' : x'.cps.toList[j]? = some c := by rw [Array.getElem?_toList]; exact hj
          have hm := rangeK_mem.mp (hp'.mem_iff.mp (List.mem_map_of_mem (f := fig) (List.mem_of_getElem? ht')))
          have hinv := fig_inv (c := c) (by omega)
          obtain ⟨ic, restc, hoc, hic⟩ := idx6 (c := c) (by omega)
          refine ⟨seq_lt (by rw [hac, List.length_map, List.length_map, List.length_take]; omega), ⟨rfl, rfl⟩, tYes_mk ?_⟩
          refine ⟨rfl, _, rfl, _, _, ic, restc, rfl, rfl, hoc, hl5, Nx.mk hlt ⟨same_upd' s5 flc, upd_same, ?_⟩⟩
          rw [List.take_add_one, ht', List.map_append, List.map_append, hac, hic]
          rfl
        · rintro ac H5 ⟨s5, hl5, hac⟩
          rw [List.take_of_length_le (by rw [Array.length_toList]; exact Nat.le_refl _)] at hac
          subst hac
          refine ⟨lc, _, rfl, .inl ⟨SqL.of hl5, fun p fp => ?_⟩⟩
          have v5 := same_upd (o := .tup ((x'.cps.toList.map fig).map V.int)) fp
          have hvo5 := (s5.trans v5) _ _ hvo4
          have hal := Paired.length pacc4
          rw [List.length_map, List.length_take] at hal
          have npv : p ≠ vo := (ne_of_none (s5 _ _ hvo4) fp).symm
          refine ⟨vo, acc, _, rfl, rfl, hvo5, seq_lt (by omega), acc ++ [.ref p], _, rfl, fun b u hb nb => ?_, upd_same, ?_, fun y hy => ?_⟩
          · rw [upd_ne nb]
            exact (s5.trans v5) _ _ (v13 _ _ (sb b u hb nb))
          · rw [List.take_add_one, hx', List.map_append]
            refine pd_append (pd_same (by rintro _ _ ⟨q, eq, hq⟩; exact ⟨q, eq, by rw [upd_ne (ne_of hq hvo4 (by intro z; cases z))]; exact (s5.trans v5) _ _ hq⟩) pacc4) (.cons ⟨p, rfl, ?_⟩ .nil)
            rw [upd_ne npv, upd_same]
            rfl
          · rcases take_succ_mem hx' hy with z | rfl
            · exact hperm y z
            · exact hp'
    · rintro σ H3 ⟨acc, v4, rfl, sb, hvo3, pacc, hperm⟩
      rw [List.take_of_length_le (by rw [List.length_map]; exact Nat.le_refl _)] at pacc hperm
      have sH3 : Same H H3 := fun b u hb => sb _ _ (s02 _ _ hb) (ne_of_none hb fvoH)
      refine ⟨_, rfl, _, rfl, sz2, fun p fp => ?_⟩
      have v5 := same_upd (o := .tup [.int n, .ref vo]) fp
      exact kq n (ws.map figs) ⟨⟨h0, ws, c0, ew, e, hN, hws, hperm, rfl⟩, hn.1, hn.2⟩ _ _ (sH3.trans v5) ⟨p, vo, acc, rfl, upd_same, v5 _ _ hvo3, pd_same (dT_same v5) pacc⟩
end
end Bm
namespace Bm
open PySem L2
def odds1 : List Str := ["", ":", "3", "0:", "7:", "7: 0123456", "3:012", "3: ", "3: 01", "3: 0123", "3: 011", "3: 123"]
def odds2 : List Str := ["03: 012", "3 : 012", "3:  012", "1: 0 0 0", " 3: 012"]
def odds : List Str := odds1 ++ odds2
theorem odds_short : ∀ x ∈ odds, x.cps.toList.length ≤ 13 := by decide +kernel
theorem odds_ok {x : Str} (h : x ∈ odds) : TxOk x := ⟨run_len (odds_short x h), by
  have := odds_short x h
  rw [Array.length_toList] at this
  have e : x.cps.size = x.length := rfl
  omega⟩
theorem at_mod {α : Type} {xs : List α} {c m : Int} (hm : (xs.length : Int) = m) (h0 : 0 < m) : ∃ x ∈ xs, atI xs (c % m) = some x := by
  have h1 := Int.emod_nonneg c (show m ≠ 0 by omega)
  have h2 := Int.emod_lt_of_pos c h0
  have hj : (c % m).toNat < xs.length := by omega
  refine ⟨xs[(c % m).toNat], List.getElem_mem hj, ?_⟩
  have e : ((c % m).toNat : Int) = c % m := by omega
  have := atI_nat (List.getElem?_eq_getElem hj)
  rwa [e] at this
section
variable {P : Program} {w : World} {K : PySem.W.Frag} {mg : Str → Option Value} {base : Heap}
def spTx1 : Sp := fun vs H Q _ => ∃ c : Int, vs = [.int c] ∧ ∀ t H', TxOk t → Same H H' → Q (.str t) H'
theorem sc_law_odd : FnScope ["cell", "some"] ["cell"] (defScope sOdd) := ⟨rfl, rfl, rfl, by decide +kernel, rfl, by decide +kernel, by decide +kernel⟩
theorem odd_go (d : Def K mg "_law_odd" sOdd ["cell"]) (B : Blt mg) {cdv : Value} {A : Around} {outer : List Env} {s : Shared} {H : Hp} {Q : VK} {E : XK} {c : Int} (k : ∀ t H', TxOk t → Same H H' → Q (.str t) H') {b : List Stmt} {es1 es2 : List Expr} {p1 p2 p3 p4 p5 p6 p7 p8 p9 p10 p11 : Pos} {j}
    (hb : b = [.Assign [.Name "some" p1] (.List es1 p2) p3, .Return (some (.Subscript (.BinOp (.Name "some" p4) .Add (.List es2 p5) p6) (.BinOp (.Name "cell" p7) .Mod (.Constant (.int 17) j p8) p9) p10)) p11]) (h1 : allStr es1 = some odds1) (h2 : allStr es2 = some odds2) :
    ∃ t, PSs (cxOf CX0 P w K mg base ["cell", "some"] "_law_odd" (defScope sOdd) d.f cdv A outer s H E).nox b t ∧ t { nx := fun _ H' => Q .non H', rt := Q } (L2.start ["cell", "some"] [.int c]) H := by
  subst hb
  refine ⟨_, pss_cons (ps_set (i := 1) sc_law_odd.nd rfl (Or.inl rfl) (pe_lst (pa_strs (xs := odds1) h1)))
    (pss_one (ps_ret (pe_ix ix_list (pe_op op_cat (pv 1) (pe_lst (pa_strs (xs := odds2) h2))) (pe_op op_mod (pv 0) pe_int) (fun _ _ => rfl)))), ?_⟩
  refine ⟨seq_le (by decide), fun l fl => ?_⟩
  have u1 := same_upd (o := .lst (odds1.map V.str)) fl
  refine ⟨_, rfl, seq_le (by decide), fun l2 fl2 => ?_⟩
  have u2 := same_upd (o := .lst (odds2.map V.str)) fl2
  refine ⟨l, l2, _, _, rfl, rfl, u2 _ _ upd_same, upd_same, seq_le (by decide), fun l3 fl3 => ?_⟩
  rw [← List.map_append]
  have u3 := same_upd (o := .lst (odds.map V.str)) fl3
  obtain ⟨v, hv, ha⟩ := at_mod (xs := odds.map V.str) (c := c) (m := 17) rfl (by decide)
  obtain ⟨x, hx, rfl⟩ := List.mem_map.mp hv
  exact ⟨_, rfl, _, _, rfl, rfl, (by show (0 : Int) < 17; decide), l3, _, _, .str x, rfl, rfl, SqL.of upd_same, ha, k x _ (odds_ok hx) ((u1.trans u2).trans u3)⟩
theorem ok_lawOdd (d : Def K mg "_law_odd" sOdd ["cell"]) (B : Blt mg) : FnOk P w K mg base CX0 1 d.f d.fd ["cell"] spTx1 := by
  refine d.F.ok sc_law_odd (fun vs H Q E h => ?_) (fun cdv A outer s H vs Q E hr h => ?_)
  · obtain ⟨c, rfl, _⟩ := h
    rfl
  · obtain ⟨c, rfl, k⟩ := h
    exact odd_go d B k (b := defBody sOdd) rfl rfl rfl
end
end Bm
namespace Bm
open PySem L2
theorem slice_len (x : Str) (lo hi : Option Int) : (Txt.slice x lo hi).length ≤ x.length := Txt.slice_le x lo hi
theorem at_str {W : List Str} {e : Int} (h0 : 0 ≤ e) (h : e < W.length) : ∃ x ∈ W, atI (W.map V.str) e = some (.str x) := by
  have hj : e.toNat < W.length := by omega
  have ej : (e.toNat : Int) = e := by omega
  refine ⟨W[e.toNat], List.getElem_mem hj, ?_⟩
  have := atI_nat (xs := W.map V.str) (j := e.toNat) (v := .str W[e.toNat]) (by rw [List.getElem?_map, List.getElem?_eq_getElem hj]; rfl)
  rwa [ej] at this
section
variable {P : Program} {w : World} {K : PySem.W.Frag} {mg : Str → Option Value} {base : Heap}
def spSpoiled : Sp := fun vs H Q _ => ∃ (t : Str) (way cell other : Int), vs = [.str t, .int way, .int cell, .int other] ∧ Run 6 t.cps.toList ∧ t.length ≤ 900 ∧ ∀ x H', TxOk x → Same H H' → Q (.str x) H'
def SpI (t : Str) (way cell other at' spot : Int) (sg : Str) (l : Addr) (W : List Str) (H : Hp) (k : Int) (σ : L2.St) (H' : Hp) : Prop :=
  ∃ (l' : Addr) (W' : List Str), σ = [some (.str t), some (.int way), some (.int cell), some (.int other), some (.str sg), some (.int at'), some (.ref l'), some (.int spot)] ∧ Same H H' ∧ H' l' = some (.lst (W'.map V.str)) ∧ (∀ x ∈ W', x.length ≤ 12) ∧ W'.length ≤ 2000 ∧ (k ≤ way → l' = l ∧ W' = W)
theorem sc_law_spoiled : FnScope ["text", "way", "cell", "other", "sign", "at", "words", "spot"] ["text", "way", "cell", "other"] (defScope sSpoiled) := ⟨rfl, rfl, rfl, by decide +kernel, rfl, by decide +kernel, by decide +kernel⟩
theorem ok_lawSpoiled (d : Def K mg "_law_spoiled" sSpoiled ["text", "way", "cell", "other"]) (B : Blt mg) : FnOk P w K mg base CX0 1 d.f d.fd ["text", "way", "cell", "other"] spSpoiled := by
  refine d.F.ok sc_law_spoiled (fun vs H Q E h => ?_) (fun cdv A outer s H vs Q E hr h => ?_)
  · obtain ⟨t, way, cell, other, rfl, _⟩ := h
    rfl
  · obtain ⟨t, way, cell, other, rfl, hR, hL, k⟩ := h
    refine ⟨_, pss_cons (ps_set (i := 4) sc_law_spoiled.nd rfl (Or.inl rfl) (pe_ix ix_str pe_str (pe_op op_mod (pv 3) pe_int) (fun _ _ => rfl)))
      (pss_cons (ps_set (i := 5) sc_law_spoiled.nd rfl (Or.inl rfl) (pe_op op_mod (pv 2) (pe_op op_add (pe_callB call_len_str (by rfl) B.len PySem.boot_len (pa_cons (pv 0) pa_nil)) pe_int)))
      (pss_cons (ps_set (i := 6) sc_law_spoiled.nd rfl (Or.inl rfl) (pe_bm PySem.F.plainAttrs_str PySem.F.slot_str_split PySem.F.type_str_split mt_split (pv 0) (pa_cons pe_str pa_nil)))
      (pss_cons (ps_set (i := 7) sc_law_spoiled.nd rfl (Or.inl rfl) (pe_op op_mod (pv 2) (pe_callB call_len_seq (by rfl) B.len PySem.boot_len (pa_cons (pv 6) pa_nil))))
      (pss_cons (ps_if (pt_cmpR op_eq (pv 1) pe_int (nomark _)) (pss_one (ps_ret (pe_op op_add_str (pe_op op_add_str (pe_slice sl_str (pv 0) po_none (po_some (pv 5))) (pv 4)) (pe_slice sl_str (pv 0) (po_some (pv 5)) po_none)))) pss_nil)
      (pss_cons (ps_if (pt_cmpR op_eq (pv 1) pe_int (nomark _)) (pss_one (ps_ret (pe_op op_add_str (pe_op op_add_str (pe_slice sl_str (pv 0) po_none (po_some (pv 5))) (pv 4)) (pe_slice sl_str (pv 0) (po_some (pe_op op_add (pv 5) pe_int)) po_none)))) pss_nil)
      (pss_cons (ps_if (pt_cmpR op_eq (pv 1) pe_int (nomark _)) (pss_one (ps_ret (pe_op op_add_str (pe_slice sl_str (pv 0) po_none (po_some (pv 5))) (pe_slice sl_str (pv 0) (po_some (pe_op op_add (pv 5) pe_int)) po_none)))) pss_nil)
      (pss_cons (ps_cut (ps_if (pt_cmpR op_eq (pv 1) pe_int (nomark _)) (pss_one (ps_set (i := 6) sc_law_spoiled.nd rfl (Or.inl rfl) (pe_op op_cat (pe_slice sl_list (pv 6) po_none (po_some (pv 7))) (pe_slice sl_list (pv 6) (po_some (pe_op op_add (pv 7) pe_int)) po_none)))) pss_nil))
      (pss_cons (ps_cut (ps_if (pt_cmpR op_eq (pv 1) pe_int (nomark _)) (pss_one (ps_set (i := 6) sc_law_spoiled.nd rfl (Or.inl rfl) (pe_op op_cat (pe_slice sl_list (pv 6) po_none (po_some (pe_op op_add (pv 7) pe_int))) (pe_slice sl_list (pv 6) (po_some (pv 7)) po_none)))) pss_nil))
      (pss_cons (ps_cut (ps_if (pt_cmpR op_eq (pv 1) pe_int (nomark _)) (pss_one (ps_asg (pe_bm PySem.F.plainAttrs_str PySem.F.slot_str_join PySem.F.type_str_join mt_join pe_str (pa_cons (pe_comp (ts := ["sign"]) (fs := []) rfl (by exact .mk' rfl (by rfl) trivial) (pi_revS (by rfl) B.reversed (pe_ix ix_list (pv 6) (pv 7) (fun _ _ => rfl)))
          (by intros; exact pg_name (i := 0) (show (["sign"] : List Str).Nodup by decide +kernel) rfl (Or.inl rfl))
          (by intros; exact pts_nil)
          (by intros; exact (pv 0))) pa_nil)) (pg_sub (pv 6) (pv 7) set_list))) pss_nil))
      (pss_cons (ps_cut (ps_if (pt_cmpR op_eq (pv 1) pe_int (nomark _)) (pss_one (ps_asg (pe_op op_add_str (pe_slice sl_str (pe_ix ix_list (pv 6) (pv 7) (fun _ _ => rfl)) po_none (po_some pe_int)) (pe_ix ix_list (pv 6) (pv 7) (fun _ _ => rfl))) (pg_sub (pv 6) (pv 7) set_list))) pss_nil))
      (pss_cons (ps_cut (ps_if (pt_cmpR op_eq (pv 1) pe_int (nomark _)) (pss_one (ps_set (i := 6) sc_law_spoiled.nd rfl (Or.inl rfl) (pe_op op_cat (pe_slice sl_list (pv 6) po_none (po_some pe_int)) (pe_slice sl_list (pe_op op_rep (pe_slice sl_list (pv 6) (po_some pe_int) po_none) pe_int) po_none (po_some (pe_op op_add pe_int (pe_op op_mod (pv 3) pe_int))))))) pss_nil))
      (pss_one (ps_ret (pe_bm PySem.F.plainAttrs_str PySem.F.slot_str_join PySem.F.type_str_join mt_join pe_str (pa_cons (pv 6) pa_nil))))))))))))))), ?_⟩
    have hz : t.length ≤ sizeLine := seq_le (by omega)
    -- sign
    obtain ⟨c, _, hc⟩ := at_mod (xs := ("0123456789 :-a+_\n" : Str).cps.toList) (c := other) (m := 17) (by decide +kernel) (by decide)
    refine ⟨_, rfl, _, _, rfl, rfl, (by show (0 : Int) < 17; decide), _, _, c, rfl, rfl, seq_le (by decide +kernel), hc, ?_⟩
    -- at
    refine ⟨_, rfl, _, rfl, t, rfl, hz, _, _, rfl, rfl, _, _, rfl, rfl, by omega, ?_⟩
    dsimp only
    generalize cell % ((t.length : Int) + 1) = at'
    -- words
    have hmany := words_many t
    refine ⟨_, rfl, rfl, t, bl, rfl, rfl, by decide, hz, seq_le (by omega), fun l fl => ?_⟩
    have hW0 : ∀ x ∈ Txt.split t bl, x.length ≤ 6 := fun x hx => (words_ok hR x hx).1
    have hne : 0 < (Txt.split t bl).length := List.length_pos_iff.mpr (words_ne t)
    generalize Txt.split t bl = W at hmany hW0 hne
    have u0 := same_upd (o := .lst (W.map V.str)) fl
    have hl0 : (upd H l (.lst (W.map V.str))) l = some (.lst (W.map V.str)) := upd_same
    generalize upd H l (.lst (W.map V.str)) = H0 at u0 hl0
    -- spot
    have hWl : ((W.map V.str).length : Int) = W.length := by rw [List.length_map]
    refine ⟨_, rfl, _, rfl, l, _, rfl, .inl (SqL.of hl0), _, _, rfl, rfl, by omega, ?_⟩
    dsimp only
    rw [hWl]
    obtain ⟨spot, es, s0, s1⟩ : ∃ x : Int, cell % (W.length : Int) = x ∧ 0 ≤ x ∧ x < W.length := ⟨_, rfl, Int.emod_nonneg _ (by omega), Int.emod_lt_of_pos _ (by omega)⟩
    rw [es]
    have hs1 : (sg1 c).cps.toList.length ≤ 1 := Nat.le_refl 1
    have hsl : (sg1 c).length = 1 := rfl
    have sl := fun lo hi => slice_len t lo hi
    -- the first three
    refine ⟨_, rfl, rfl, _, rfl, ite2 (fun _ => ?_) (fun _ => ?_)⟩
    · have a1 := sl none (some at')
      have a2 := sl (some at') none
      refine ⟨_, rfl, _, rfl, _, rfl, t, rfl, hz, _, rfl, _, _, rfl, rfl, seq_le (by show _ + 1 ≤ _; omega), _, rfl, _, rfl, _, rfl, t, rfl, hz, _, _, rfl, rfl, seq_le (by rw [app_len]; show _ + 1 + _ ≤ _; omega), k _ _ ⟨?_, ?_⟩ u0⟩
      · rw [app_cps, app_cps]
        exact run_append (run_append (run_slice hR _ _) (run_len hs1)) (run_slice hR _ _)
      · rw [app_len, app_len]
        show _ + 1 + _ ≤ _
        omega
    refine ⟨_, rfl, rfl, _, rfl, ite2 (fun _ => ?_) (fun _ => ?_)⟩
    · have a1 := sl none (some at')
      have a2 := sl (some (at' + 1)) none
      refine ⟨_, rfl, _, rfl, _, rfl, t, rfl, hz, _, rfl, _, _, rfl, rfl, seq_le (by show _ + 1 ≤ _; omega), _, rfl, _, rfl, _, _, rfl, rfl, _, rfl, t, rfl, hz, _, _, rfl, rfl, seq_le (by rw [app_len]; show _ + 1 + _ ≤ _; omega), k _ _ ⟨?_, ?_⟩ u0⟩
      · rw [app_cps, app_cps]
        exact run_append (run_append (run_slice hR _ _) (run_len hs1)) (run_slice hR _ _)
      · rw [app_len, app_len]
        show _ + 1 + _ ≤ _
        omega
    refine ⟨_, rfl, rfl, _, rfl, ite2 (fun _ => ?_) (fun _ => ?_)⟩
    · have a1 := sl none (some at')
      have a2 := sl (some (at' + 1)) none
      refine ⟨_, rfl, _, rfl, _, rfl, t, rfl, hz, _, rfl, _, rfl, _, _, rfl, rfl, _, rfl, t, rfl, hz, _, _, rfl, rfl, seq_le (by omega), k _ _ ⟨?_, ?_⟩ u0⟩
      · rw [app_cps]
        exact run_mono (run_append (run_slice hR _ _) (run_slice hR _ _)) (by decide)
      · rw [app_len]
        omega
    -- 4
    refine ⟨SpI t way cell other at' spot (sg1 c) l W H 5, ?_, ?_⟩
    · refine ⟨_, rfl, rfl, _, rfl, ite2 (fun q => ?_) (fun q => ⟨l, W, rfl, u0, hl0, fun x hx => by have := hW0 x hx; omega, by omega, fun _ => ⟨rfl, rfl⟩⟩)⟩
      have e : way = 4 := by
        have := of_decide_eq_true q
        injection this
      refine ⟨_, rfl, _, rfl, _, rfl, l, _, rfl, SqL.of hl0, fun p1 f1 => ?_⟩
      rw [cut_take _ s0]
      have u1 := same_upd (o := .lst ((W.map V.str).take spot.toNat)) f1
      refine ⟨_, rfl, _, rfl, _, _, rfl, rfl, _, rfl, l, _, rfl, SqL.of (u1 _ _ hl0), fun p2 f2 => ?_⟩
      rw [cutD _ (by omega)]
      have u2 := same_upd (o := .lst ((W.map V.str).drop (spot + 1).toNat)) f2
      refine ⟨p1, p2, _, _, rfl, rfl, u2 _ _ upd_same, upd_same, seq_le (by rw [List.length_take, List.length_drop, List.length_map]; omega), fun p3 f3 => ?_⟩
      have u3 := same_upd (o := .lst ((W.map V.str).take spot.toNat ++ (W.map V.str).drop (spot + 1).toNat)) f3
      refine ⟨p3, W.take spot.toNat ++ W.drop (spot + 1).toNat, rfl, ((u0.trans u1).trans u2).trans u3, by rw [upd_same, List.map_append, List.map_take, List.map_drop], fun x hx => ?_, by rw [List.length_append, List.length_take, List.length_drop]; omega, fun z => by omega⟩
      rcases List.mem_append.mp hx with z | z
      · have := hW0 x (List.mem_of_mem_take z); omega
      · have := hW0 x (List.mem_of_mem_drop z); omega
    rintro σ' H1 ⟨l1, W1, rfl, s1', hl1, hB1, hN1, hw1⟩
    -- 5
    refine ⟨SpI t way cell other at' spot (sg1 c) l W H 6, ?_, ?_⟩
    · refine ⟨_, rfl, rfl, _, rfl, ite2 (fun q => ?_) (fun q => ⟨l1, W1, rfl, s1', hl1, hB1, hN1, fun z => hw1 (by omega)⟩)⟩
      have e : way = 5 := by
        have := of_decide_eq_true q
        injection this
      obtain ⟨rfl, rfl⟩ := hw1 (by omega)
      refine ⟨_, rfl, _, rfl, _, _, rfl, rfl, _, rfl, l1, _, rfl, SqL.of hl1, fun p1 f1 => ?_⟩
      rw [cut_take _ (by omega)]
      have u1 := same_upd (o := .lst ((W1.map V.str).take (spot + 1).toNat)) f1
      refine ⟨_, rfl, _, rfl, _, rfl, l1, _, rfl, SqL.of (u1 _ _ hl1), fun p2 f2 => ?_⟩
      rw [cutD _ s0]
      have u2 := same_upd (o := .lst ((W1.map V.str).drop spot.toNat)) f2
      refine ⟨p1, p2, _, _, rfl, rfl, u2 _ _ upd_same, upd_same, seq_le (by rw [List.length_take, List.length_drop, List.length_map]; omega), fun p3 f3 => ?_⟩
      have u3 := same_upd (o := .lst ((W1.map V.str).take (spot + 1).toNat ++ (W1.map V.str).drop spot.toNat)) f3
      refine ⟨p3, W1.take (spot + 1).toNat ++ W1.drop spot.toNat, rfl, ((s1'.trans u1).trans u2).trans u3, by rw [upd_same, List.map_append, List.map_take, List.map_drop], fun x hx => ?_, by rw [List.length_append, List.length_take, List.length_drop]; omega, fun z => by omega⟩
      rcases List.mem_append.mp hx with z | z
      · have := hW0 x (List.mem_of_mem_take z); omega
      · have := hW0 x (List.mem_of_mem_drop z); omega
    rintro σ' H2 ⟨l2, W2, rfl, s2', hl2, hB2, hN2, hw2⟩
    -- 6
    refine ⟨SpI t way cell other at' spot (sg1 c) l W H 7, ?_, ?_⟩
    · refine ⟨_, rfl, rfl, _, rfl, ite2 (fun q => ?_) (fun q => ⟨l2, W2, rfl, s2', hl2, hB2, hN2, fun z => hw2 (by omega)⟩)⟩
      have e : way = 6 := by
        have := of_decide_eq_true q
        injection this
      obtain ⟨rfl, rfl⟩ := hw2 (by omega)
      obtain ⟨x, hxm, hat⟩ := at_str s0 s1
      have hxl := hW0 x hxm
      refine ⟨rfl, _, rfl, _, rfl, l2, _, _, .str x, rfl, rfl, SqL.of hl2, hat, x, rfl, seq_le (by omega), fun lc flc => comp_str' (x := revT x) (fun i acc H' => Same H2 H' ∧ H' lc = some (.lst acc) ∧ acc = ((revT x).cps.toList.take i).map sgn)
        ⟨same_upd flc, upd_same, rfl⟩ (fun i acc H' _ z => z.2.1) ?_ ?_⟩
      · rintro i c' acc H3 hi hlt ⟨s3, hl3, hacc⟩
        have hrl : (revT x).cps.size = x.length := by show x.cps.reverse.size = _; rw [Array.size_reverse]; rfl
        have ht' : (revT x).cps.toList[i]? = some c' := by rw [Array.getElem?_toList]; exact hi
        refine ⟨seq_lt (by rw [hacc, List.length_map, List.length_take]; omega), ⟨rfl, rfl⟩, tYes_mk ?_⟩
        refine ⟨_, rfl, hl3, Nx.mk hlt ⟨same_upd' s3 flc, upd_same, ?_⟩⟩
        rw [List.take_add_one, ht', List.map_append, hacc]
        rfl
      · rintro acc H3 ⟨s3, hl3, hacc⟩
        rw [List.take_of_length_le (by rw [Array.length_toList]; exact Nat.le_refl _), sgn_map] at hacc
        subst hacc
        have hrl : (revT x).cps.toList.length = x.length := by rw [Array.length_toList]; show x.cps.reverse.size = _; rw [Array.size_reverse]; rfl
        have hsg : ∀ y ∈ (revT x).cps.toList.map sg1, y.length ≤ 1 := fun y hy => by
          obtain ⟨c', _, rfl⟩ := List.mem_map.mp hy
          exact Nat.le_refl _
        have e0 : ("" : Str).length = 0 := rfl
        have hjl := join_len (sep := "") hsg
        rw [List.length_map, hrl, e0] at hjl
        refine ⟨"", lc, _, rfl, rfl, SqL.of hl3, joinOk_of (B := 1) hsg (by rw [List.length_map, hrl, e0]; omega), ?_⟩
        refine ⟨_, rfl, _, rfl, l2, _, spot, spot.toNat, rfl, rfl, s3 _ _ hl2, ?_, ?_⟩
        · unfold ixN
          rw [if_pos s0, if_pos (by rw [List.length_map]; omega)]
        · refine ⟨l2, W2.set spot.toNat (Txt.join "" ((revT x).cps.toList.map sg1)), rfl, same_upd' (s2'.trans s3) fl, by rw [upd_same, List.map_set], fun y hy => ?_, by rw [List.length_set]; omega, fun z => by omega⟩
          rcases List.mem_or_eq_of_mem_set hy with z | rfl
          · have := hW0 y z; omega
          · omega
    rintro σ' H3 ⟨l3, W3, rfl, s3', hl3, hB3, hN3, hw3⟩
    -- 7
    refine ⟨SpI t way cell other at' spot (sg1 c) l W H 8, ?_, ?_⟩
    · refine ⟨_, rfl, rfl, _, rfl, ite2 (fun q => ?_) (fun q => ⟨l3, W3, rfl, s3', hl3, hB3, hN3, fun z => hw3 (by omega)⟩)⟩
      have e : way = 7 := by
        have := of_decide_eq_true q
        injection this
      obtain ⟨rfl, rfl⟩ := hw3 (by omega)
      obtain ⟨x, hxm, hat⟩ := at_str s0 s1
      have hxl := hW0 x hxm
      have a1 := slice_len x none (some 1)
      refine ⟨_, rfl, _, rfl, l3, _, _, .str x, rfl, rfl, SqL.of hl3, hat, _, rfl, x, rfl, seq_le (by omega), _, rfl, _, rfl, l3, _, _, .str x, rfl, rfl, SqL.of hl3, hat, _, _, rfl, rfl, seq_le (by omega), ?_⟩
      refine ⟨_, rfl, _, rfl, l3, _, spot, spot.toNat, rfl, rfl, hl3, ?_, ?_⟩
      · unfold ixN
        rw [if_pos s0, if_pos (by rw [List.length_map]; omega)]
      · refine ⟨l3, W3.set spot.toNat (Txt.slice x none (some 1) ++ x), rfl, same_upd' s3' fl, by rw [upd_same, List.map_set], fun y hy => ?_, by rw [List.length_set]; omega, fun z => by omega⟩
        rcases List.mem_or_eq_of_mem_set hy with z | rfl
        · have := hW0 y z; omega
        · rw [app_len]
          omega
    rintro σ' H4 ⟨l4, W4, rfl, s4', hl4, hB4, hN4, hw4⟩
    -- 8
    refine ⟨SpI t way cell other at' spot (sg1 c) l W H 9, ?_, ?_⟩
    · refine ⟨_, rfl, rfl, _, rfl, ite2 (fun q => ?_) (fun q => ⟨l4, W4, rfl, s4', hl4, hB4, hN4, fun z => hw4 (by omega)⟩)⟩
      have e : way = 8 := by
        have := of_decide_eq_true q
        injection this
      obtain ⟨rfl, rfl⟩ := hw4 (by omega)
      refine ⟨_, rfl, _, rfl, l4, _, rfl, SqL.of hl4, fun p1 f1 => ?_⟩
      rw [cut_take _ (by decide)]
      have u1 := same_upd (o := .lst ((W4.map V.str).take (Int.toNat 1))) f1
      refine ⟨_, rfl, _, rfl, l4, _, rfl, SqL.of (u1 _ _ hl4), fun p2 f2 => ?_⟩
      rw [cutD _ (by decide)]
      have u2 := same_upd (o := .lst ((W4.map V.str).drop (Int.toNat 1))) f2
      refine ⟨p2, 61, _, rfl, rfl, upd_same, by decide, by decide, by rw [List.length_drop, List.length_map, sizeLine_eq]; show _ * 61 ≤ _; omega, fun p3 f3 => ?_⟩
      have u3 := same_upd (o := .lst (List.replicate (Int.toNat 61) ((W4.map V.str).drop (Int.toNat 1))).flatten) f3
      have o0 : 0 ≤ other % 2 := Int.emod_nonneg _ (by decide)
      have o2 : other % 2 < 2 := Int.emod_lt_of_pos _ (by decide)
      refine ⟨_, rfl, _, _, rfl, rfl, (by show (0 : Int) < 2; decide), _, _, rfl, rfl, _, rfl, p3, _, rfl, SqL.of upd_same, fun p4 f4 => ?_⟩
      rw [cut_take _ (by omega)]
      have u4 := same_upd (o := .lst ((List.replicate (Int.toNat 61) ((W4.map V.str).drop (Int.toNat 1))).flatten.take (60 + other % 2).toNat)) f4
      refine ⟨p1, p4, _, _, rfl, rfl, u4 _ _ (u3 _ _ (u2 _ _ upd_same)), upd_same, seq_le (by rw [List.length_take, List.length_take, List.length_map]; omega), fun p5 f5 => ?_⟩
      have u5 := same_upd (o := .lst ((W4.map V.str).take (Int.toNat 1) ++ (List.replicate (Int.toNat 61) ((W4.map V.str).drop (Int.toNat 1))).flatten.take (60 + other % 2).toNat)) f5
      have em : (W4.map V.str).take (Int.toNat 1) ++ (List.replicate (Int.toNat 61) ((W4.map V.str).drop (Int.toNat 1))).flatten.take (60 + other % 2).toNat = (W4.take 1 ++ (List.replicate 61 (W4.drop 1)).flatten.take (60 + other % 2).toNat).map V.str := by
        rw [List.map_append, List.map_take, List.map_take, List.map_flatten, List.map_replicate, List.map_drop]
        rfl
      refine ⟨p5, W4.take 1 ++ (List.replicate 61 (W4.drop 1)).flatten.take (60 + other % 2).toNat, rfl, ((((s4'.trans u1).trans u2).trans u3).trans u4).trans u5, by rw [upd_same, em], fun x hx => ?_, by rw [List.length_append, List.length_take, List.length_take]; omega, fun z => by omega⟩
      rcases List.mem_append.mp hx with z | z
      · have := hW0 x (List.mem_of_mem_take z); omega
      · obtain ⟨m, hm, hx'⟩ := List.mem_flatten.mp (List.mem_of_mem_take z)
        rw [(List.mem_replicate.mp hm).2] at hx'
        have := hW0 x (List.mem_of_mem_drop hx')
        omega
    rintro σ' H5 ⟨l5, W5, rfl, s5', hl5, hB5, hN5, _⟩
    refine ⟨rfl, _, rfl, bl, l5, W5, rfl, rfl, SqL.of hl5, joinOk_of (B := 12) hB5 ?_, k _ _ (tx_join hB5 hN5) s5'⟩
    have e1 : bl.length = 1 := by decide +kernel
    rw [e1]
    omega
end
end Bm
namespace Bm
open PySem L2
def spLaw (K : PySem.W.Frag) : Sp := fun vs H Q _ => ∃ (a : Addr) (ns : List Int), vs = [.ref a] ∧ SqL K H a (ns.map V.int) ∧ ns.length ≤ 63 ∧ ∀ H', Q (.bl true) H'
def textM (n : Int) (L : List (List Int)) : Str := Str.join bl ((numS n ++ ":") :: L.map figM)
theorem text_shown (n : Int) (L : List (List Int)) : shownM n L = textM n L := by
  unfold shownM textM Txt.join
  rw [StrLaws.glued_eq_join, Str.empty_append]
theorem join_snoc (sep x : Str) : ∀ (h : Str) (ws : List Str), Str.join sep (h :: (ws ++ [x])) = Str.join sep (h :: ws) ++ sep ++ x
  | h, [] => rfl
  | h, w :: ws => by
    show h ++ sep ++ Str.join sep (w :: (ws ++ [x])) = h ++ sep ++ Str.join sep (w :: ws) ++ sep ++ x
    rw [join_snoc sep x w ws, Str.append_assoc, Str.append_assoc, Str.append_assoc, Str.append_assoc, Str.append_assoc]
theorem text_snoc (n : Int) (L : List (List Int)) (o : List Int) : textM n (L ++ [o]) = textM n L ++ bl ++ figM o := by
  unfold textM
  rw [List.map_append]
  exact join_snoc bl (figM o) _ _
theorem text_short {n : Int} (h1 : 1 ≤ n) (h6 : n ≤ 6) {L : List (List Int)} (hO : Ords n L) : ∀ x ∈ (numS n ++ ":") :: L.map figM, x.length ≤ 6 := fun x hx => by
  rcases List.mem_cons.mp hx with rfl | hx
  · have := (num_len (i := n) (by omega) (by omega)).2.2
    rw [Str.empty_append] at this
    omega
  · obtain ⟨o, ho, rfl⟩ := List.mem_map.mp hx
    have hp := hO o ho
    refine fig_len (fun y hy => ?_) ?_
    · have := rangeK_mem.mp (hp.mem_iff.mp hy)
      omega
    · rw [hp.length_eq, show (rangeI n).length = n.toNat from rangeK_len _]
      omega
theorem text_run {n : Int} (h1 : 1 ≤ n) (h6 : n ≤ 6) {L : List (List Int)} (hO : Ords n L) : Run 6 (textM n L).cps.toList := run_join fun x hx => run_len (by rw [Array.length_toList]; exact text_short h1 h6 hO x hx)
theorem text_len {n : Int} (h1 : 1 ≤ n) (h6 : n ≤ 6) {L : List (List Int)} (hO : Ords n L) (hL : L.length ≤ 100) : (textM n L).length ≤ 900 := by
  have := StrLaws.join_length_le bl ((numS n ++ ":") :: L.map figM)
  have e : bl.length = 1 := by decide +kernel
  have h := StrLaws.sumLen_le _ (text_short h1 h6 hO)
  rw [e] at this
  rw [List.length_cons, List.length_map] at this h
  unfold textM
  omega
theorem Wr.short {t : Str} {n : Int} {L : List (List Int)} (h : Wr t n L) : ∀ o ∈ L, o.length ≤ 1000 := fun o ho => by
  obtain ⟨_, ws, _, _, _, _, _, hp, e⟩ := h.ex
  rw [e] at ho
  obtain ⟨x, hx, rfl⟩ := List.mem_map.mp ho
  have := h.high
  rw [(hp x hx).length_eq, show (rangeI n).length = n.toNat from rangeK_len _]
  omega
section
variable {P : Program} {w : World} {K : PySem.W.Frag} {mg : Str → Option Value} {base : Heap}
theorem sc_law : FnScope ["script", "many", "voters", "text", "voter", "handed", "found", "way", "due", "turn"] ["script"] (defScope sLaw) := ⟨rfl, rfl, rfl, by decide +kernel, rfl, by decide +kernel, by decide +kernel⟩
theorem ok_law (d : Def K mg "law" sLaw ["script"]) (B : Blt mg) (dC : Def K mg "_law_cell_at" sCellAt ["script", "k"]) (GC : FnOk P w K mg base CX0 1 dC.f dC.fd ["script", "k"] (spCell K))
    (dVo : Def K mg "_law_voters" sVoters ["script", "start", "many", "most"]) (GVo : FnOk P w K mg base CX0 2 dVo.f dVo.fd ["script", "start", "many", "most"] (spLawVoters K))
    (dS : Def K mg "shown" sShown ["many", "voters"]) (GS : FnOk P w K mg base CX0 3 dS.f dS.fd ["many", "voters"] (spShownM K))
    (dSp : Def K mg "_law_spoiled" sSpoiled ["text", "way", "cell", "other"]) (GSp : FnOk P w K mg base CX0 1 dSp.f dSp.fd ["text", "way", "cell", "other"] spSpoiled)
    (dO : Def K mg "_law_odd" sOdd ["cell"]) (GO : FnOk P w K mg base CX0 1 dO.f dO.fd ["cell"] spTx1)
    (dD : Def K mg "_law_due" sDue ["text"]) (GD : FnOk P w K mg base CX0 1 dD.f dD.fd ["text"] spDue)
    (dT : Def K mg "_law_told" sTold ["text"]) (GT : FnOk P w K mg base CX0 4 dT.f dT.fd ["text"] spTold)
    (dRi : Def K mg "_law_right" sRight ["found", "due"]) (GRi : FnOk P w K mg base CX0 2 dRi.f dRi.fd ["found", "due"] spRight7) : FnOk P w K mg base CX0 5 d.f d.fd ["script"] (spLaw K) := by
  refine d.F.ok sc_law (fun vs H Q E h => ?_) (fun cdv A outer s H vs Q E hr h => ?_)
  · obtain ⟨a, ns, rfl, _⟩ := h
    rfl
  · obtain ⟨a, ns, rfl, hS, hlen, k⟩ := h
    refine ⟨_, pss_cons (ps_set (i := 1) sc_law.nd rfl (Or.inl rfl) (pe_op op_add pe_int (pe_op op_mod (pe_call GC (hr.mono (by decide)) (by rfl) dC.mgf dC.F.kp dC.b .nil pass0 (pa_cons (pv 0) (pa_cons pe_int pa_nil))) pe_int)))
      (pss_cons (ps_set (i := 2) sc_law.nd rfl (Or.inl rfl) (pe_call GVo (hr.mono (by decide)) (by rfl) dVo.mgf dVo.F.kp dVo.b .nil pass0 (pa_cons (pv 0) (pa_cons pe_int (pa_cons (pv 1) (pa_cons pe_int pa_nil))))))
      (pss_cons (ps_set (i := 3) sc_law.nd rfl (Or.inl rfl) (pe_op op_add_str (pe_callTy call_str_int (by rfl) B.str PyProof.Rows.boot_str (pa_cons (pv 1) pa_nil)) pe_str))
      (pss_cons (ps_for PassesOwn.never rfl (pi_list (pv 2)) (pg_name (i := 4) sc_law.nd rfl (Or.inl rfl))
        (pss_one (ps_set (i := 3) sc_law.nd rfl (Or.inl rfl) (pe_op op_add_str (pe_op op_add_str (pv 3) pe_str) (pe_bm PySem.F.plainAttrs_str PySem.F.slot_str_join PySem.F.type_str_join mt_join pe_str (pa_cons (pe_comp (ts := ["thing"]) (fs := []) rfl (by exact .mk' rfl (by rfl) trivial) (pi_tup (pv 4))
          (by intros; exact pg_name (i := 0) (show (["thing"] : List Str).Nodup by decide +kernel) rfl (Or.inl rfl))
          (by intros; exact pts_nil)
          (by intros; exact (pe_callTy call_str_int (by rfl) B.str PyProof.Rows.boot_str (pa_cons (pv 0) pa_nil)))) pa_nil))))))
      (pss_cons (ps_set (i := 5) sc_law.nd rfl (Or.inl rfl) (pe_callTy call_list_of (by rfl) B.list PyProof.Rows.boot_list (pa_cons (pv 2) pa_nil)))
      (pss_cons (ps_set (i := 6) sc_law.nd rfl (Or.inl rfl) (pe_call GS (hr.mono (by decide)) (by rfl) dS.mgf dS.F.kp dS.b .nil pass0 (pa_cons (pv 1) (pa_cons (pv 5) pa_nil))))
      (pss_cons (ps_if (pw_or (pt_not (pt_val (pe_callB call_isiS (by rfl) B.isi PyProof.Rows.boot_isinstance (pa_cons (pv 6) (pa_cons (pe_bltn (v := .ty "str") (by rfl) B.str PyProof.Rows.boot_str rfl) pa_nil))))) (pw_or (pt_cmpR op_ne (pv 6) (pv 3) (nomark _)) (pw_or1 (pt_cmpR (op_neL eq_dT_ok (hu2_of hr)) (pv 5) (pv 2) (nomark _))))).pt pss_never pss_nil)
      (pss_cons (ps_set (i := 7) sc_law.nd rfl (Or.inl rfl) (pe_op op_mod (pe_call GC (hr.mono (by decide)) (by rfl) dC.mgf dC.F.kp dC.b .nil pass0 (pa_cons (pv 0) (pa_cons pe_int pa_nil))) pe_int))
      (pss_cons (ps_set (i := 3) sc_law.nd rfl (Or.inl rfl) (pe_call GSp (hr.mono (by decide)) (by rfl) dSp.mgf dSp.F.kp dSp.b .nil pass0 (pa_cons (pv 3) (pa_cons (pv 7) (pa_cons (pe_call GC (hr.mono (by decide)) (by rfl) dC.mgf dC.F.kp dC.b .nil pass0 (pa_cons (pv 0) (pa_cons pe_int pa_nil))) (pa_cons (pe_call GC (hr.mono (by decide)) (by rfl) dC.mgf dC.F.kp dC.b .nil pass0 (pa_cons (pv 0) (pa_cons pe_int pa_nil))) pa_nil))))))
      (pss_cons (ps_cut (ps_if (pt_cmpR op_eq (pe_op op_mod (pe_op op_fdiv (pe_call GC (hr.mono (by decide)) (by rfl) dC.mgf dC.F.kp dC.b .nil pass0 (pa_cons (pv 0) (pa_cons pe_int pa_nil))) pe_int) pe_int) pe_int (nomark _)) (pss_one (ps_set (i := 3) sc_law.nd rfl (Or.inl rfl) (pe_call GO (hr.mono (by decide)) (by rfl) dO.mgf dO.F.kp dO.b .nil pass0 (pa_cons (pe_call GC (hr.mono (by decide)) (by rfl) dC.mgf dC.F.kp dC.b .nil pass0 (pa_cons (pv 0) (pa_cons pe_int pa_nil))) pa_nil)))) pss_nil))
      (pss_cons (ps_cut (ps_set (i := 8) sc_law.nd rfl (Or.inl rfl) (pe_call GD (hr.mono (by decide)) (by rfl) dD.mgf dD.F.kp dD.b .nil pass0 (pa_cons (pv 3) pa_nil))))
      (pss_cons (ps_for PassesOwn.never rfl (pi_range1 (by rfl) B.range (pa_cons pe_int pa_nil)) (pg_name (i := 9) sc_law.nd rfl (Or.inl rfl))
        (pss_cons (ps_set (i := 6) sc_law.nd rfl (Or.inl rfl) (pe_call GT hr (by rfl) dT.mgf dT.F.kp dT.b .nil pass0 (pa_cons (pv 3) pa_nil)))
        (pss_cons (ps_if (pt_not (pt_val (pe_call GRi (hr.mono (by decide)) (by rfl) dRi.mgf dRi.F.kp dRi.b .nil pass0 (pa_cons (pv 6) (pa_cons (pv 8) pa_nil))))) pss_never pss_nil)
        (pss_one (ps_if (pt_cmpR op_notN (pv 8) pe_non (nomark _)) (pss_one (ps_expr (pe_bm PySem.F.plainAttrs_list PySem.F.slot_list_append PySem.F.type_list_append mt_append (pe_ix ix_tup (pv 6) pe_int (fun _ _ => rfl)) (pa_cons (pe_tup pa_nil) pa_nil)))) pss_nil)))))
      (pss_one (ps_ret pe_bl))))))))))))), ?_⟩
    -- many
    refine ⟨_, rfl, a, ns, 0, rfl, hS, by decide, _, _, rfl, rfl, (by show (0 : Int) < 6; decide), _, _, rfl, rfl, ?_⟩
    obtain ⟨n, en, h1, h6⟩ : ∃ n, 1 + ns.getD (0 : Int).toNat 0 % 6 = n ∧ 1 ≤ n ∧ n ≤ 6 := ⟨_, rfl, by have := Int.emod_nonneg (ns.getD (0 : Int).toNat 0) (by decide : (6 : Int) ≠ 0); omega, by have := Int.emod_lt_of_pos (ns.getD (0 : Int).toNat 0) (by decide : (0 : Int) < 6); omega⟩
    dsimp only
    rw [en]
    -- voters
    refine ⟨_, rfl, _, rfl, a, ns, 1, n, 20, rfl, hS, by decide, h1, h6, by decide, by decide, fun H1 va xs L s1 fva hva px hO hL => ?_⟩
    have hS1 := s1.seq hS
    have hlog : n.natAbs.log2 < 1920 := by
      have hc : n = 1 ∨ n = 2 ∨ n = 3 ∨ n = 4 ∨ n = 5 ∨ n = 6 := by omega
      rcases hc with rfl | rfl | rfl | rfl | rfl | rfl <;> decide +kernel
    have hn1 := (num_len (i := n) (by omega) (by omega)).1
    have ordB : ∀ o ∈ L, (∀ x ∈ o, 0 ≤ x ∧ x < 6) ∧ o.length ≤ 6 := fun o ho => by
      have hp := hO o ho
      refine ⟨fun x hx => ?_, ?_⟩
      · have := rangeK_mem.mp (hp.mem_iff.mp hx)
        omega
      · rw [hp.length_eq, show (rangeI n).length = n.toNat from rangeK_len _]
        omega
    -- text
    refine ⟨_, rfl, n, rfl, hlog, _, _, rfl, rfl, seq_le (by have e : (":" : Str).length = 1 := rfl; rw [e]; have : (toString n : Str).length = 1 := hn1; omega), ?_⟩
    have hxl := Paired.length px
    refine ⟨_, rfl, va, rfl, ⟨_, SqL.of hva⟩, for_list (K := K) (a := va) (xs := xs) (fun i σ H' => ∃ v4 : Option V, σ = [some (.ref a), some (.int n), some (.ref va), some (.str (textM n (L.take i))), v4, none, none, none, none, none] ∧ Same H1 H')
      ⟨none, rfl, Same.refl _⟩ (by rintro i σ H' _ ⟨_, _, s2⟩; exact SqL.of (s2 _ _ hva)) ?_ ?_⟩
    · rintro i x σ H2 hi ⟨v4, rfl, s2⟩
      obtain ⟨o, ho, q, rfl, hq⟩ := paired_get px hi
      obtain ⟨b1, b2⟩ := ordB o (List.mem_of_getElem? ho)
      have hq2 := s2 _ _ hq
      have hOt : Ords n (L.take i) := ords_take hO i
      have htl := text_len h1 h6 hOt (by rw [List.length_take]; omega)
      have e1 : bl.length = 1 := by decide +kernel
      refine ⟨_, rfl, _, _, rfl, rfl, seq_le (by rw [show (" " : Str).length = 1 from e1]; omega), ?_⟩
      refine ⟨rfl, _, rfl, q, rfl, ⟨_, SqT.of hq2⟩, fun l fl => comp_tup' (xs := o.map V.int) (fun i acc H' => Same H2 H' ∧ H' l = some (.lst acc) ∧ acc = ((o.take i).map numS).map V.str)
        ⟨same_upd fl, upd_same, rfl⟩ (fun i acc H' _ z => ⟨SqT.of (z.1 _ _ hq2), z.2.1⟩) ?_ ?_⟩
      · rintro j y acc H3 hj hlt ⟨s3, hl3, hacc⟩
        obtain ⟨t, ht, rfl⟩ := map_get hj
        have hb := b1 t (List.mem_of_getElem? ht)
        have hlogt : t.natAbs.log2 < 1920 := by
          have hc : t = 0 ∨ t = 1 ∨ t = 2 ∨ t = 3 ∨ t = 4 ∨ t = 5 := by omega
          rcases hc with rfl | rfl | rfl | rfl | rfl | rfl <;> decide +kernel
        refine ⟨seq_lt (by rw [hacc, List.length_map, List.length_map, List.length_take]; omega), ⟨rfl, rfl⟩, tYes_mk ?_⟩
        refine ⟨_, rfl, t, rfl, hlogt, hl3, Nx.mk hlt ⟨same_upd' s3 fl, upd_same, ?_⟩⟩
        rw [List.take_add_one, ht, List.map_append, List.map_append, hacc]
        rfl
      · rintro acc H3 ⟨s3, hl3, hacc⟩
        rw [List.length_map, List.take_of_length_le (Nat.le_refl _)] at hacc
        subst hacc
        have hfl := fig_len b1 b2
        refine ⟨"", l, o.map numS, rfl, rfl, SqL.of hl3, joinOk_of (B := 1) (fun y hy => ?_) (by rw [List.length_map, show ("" : Str).length = 0 from rfl]; omega), ?_⟩
        · obtain ⟨t, ht, rfl⟩ := List.mem_map.mp hy
          have := b1 t ht
          exact Nat.le_of_eq (num_len this.1 (by omega)).1
        refine ⟨_, _, rfl, rfl, seq_le (by rw [app_len, show (" " : Str).length = 1 from e1]; have : (Txt.join "" (o.map numS)).length ≤ 6 := hfl; omega), some (.ref q), ?_, s2.trans s3⟩
        rw [List.take_add_one, ho, show (some o).toList = [o] from rfl, text_snoc]
        rfl
    rintro σ H2 ⟨v4, rfl, s2⟩
    rw [List.take_of_length_le (by omega)]
    have hva2 := s2 _ _ hva
    have px2 := pd_same (dT_same s2) px
    -- handed
    refine ⟨_, rfl, va, _, rfl, .inl (SqL.of hva2), fun hd fhd => ?_⟩
    have u3 := same_upd (o := .lst xs) fhd
    have hd3 : (upd H2 hd (.lst xs)) hd = some (.lst xs) := upd_same
    generalize upd H2 hd (.lst xs) = H3 at u3 hd3
    have px3 := pd_same (dT_same u3) px2
    -- shown
    refine ⟨_, rfl, _, rfl, n, hd, L, rfl, h1, h6, ⟨xs, SqL.of hd3, px3⟩, hO, by omega, fun H4 s4 => ?_⟩
    rw [text_shown]
    refine ⟨_, rfl, _, rfl, true, rfl, iteF ?_⟩
    refine ⟨_, rfl, _, rfl, by rfl, _, rfl, iteNS rfl ?_⟩
    have px4 := pd_same (dT_same s4) px3
    refine ⟨_, rfl, _, rfl, hd, va, xs, xs, L, L, rfl, rfl, SqL.of (s4 _ _ hd3), SqL.of (s4 _ _ (u3 _ _ hva2)), px4, px4, _, rfl, iteS rfl ?_⟩
    have s14 : Same H1 H4 := (s2.trans u3).trans s4
    have hS4 := s14.seq hS1
    -- way
    refine ⟨_, rfl, a, ns, 24, rfl, hS4, by decide, _, _, rfl, rfl, (by show (0 : Int) < 12; decide), ?_⟩
    dsimp only
    generalize ns.getD (24 : Int).toNat 0 % 12 = way
    -- spoiled
    refine ⟨_, rfl, _, rfl, _, rfl, a, ns, 25, rfl, hS4, by decide, _, rfl, a, ns, 26, rfl, hS4, by decide, _, way, _, _, rfl, text_run h1 h6 hO, text_len h1 h6 hO (by omega), fun x H5 hx s5 => ?_⟩
    have hS5 := s5.seq hS4
    -- odd
    refine ⟨fun σ' H' => ∃ x, σ' = [some (.ref a), some (.int n), some (.ref va), some (.str x), v4, some (.ref hd), some (.str (textM n L)), some (.int way), none, none] ∧ Same H5 H' ∧ TxOk x, ?_, ?_⟩
    · refine ⟨_, rfl, a, ns, 24, rfl, hS5, by decide, _, _, rfl, rfl, ⟨by decide, by decide⟩, _, _, rfl, rfl, (by show (0 : Int) < 8; decide), rfl, _, rfl, ite2 (fun _ => ?_) (fun _ => ⟨x, rfl, Same.refl _, hx⟩)⟩
      exact ⟨_, rfl, a, ns, 27, rfl, hS5, by decide, _, rfl, fun y H6 hy s6 => ⟨y, rfl, s6, hy⟩⟩
    rintro σ' H6 ⟨y, rfl, s6, hy⟩
    -- due
    refine ⟨fun σ' H' => ∃ v8, σ' = [some (.ref a), some (.int n), some (.ref va), some (.str y), v4, some (.ref hd), some (.str (textM n L)), some (.int way), some v8, none] ∧ ((∃ m M, Wr y m M ∧ Tld H' v8 m M) ∨ (v8 = .non ∧ ¬ ∃ m M, Wr y m M)), ?_, ?_⟩
    · exact ⟨_, rfl, y, rfl, hy, fun m M hW H7 v s7 hT => ⟨v, rfl, .inl ⟨m, M, hW, hT⟩⟩, fun ne H7 s7 => ⟨.non, rfl, .inr ⟨rfl, ne⟩⟩⟩
    rintro σ' H7 ⟨v8, rfl, hdue⟩
    -- told, twice
    refine ⟨2, rfl, by decide, by decide, for_range (n := 2) (fun i σ H' => ∃ v6 v9 : Option V, σ = [some (.ref a), some (.int n), some (.ref va), some (.str y), v4, some (.ref hd), v6, some (.int way), some v8, v9] ∧ Same H7 H') ⟨_, _, rfl, Same.refl _⟩ ?_ ?_⟩
    · rintro i σ H8 hi ⟨v6, v9, rfl, s8⟩
      refine ⟨_, rfl, y, rfl, hy, fun m M hW H9 v s9 hR => ?_, fun ne H9 v s9 hR => ?_⟩
      · rcases hdue with ⟨m', M', hW', hT⟩ | ⟨_, ne⟩
        · obtain ⟨rfl, rfl⟩ := hW.same hW'
          have hT9 := hT.same (s8.trans s9)
          refine ⟨_, rfl, _, rfl, v, v8, rfl, .inr ⟨m, M, hR.tld, hT9, hW.short⟩, fun H10 s10 => ⟨true, rfl, iteF ?_⟩⟩
          obtain ⟨q, b, ys, rfl, _⟩ := hT
          refine ⟨_, rfl, rfl, _, rfl, ite2 (fun _ => ?_) (fun z => absurd (by rw [decide_eq_false (fun e => by cases e)]; rfl) z)⟩
          obtain ⟨p, c, zs, rfl, hp, fc, hc, pz⟩ := hR
          have hMl := Paired.length pz
          have hM60 : M.length ≤ 60 := by
            obtain ⟨_, ws, _, _, _, _, h60, _, e⟩ := hW.ex
            rw [e, List.length_map]
            exact h60
          refine ⟨_, rfl, p, _, 1, .ref c, rfl, rfl, SqT.of (s10 _ _ hp), rfl, .inl ⟨rfl, _, SqL.of (s10 _ _ hc)⟩, Nat.zero_le _, fun e fe => ?_⟩
          refine ⟨c, zs, _, rfl, rfl, (same_upd fe) _ _ (s10 _ _ hc), seq_lt (by omega), ?_⟩
          exact ⟨_, _, rfl, same_upd' (((s8.trans s9).trans s10).trans (same_upd fe)) (s8.free fc)⟩
        · exact absurd ⟨m, M, hW⟩ ne
      · rcases hdue with ⟨m', M', hW', _⟩ | ⟨rfl, _⟩
        · exact absurd ⟨m', M', hW'⟩ ne
        · refine ⟨_, rfl, _, rfl, v, .non, rfl, .inl ⟨rfl, hR⟩, fun H10 s10 => ⟨true, rfl, iteF ?_⟩⟩
          exact ⟨_, rfl, rfl, _, rfl, ite2 (fun z => absurd z (by decide)) (fun _ => ⟨_, _, rfl, (s8.trans s9).trans s10⟩)⟩
    · rintro σ H8 ⟨v6, v9, rfl, s8⟩
      exact k H8
end
end Bm
namespace Bm
open PySem L2
def mkDef {K : PySem.W.Frag} {h : Heap} {mg : Str → Option Value} (X : K.In h) (G : h.Ns mainGlobals mg) {x : Str} {st : Stmt} {ps : List Str} {f : Addr} {oc : Value} {od an : Option Addr} {osl : Array (Option Value)} {kV doc pm cdv ct : Value}
    (a : PySem.W.nsIn K mainGlobals x = some (some (.ref f))) (l : K.lookup f = some ⟨oc, od, .func (PySem.W.fnOf x x (defArgs st) (defBody st) (defScope st) .none kV doc pm an cdv ct), osl⟩) (c : PySem.W.codeIn K cdv x = true) (k : PySem.W.keepIn K (.ref f) = true)
    (hb : ∀ (kV doc pm : Value) (an : Option Addr) (cdv ct : Value) (us : List Value), us.length = ps.length → bindArgs (PySem.W.fnOf x x (defArgs st) (defBody st) (defScope st) .none kV doc pm an cdv ct) ⟨us, []⟩ = pure (ps.zip us)) : Def K mg x st ps :=
  ⟨f, _, fun_mk (st := st) l c k, PySem.W.mg_of X G a, (fun_mk (st := st) l c k).binds hb⟩
theorem len1 {C : List Value → Prop} (k : ∀ a : Value, C [a]) : ∀ us : List Value, us.length = 1 → C us := by
  intro us h
  cases us with
  | nil => cases h
  | cons a t =>
    cases t with
    | nil => exact k a
    | cons b t => cases h
theorem len2 {C : List Value → Prop} (k : ∀ a b : Value, C [a, b]) : ∀ us : List Value, us.length = 2 → C us := by
  intro us h
  cases us with
  | nil => cases h
  | cons a t =>
    exact len1 (C := fun l => C (a :: l)) (fun b => k a b) t (Nat.succ.inj h)
theorem len3 {C : List Value → Prop} (k : ∀ a b c : Value, C [a, b, c]) : ∀ us : List Value, us.length = 3 → C us := by
  intro us h
  cases us with
  | nil => cases h
  | cons a t =>
    exact len2 (C := fun l => C (a :: l)) (fun b c => k a b c) t (Nat.succ.inj h)
theorem len4 {C : List Value → Prop} (k : ∀ a b c d : Value, C [a, b, c, d]) : ∀ us : List Value, us.length = 4 → C us := by
  intro us h
  cases us with
  | nil => cases h
  | cons a t =>
    exact len3 (C := fun l => C (a :: l)) (fun b c d => k a b c d) t (Nat.succ.inj h)
theorem lt5 {C : Nat → Prop} (c0 : C 0) (c1 : C 1) (c2 : C 2) (c3 : C 3) (c4 : C 4) : ∀ i, i < 5 → C i := by
  intro i h
  cases i with
  | zero => exact c0
  | succ i =>
    cases i with
    | zero => exact c1
    | succ i =>
      cases i with
      | zero => exact c2
      | succ i =>
        cases i with
        | zero => exact c3
        | succ i =>
          cases i with
          | zero => exact c4
          | succ i => exact absurd h (Nat.not_lt_of_le (Nat.le_add_left 5 i))
theorem walkZ {q : Program} {loose : List Str} {XP : (Str → Option Value) → Heap → Prop} {r : PySem.W.RowW} {d : DefRec} {kwd : List (Str × Expr)} {run : Value → List Value → Sem Value} {K : Params → PySem.W.Frag} {as : List Addr} {n t : Nat} (e : ∀ P, as = (K P).map (·.1))
    (h : PySem.W.WalkO q loose XP (fun w h => (K w.params).In h) r d kwd run) : PySem.W.WalkX q loose XP (PySem.W.X.obsZ as) (PySem.W.X.valZ K n t) r d kwd run :=
  fun w s₀ s₁ mg mb G y a o pm cd doc dV kV ho hd hcd hD hmg hg args vals bs L hpre hlay hrd hwl hlo =>
    h w s₀ s₁ mg mb G (PySem.W.InK.keeps w _ _ (PySem.W.X.z_facts e y).2.1 L.keeps) a o pm cd doc dV kV ho hd hcd hD hmg hg args vals bs hpre hlay hrd hwl hlo
theorem all_mk {l : PySem.W.OpenLaw} {w : World} {K : PySem.W.Frag} {h : Heap} {mg : Str → Option Value} {fa f1 f2 f3 f4 f5 f6 f7 f8 f9 f10 f11 f12 f13 f14 f15 f16 f17 : Addr} (X : K.In h) (G : h.Ns mainGlobals mg) (hfa : mg "law" = some (.ref fa))
    {od1 an1 od2 an2 od3 an3 od4 an4 od5 an5 od6 an6 od7 an7 od8 an8 od9 an9 od10 an10 od11 an11 od12 an12 od13 an13 od14 an14 od15 an15 od16 an16 od17 an17 : Option Addr} {sl1 sl2 sl3 sl4 sl5 sl6 sl7 sl8 sl9 sl10 sl11 sl12 sl13 sl14 sl15 sl16 sl17 : Array (Option Value)} {oc1 kV1 dc1 pm1 cd1 ct1 oc2 kV2 dc2 pm2 cd2 ct2 oc3 kV3 dc3 pm3 cd3 ct3 oc4 kV4 dc4 pm4 cd4 ct4 oc5 kV5 dc5 pm5 cd5 ct5 oc6 kV6 dc6 pm6 cd6 ct6 oc7 kV7 dc7 pm7 cd7 ct7 oc8 kV8 dc8 pm8 cd8 ct8 oc9 kV9 dc9 pm9 cd9 ct9 oc10 kV10 dc10 pm10 cd10 ct10 oc11 kV11 dc11 pm11 cd11 ct11 oc12 kV12 dc12 pm12 cd12 ct12 oc13 kV13 dc13 pm13 cd13 ct13 oc14 kV14 dc14 pm14 cd14 ct14 oc15 kV15 dc15 pm15 cd15 ct15 oc16 kV16 dc16 pm16 cd16 ct16 oc17 kV17 dc17 pm17 cd17 ct17 : Value} {tM : Tok} {e1 : Addr} {e2 : Addr} {e3 : Addr} {e4 : Addr} {e5 : Addr} {e6 : Addr} {tG : Tok} {tV : Tok}
    (a1 : PySem.W.nsIn K mainGlobals "check_count" = some (some (.ref f1))) (l1 : K.lookup f1 = some ⟨oc1, od1, .func (PySem.W.fnOf "check_count" "check_count" (defArgs sCheckCount) (defBody sCheckCount) (defScope sCheckCount) .none kV1 dc1 pm1 an1 cd1 ct1), sl1⟩) (c1 : PySem.W.codeIn K cd1 "check_count" = true) (k1 : PySem.W.keepIn K (.ref f1) = true)
    (a2 : PySem.W.nsIn K mainGlobals "check_voters" = some (some (.ref f2))) (l2 : K.lookup f2 = some ⟨oc2, od2, .func (PySem.W.fnOf "check_voters" "check_voters" (defArgs sCheckVoters) (defBody sCheckVoters) (defScope sCheckVoters) .none kV2 dc2 pm2 an2 cd2 ct2), sl2⟩) (c2 : PySem.W.codeIn K cd2 "check_voters" = true) (k2 : PySem.W.keepIn K (.ref f2) = true)
    (a3 : PySem.W.nsIn K mainGlobals "shown" = some (some (.ref f3))) (l3 : K.lookup f3 = some ⟨oc3, od3, .func (PySem.W.fnOf "shown" "shown" (defArgs sShown) (defBody sShown) (defScope sShown) .none kV3 dc3 pm3 an3 cd3 ct3), sl3⟩) (c3 : PySem.W.codeIn K cd3 "shown" = true) (k3 : PySem.W.keepIn K (.ref f3) = true)
    (a4 : PySem.W.nsIn K mainGlobals "figures_of" = some (some (.ref f4))) (l4 : K.lookup f4 = some ⟨oc4, od4, .func (PySem.W.fnOf "figures_of" "figures_of" (defArgs sFiguresOf) (defBody sFiguresOf) (defScope sFiguresOf) .none kV4 dc4 pm4 an4 cd4 ct4), sl4⟩) (c4 : PySem.W.codeIn K cd4 "figures_of" = true) (k4 : PySem.W.keepIn K (.ref f4) = true)
    (a5 : PySem.W.nsIn K mainGlobals "read" = some (some (.ref f5))) (l5 : K.lookup f5 = some ⟨oc5, od5, .func (PySem.W.fnOf "read" "read" (defArgs sRead) (defBody sRead) (defScope sRead) .none kV5 dc5 pm5 an5 cd5 ct5), sl5⟩) (c5 : PySem.W.codeIn K cd5 "read" = true) (k5 : PySem.W.keepIn K (.ref f5) = true)
    (a6 : PySem.W.nsIn K mainGlobals "number_of_things" = some (some (.ref f6))) (l6 : K.lookup f6 = some ⟨oc6, od6, .func (PySem.W.fnOf "number_of_things" "number_of_things" (defArgs sNumOf) (defBody sNumOf) (defScope sNumOf) .none kV6 dc6 pm6 an6 cd6 ct6), sl6⟩) (c6 : PySem.W.codeIn K cd6 "number_of_things" = true) (k6 : PySem.W.keepIn K (.ref f6) = true)
    (a7 : PySem.W.nsIn K mainGlobals "voter_of" = some (some (.ref f7))) (l7 : K.lookup f7 = some ⟨oc7, od7, .func (PySem.W.fnOf "voter_of" "voter_of" (defArgs sVoterOf) (defBody sVoterOf) (defScope sVoterOf) .none kV7 dc7 pm7 an7 cd7 ct7), sl7⟩) (c7 : PySem.W.codeIn K cd7 "voter_of" = true) (k7 : PySem.W.keepIn K (.ref f7) = true)
    (a8 : PySem.W.nsIn K mainGlobals "_law_cell_at" = some (some (.ref f8))) (l8 : K.lookup f8 = some ⟨oc8, od8, .func (PySem.W.fnOf "_law_cell_at" "_law_cell_at" (defArgs sCellAt) (defBody sCellAt) (defScope sCellAt) .none kV8 dc8 pm8 an8 cd8 ct8), sl8⟩) (c8 : PySem.W.codeIn K cd8 "_law_cell_at" = true) (k8 : PySem.W.keepIn K (.ref f8) = true)
    (a9 : PySem.W.nsIn K mainGlobals "_law_whole" = some (some (.ref f9))) (l9 : K.lookup f9 = some ⟨oc9, od9, .func (PySem.W.fnOf "_law_whole" "_law_whole" (defArgs sWhole) (defBody sWhole) (defScope sWhole) .none kV9 dc9 pm9 an9 cd9 ct9), sl9⟩) (c9 : PySem.W.codeIn K cd9 "_law_whole" = true) (k9 : PySem.W.keepIn K (.ref f9) = true)
    (a10 : PySem.W.nsIn K mainGlobals "_law_order" = some (some (.ref f10))) (l10 : K.lookup f10 = some ⟨oc10, od10, .func (PySem.W.fnOf "_law_order" "_law_order" (defArgs sOrder) (defBody sOrder) (defScope sOrder) .none kV10 dc10 pm10 an10 cd10 ct10), sl10⟩) (c10 : PySem.W.codeIn K cd10 "_law_order" = true) (k10 : PySem.W.keepIn K (.ref f10) = true)
    (a11 : PySem.W.nsIn K mainGlobals "_law_voters" = some (some (.ref f11))) (l11 : K.lookup f11 = some ⟨oc11, od11, .func (PySem.W.fnOf "_law_voters" "_law_voters" (defArgs sVoters) (defBody sVoters) (defScope sVoters) .none kV11 dc11 pm11 an11 cd11 ct11), sl11⟩) (c11 : PySem.W.codeIn K cd11 "_law_voters" = true) (k11 : PySem.W.keepIn K (.ref f11) = true)
    (a12 : PySem.W.nsIn K mainGlobals "_law_spoiled" = some (some (.ref f12))) (l12 : K.lookup f12 = some ⟨oc12, od12, .func (PySem.W.fnOf "_law_spoiled" "_law_spoiled" (defArgs sSpoiled) (defBody sSpoiled) (defScope sSpoiled) .none kV12 dc12 pm12 an12 cd12 ct12), sl12⟩) (c12 : PySem.W.codeIn K cd12 "_law_spoiled" = true) (k12 : PySem.W.keepIn K (.ref f12) = true)
    (a13 : PySem.W.nsIn K mainGlobals "_law_odd" = some (some (.ref f13))) (l13 : K.lookup f13 = some ⟨oc13, od13, .func (PySem.W.fnOf "_law_odd" "_law_odd" (defArgs sOdd) (defBody sOdd) (defScope sOdd) .none kV13 dc13 pm13 an13 cd13 ct13), sl13⟩) (c13 : PySem.W.codeIn K cd13 "_law_odd" = true) (k13 : PySem.W.keepIn K (.ref f13) = true)
    (a14 : PySem.W.nsIn K mainGlobals "_law_due" = some (some (.ref f14))) (l14 : K.lookup f14 = some ⟨oc14, od14, .func (PySem.W.fnOf "_law_due" "_law_due" (defArgs sDue) (defBody sDue) (defScope sDue) .none kV14 dc14 pm14 an14 cd14 ct14), sl14⟩) (c14 : PySem.W.codeIn K cd14 "_law_due" = true) (k14 : PySem.W.keepIn K (.ref f14) = true)
    (a15 : PySem.W.nsIn K mainGlobals "_law_told" = some (some (.ref f15))) (l15 : K.lookup f15 = some ⟨oc15, od15, .func (PySem.W.fnOf "_law_told" "_law_told" (defArgs sTold) (defBody sTold) (defScope sTold) .none kV15 dc15 pm15 an15 cd15 ct15), sl15⟩) (c15 : PySem.W.codeIn K cd15 "_law_told" = true) (k15 : PySem.W.keepIn K (.ref f15) = true)
    (a16 : PySem.W.nsIn K mainGlobals "_law_right" = some (some (.ref f16))) (l16 : K.lookup f16 = some ⟨oc16, od16, .func (PySem.W.fnOf "_law_right" "_law_right" (defArgs sRight) (defBody sRight) (defScope sRight) .none kV16 dc16 pm16 an16 cd16 ct16), sl16⟩) (c16 : PySem.W.codeIn K cd16 "_law_right" = true) (k16 : PySem.W.keepIn K (.ref f16) = true)
    (a17 : PySem.W.nsIn K mainGlobals "law" = some (some (.ref f17))) (l17 : K.lookup f17 = some ⟨oc17, od17, .func (PySem.W.fnOf "law" "law" (defArgs sLaw) (defBody sLaw) (defScope sLaw) .none kV17 dc17 pm17 an17 cd17 ct17), sl17⟩) (c17 : PySem.W.codeIn K cd17 "law" = true) (k17 : PySem.W.keepIn K (.ref f17) = true)
    (m1 : PySem.W.nsIn K mainGlobals "MOST_THINGS" = some (some (.int 6 tM)))
    (m2 : PySem.W.nsIn K mainGlobals "BadCount" = some (some (.ref e1)))
    (m3 : PySem.W.nsIn K mainGlobals "BadVoter" = some (some (.ref e2)))
    (m4 : PySem.W.nsIn K mainGlobals "BadWeb" = some (some (.ref e3)))
    (m5 : PySem.W.nsIn K mainGlobals "TooMany" = some (some (.ref e4)))
    (m6 : PySem.W.nsIn K mainGlobals "BadNote" = some (some (.ref e5)))
    (m7 : PySem.W.nsIn K mainGlobals "BeatError" = some (some (.ref e6)))
    (m8 : PySem.W.nsIn K mainGlobals "FIGURES" = some (some (.str "0123456" tG)))
    (m9 : PySem.W.nsIn K mainGlobals "MOST_VOTERS" = some (some (.int 60 tV)))
    (z1 : PySem.W.nsIn K mainGlobals "range" = some none)
    (z2 : PySem.W.nsIn K mainGlobals "len" = some none)
    (z3 : PySem.W.nsIn K mainGlobals "list" = some none)
    (z4 : PySem.W.nsIn K mainGlobals "sorted" = some none)
    (z5 : PySem.W.nsIn K mainGlobals "tuple" = some none)
    (z6 : PySem.W.nsIn K mainGlobals "isinstance" = some none)
    (z7 : PySem.W.nsIn K mainGlobals "int" = some none)
    (z8 : PySem.W.nsIn K mainGlobals "bool" = some none)
    (z9 : PySem.W.nsIn K mainGlobals "all" = some none)
    (z10 : PySem.W.nsIn K mainGlobals "set" = some none)
    (z11 : PySem.W.nsIn K mainGlobals "reversed" = some none)
    (z12 : PySem.W.nsIn K mainGlobals "str" = some none)
    (z13 : PySem.W.nsIn K mainGlobals "ValueError" = some none)
    (q1 : isExcB K e1 = true)
    (q2 : isExcB K e2 = true)
    (q3 : isExcB K e3 = true)
    (q4 : isExcB K e4 = true)
    (q5 : isExcB K e5 = true)
    (c_1 : PySem.W.exmOne K (.ref e1) (.ref e6) = some true)
    (c_2 : PySem.W.exmOne K (.ref e2) (.ref e6) = some true)
    (c_3 : PySem.W.exmOne K (.ref e3) (.ref e6) = some true)
    (c_4 : PySem.W.exmOne K (.ref e4) (.ref e6) = some true)
    (c_5 : PySem.W.exmOne K (.ref e5) (.ref e6) = some true)
    (gt : PySem.W.specialIn K (.builtin "object.__class__") "__get__" = some (some (.builtin "getset_descriptor.__get__")))
    (tk : PySem.W.takesIn K (.builtin "object.__class__") = some true)
    (s1 : (PySem.W.clsIn K e1).isSome = true)
    (p1 : PySem.W.findIn K (.ref e1) "__getattribute__" = some (some (.builtin "BaseException.__getattribute__")))
    (nh1 : PySem.W.findIn K (.ref e1) "__getattr__" = some none)
    (mx1 : PySem.W.mroIn K e1 (.type "BaseException") = some true)
    (at1 : PySem.W.findIn K (.ref e1) "__class__" = some (some (.builtin "object.__class__")))
    (mr1 : PySem.W.mroIn K e1 (.type "object") = some true)
    (i11 : PySem.W.kitOne K (.ref e1) (.ref e1) = some true)
    (i12 : PySem.W.kitOne K (.ref e1) (.ref e2) = some false)
    (i13 : PySem.W.kitOne K (.ref e1) (.ref e3) = some false)
    (i14 : PySem.W.kitOne K (.ref e1) (.ref e4) = some false)
    (i15 : PySem.W.kitOne K (.ref e1) (.ref e5) = some false)
    (v1 : PySem.W.kitOne K (.ref e1) (.type "ValueError") = some true)
    (s2 : (PySem.W.clsIn K e2).isSome = true)
    (p2 : PySem.W.findIn K (.ref e2) "__getattribute__" = some (some (.builtin "BaseException.__getattribute__")))
    (nh2 : PySem.W.findIn K (.ref e2) "__getattr__" = some none)
    (mx2 : PySem.W.mroIn K e2 (.type "BaseException") = some true)
    (at2 : PySem.W.findIn K (.ref e2) "__class__" = some (some (.builtin "object.__class__")))
    (mr2 : PySem.W.mroIn K e2 (.type "object") = some true)
    (i21 : PySem.W.kitOne K (.ref e2) (.ref e1) = some false)
    (i22 : PySem.W.kitOne K (.ref e2) (.ref e2) = some true)
    (i23 : PySem.W.kitOne K (.ref e2) (.ref e3) = some false)
    (i24 : PySem.W.kitOne K (.ref e2) (.ref e4) = some false)
    (i25 : PySem.W.kitOne K (.ref e2) (.ref e5) = some false)
    (v2 : PySem.W.kitOne K (.ref e2) (.type "ValueError") = some true)
    (s3 : (PySem.W.clsIn K e3).isSome = true)
    (p3 : PySem.W.findIn K (.ref e3) "__getattribute__" = some (some (.builtin "BaseException.__getattribute__")))
    (nh3 : PySem.W.findIn K (.ref e3) "__getattr__" = some none)
    (mx3 : PySem.W.mroIn K e3 (.type "BaseException") = some true)
    (at3 : PySem.W.findIn K (.ref e3) "__class__" = some (some (.builtin "object.__class__")))
    (mr3 : PySem.W.mroIn K e3 (.type "object") = some true)
    (i31 : PySem.W.kitOne K (.ref e3) (.ref e1) = some false)
    (i32 : PySem.W.kitOne K (.ref e3) (.ref e2) = some false)
    (i33 : PySem.W.kitOne K (.ref e3) (.ref e3) = some true)
    (i34 : PySem.W.kitOne K (.ref e3) (.ref e4) = some false)
    (i35 : PySem.W.kitOne K (.ref e3) (.ref e5) = some false)
    (v3 : PySem.W.kitOne K (.ref e3) (.type "ValueError") = some true)
    (s4 : (PySem.W.clsIn K e4).isSome = true)
    (p4 : PySem.W.findIn K (.ref e4) "__getattribute__" = some (some (.builtin "BaseException.__getattribute__")))
    (nh4 : PySem.W.findIn K (.ref e4) "__getattr__" = some none)
    (mx4 : PySem.W.mroIn K e4 (.type "BaseException") = some true)
    (at4 : PySem.W.findIn K (.ref e4) "__class__" = some (some (.builtin "object.__class__")))
    (mr4 : PySem.W.mroIn K e4 (.type "object") = some true)
    (i41 : PySem.W.kitOne K (.ref e4) (.ref e1) = some false)
    (i42 : PySem.W.kitOne K (.ref e4) (.ref e2) = some false)
    (i43 : PySem.W.kitOne K (.ref e4) (.ref e3) = some false)
    (i44 : PySem.W.kitOne K (.ref e4) (.ref e4) = some true)
    (i45 : PySem.W.kitOne K (.ref e4) (.ref e5) = some false)
    (v4 : PySem.W.kitOne K (.ref e4) (.type "ValueError") = some true)
    (s5 : (PySem.W.clsIn K e5).isSome = true)
    (p5 : PySem.W.findIn K (.ref e5) "__getattribute__" = some (some (.builtin "BaseException.__getattribute__")))
    (nh5 : PySem.W.findIn K (.ref e5) "__getattr__" = some none)
    (mx5 : PySem.W.mroIn K e5 (.type "BaseException") = some true)
    (at5 : PySem.W.findIn K (.ref e5) "__class__" = some (some (.builtin "object.__class__")))
    (mr5 : PySem.W.mroIn K e5 (.type "object") = some true)
    (i51 : PySem.W.kitOne K (.ref e5) (.ref e1) = some false)
    (i52 : PySem.W.kitOne K (.ref e5) (.ref e2) = some false)
    (i53 : PySem.W.kitOne K (.ref e5) (.ref e3) = some false)
    (i54 : PySem.W.kitOne K (.ref e5) (.ref e4) = some false)
    (i55 : PySem.W.kitOne K (.ref e5) (.ref e5) = some true)
    (v5 : PySem.W.kitOne K (.ref e5) (.type "ValueError") = some true)
    (mcc : PySem.W.exmOne K (.ref e1) (.ref e1) = some true)
    (mvc : PySem.W.exmOne K (.ref e2) (.ref e1) = some false)
    (mvv : PySem.W.exmOne K (.ref e2) (.ref e2) = some true)
    : ∃ fd : FuncData, (∀ (s : Shared) (v : Value), BindsTo s fd ⟨[v], []⟩ [("script", v)]) ∧ ∀ base : Heap, K.In base → base.Ns mainGlobals mg → FnOk l.prog w K mg base CX0 5 fa fd ["script"] (spLaw K) := by
  have e := hfa.symm.trans (PySem.W.mg_of X G a17)
  cases e
  let d1 : Def K mg "check_count" sCheckCount ["many"] := mkDef X G a1 l1 c1 k1 fun _ _ _ _ _ _ => len1 fun _ => rfl
  let d2 : Def K mg "check_voters" sCheckVoters ["many", "voters"] := mkDef X G a2 l2 c2 k2 fun _ _ _ _ _ _ => len2 fun _ _ => rfl
  let d3 : Def K mg "shown" sShown ["many", "voters"] := mkDef X G a3 l3 c3 k3 fun _ _ _ _ _ _ => len2 fun _ _ => rfl
  let d4 : Def K mg "figures_of" sFiguresOf ["voter"] := mkDef X G a4 l4 c4 k4 fun _ _ _ _ _ _ => len1 fun _ => rfl
  let d5 : Def K mg "read" sRead ["text"] := mkDef X G a5 l5 c5 k5 fun _ _ _ _ _ _ => len1 fun _ => rfl
  let d6 : Def K mg "number_of_things" sNumOf ["head"] := mkDef X G a6 l6 c6 k6 fun _ _ _ _ _ _ => len1 fun _ => rfl
  let d7 : Def K mg "voter_of" sVoterOf ["part"] := mkDef X G a7 l7 c7 k7 fun _ _ _ _ _ _ => len1 fun _ => rfl
  let d8 : Def K mg "_law_cell_at" sCellAt ["script", "k"] := mkDef X G a8 l8 c8 k8 fun _ _ _ _ _ _ => len2 fun _ _ => rfl
  let d9 : Def K mg "_law_whole" sWhole ["found"] := mkDef X G a9 l9 c9 k9 fun _ _ _ _ _ _ => len1 fun _ => rfl
  let d10 : Def K mg "_law_order" sOrder ["cell", "many"] := mkDef X G a10 l10 c10 k10 fun _ _ _ _ _ _ => len2 fun _ _ => rfl
  let d11 : Def K mg "_law_voters" sVoters ["script", "start", "many", "most"] := mkDef X G a11 l11 c11 k11 fun _ _ _ _ _ _ => len4 fun _ _ _ _ => rfl
  let d12 : Def K mg "_law_spoiled" sSpoiled ["text", "way", "cell", "other"] := mkDef X G a12 l12 c12 k12 fun _ _ _ _ _ _ => len4 fun _ _ _ _ => rfl
  let d13 : Def K mg "_law_odd" sOdd ["cell"] := mkDef X G a13 l13 c13 k13 fun _ _ _ _ _ _ => len1 fun _ => rfl
  let d14 : Def K mg "_law_due" sDue ["text"] := mkDef X G a14 l14 c14 k14 fun _ _ _ _ _ _ => len1 fun _ => rfl
  let d15 : Def K mg "_law_told" sTold ["text"] := mkDef X G a15 l15 c15 k15 fun _ _ _ _ _ _ => len1 fun _ => rfl
  let d16 : Def K mg "_law_right" sRight ["found", "due"] := mkDef X G a16 l16 c16 k16 fun _ _ _ _ _ _ => len2 fun _ _ => rfl
  let d17 : Def K mg "law" sLaw ["script"] := mkDef X G a17 l17 c17 k17 fun _ _ _ _ _ _ => len1 fun _ => rfl
  have y1 := PySem.W.mg_none_of X G z1
  have y2 := PySem.W.mg_none_of X G z2
  have y3 := PySem.W.mg_none_of X G z3
  have y4 := PySem.W.mg_none_of X G z4
  have y5 := PySem.W.mg_none_of X G z5
  have y6 := PySem.W.mg_none_of X G z6
  have y7 := PySem.W.mg_none_of X G z7
  have y8 := PySem.W.mg_none_of X G z8
  have y9 := PySem.W.mg_none_of X G z9
  have y10 := PySem.W.mg_none_of X G z10
  have y11 := PySem.W.mg_none_of X G z11
  have y12 := PySem.W.mg_none_of X G z12
  have y13 := PySem.W.mg_none_of X G z13
  have x1 := PySem.W.mg_of X G m1
  have x2 := PySem.W.mg_of X G m2
  have x3 := PySem.W.mg_of X G m3
  have x4 := PySem.W.mg_of X G m4
  have x5 := PySem.W.mg_of X G m5
  have x6 := PySem.W.mg_of X G m6
  have x7 := PySem.W.mg_of X G m7
  have x8 := PySem.W.mg_of X G m8
  have x9 := PySem.W.mg_of X G m9
  have B : Blt mg := ⟨y1, y2, y3, y4, y5, y6, y7, y8, y9, y10, y11, y12⟩
  let er : Errs K mg := ⟨e1, e2, e3, e4, e5, e6, x2, x3, x4, x5, x6, x7, q1, q2, q3, q4, q5⟩
  have kin : Kin er := ⟨lt5 c_1 c_2 c_3 c_4 c_5, lt5 ⟨s1, p1, nh1, at1, gt, tk, mr1, mx1⟩ ⟨s2, p2, nh2, at2, gt, tk, mr2, mx2⟩ ⟨s3, p3, nh3, at3, gt, tk, mr3, mx3⟩ ⟨s4, p4, nh4, at4, gt, tk, mr4, mx4⟩ ⟨s5, p5, nh5, at5, gt, tk, mr5, mx5⟩, lt5 (lt5 i11 i12 i13 i14 i15) (lt5 i21 i22 i23 i24 i25) (lt5 i31 i32 i33 i34 i35) (lt5 i41 i42 i43 i44 i45) (lt5 i51 i52 i53 i54 i55), lt5 v1 v2 v3 v4 v5⟩
  have hve := y13
  have kin2 : Kin2 er := ⟨mcc, mvc, mvv⟩
  have GN : GlobN mg := ⟨⟨tG, x8⟩, ⟨tV, x9⟩⟩
  have Gb : Glob mg := ⟨tM, x1⟩
  refine ⟨d17.fd, fun s v => .of_eq rfl, fun base _ _ => ?_⟩
  have G1 := ok_count (P := l.prog) (w := w) (base := base) d1 Gb
  have G2 := ok_checkVoters d2 B d1 G1
  have G4 := ok_figures (P := l.prog) (w := w) (base := base) d4 B
  have G3 := ok_shown d3 d2 G2 d4 G4
  have G6 := ok_numOf (P := l.prog) (w := w) (base := base) d6 B GN er
  have G7 := ok_voterOf (P := l.prog) (w := w) (base := base) d7 B GN
  have G8 := ok_cell (P := l.prog) (w := w) (base := base) d8 B
  have G9 := ok_whole (P := l.prog) (w := w) (base := base) d9 B
  have G10 := ok_order (P := l.prog) (w := w) (base := base) d10 B
  have G11 := ok_lawVoters d11 B d8 G8 d10 G10
  have G12 := ok_lawSpoiled (P := l.prog) (w := w) (base := base) d12 B
  have G13 := ok_lawOdd (P := l.prog) (w := w) (base := base) d13 B
  have G14 := ok_lawDue (P := l.prog) (w := w) (base := base) d14 B
  have G16 := ok_lawRight7 d16 B d9 G9
  have ckC := cks_count (P := l.prog) (w := w) (base := base) d1 Gb er
  have ckV := cks_voters d2 B er d1 ckC
  have gRead := ok_read d5 B GN er kin2 d6 G6 d7 G7 d2 ckV
  have gTold := ok_lawTold d15 B hve er kin d5 gRead
  exact ok_law d17 B d8 G8 d11 G11 d3 G3 d12 G12 d13 G13 d14 G14 d15 gTold d16 G16
theorem walk {l : PySem.W.OpenLaw} {q : Program} {loose : List Str} {XP : (Str → Option Value) → Heap → Prop} {YP : World → Heap → Prop} {d : DefRec} {K : Params → PySem.W.Frag} (hn : l.most = some 63) (hdf : d.params.defaults = [])
    (hY : ∀ (w : World) (h : Heap), YP w h → (K w.params).In h)
    (F : ∀ (w : World) (mg : Str → Option Value) (fa : Addr) (h : Heap), (K w.params).In h → h.Ns mainGlobals mg → mg d.name = some (.ref fa) →
      ∃ fd : FuncData, (∀ (s : Shared) (u : Value), BindsTo s fd ⟨[u], []⟩ [("script", u)]) ∧ ∀ base : Heap, (K w.params).In base → base.Ns mainGlobals mg → FnOk l.prog w (K w.params) mg base CX0 5 fa fd ["script"] (spLaw (K w.params))) :
    PySem.W.WalkO q loose XP YP l.row.toRowW d [] (fun f vs => PySem.call f vs) :=
  L2.walk_of (n := 63) (k := 5) (x := "script") (CX := fun _ => CX0) (sp := fun w => spLaw (K w.params)) hn (by decide) hdf ⟨rfl, by decide, by decide⟩ hY F (fun _ _ a ns hl _ hS => ⟨a, ns, rfl, hS, hl, fun _ => rfl⟩) fun _ _ _ _ _ z => z
end Bm
open PySem PySem.W PyProof.Rows
set_option maxRecDepth 100000 in
set_option maxHeartbeats 0 in
theorem PySem.Challenge.cw_beatmakers_k07_voters_written_holds : PySem.Challenge.rw_beatmakers_k07_voters_written.Holds := by
  w_on; o_law; z_head; (case hw => w_witness2)
  k_fill
  refine Bm.walkZ (fun _ => by kernel_rfl) (Bm.walk (l := PySem.Challenge.rw_beatmakers_k07_voters_written) rfl rfl (fun w h Y => Y) ?F)
  case F =>
    intro w mg fa h KX G hmg
    refine' Bm.all_mk KX G hmg ?a1 ?l1 ?c1 ?k1 ?a2 ?l2 ?c2 ?k2 ?a3 ?l3 ?c3 ?k3 ?a4 ?l4 ?c4 ?k4 ?a5 ?l5 ?c5 ?k5 ?a6 ?l6 ?c6 ?k6 ?a7 ?l7 ?c7 ?k7 ?a8 ?l8 ?c8 ?k8 ?a9 ?l9 ?c9 ?k9 ?a10 ?l10 ?c10 ?k10 ?a11 ?l11 ?c11 ?k11 ?a12 ?l12 ?c12 ?k12 ?a13 ?l13 ?c13 ?k13 ?a14 ?l14 ?c14 ?k14 ?a15 ?l15 ?c15 ?k15 ?a16 ?l16 ?c16 ?k16 ?a17 ?l17 ?c17 ?k17 ?m1 ?m2 ?m3 ?m4 ?m5 ?m6 ?m7 ?m8 ?m9 ?z1 ?z2 ?z3 ?z4 ?z5 ?z6 ?z7 ?z8 ?z9 ?z10 ?z11 ?z12 ?z13 ?q1 ?q2 ?q3 ?q4 ?q5 ?c_1 ?c_2 ?c_3 ?c_4 ?c_5 ?gt ?tk ?s1 ?p1 ?nh1 ?mx1 ?at1 ?mr1 ?i11 ?i12 ?i13 ?i14 ?i15 ?v1 ?s2 ?p2 ?nh2 ?mx2 ?at2 ?mr2 ?i21 ?i22 ?i23 ?i24 ?i25 ?v2 ?s3 ?p3 ?nh3 ?mx3 ?at3 ?mr3 ?i31 ?i32 ?i33 ?i34 ?i35 ?v3 ?s4 ?p4 ?nh4 ?mx4 ?at4 ?mr4 ?i41 ?i42 ?i43 ?i44 ?i45 ?v4 ?s5 ?p5 ?nh5 ?mx5 ?at5 ?mr5 ?i51 ?i52 ?i53 ?i54 ?i55 ?v5 ?mcc ?mvc ?mvv
    (case a1 => k_is); (case l1 => k_is); (case c1 => k_is); (case k1 => k_is)
    (case a2 => k_is); (case l2 => k_is); (case c2 => k_is); (case k2 => k_is)
    (case a3 => k_is); (case l3 => k_is); (case c3 => k_is); (case k3 => k_is)
    (case a4 => k_is); (case l4 => k_is); (case c4 => k_is); (case k4 => k_is)
    (case a5 => k_is); (case l5 => k_is); (case c5 => k_is); (case k5 => k_is)
    (case a6 => k_is); (case l6 => k_is); (case c6 => k_is); (case k6 => k_is)
    (case a7 => k_is); (case l7 => k_is); (case c7 => k_is); (case k7 => k_is)
    (case a8 => k_is); (case l8 => k_is); (case c8 => k_is); (case k8 => k_is)
    (case a9 => k_is); (case l9 => k_is); (case c9 => k_is); (case k9 => k_is)
    (case a10 => k_is); (case l10 => k_is); (case c10 => k_is); (case k10 => k_is)
    (case a11 => k_is); (case l11 => k_is); (case c11 => k_is); (case k11 => k_is)
    (case a12 => k_is); (case l12 => k_is); (case c12 => k_is); (case k12 => k_is)
    (case a13 => k_is); (case l13 => k_is); (case c13 => k_is); (case k13 => k_is)
    (case a14 => k_is); (case l14 => k_is); (case c14 => k_is); (case k14 => k_is)
    (case a15 => k_is); (case l15 => k_is); (case c15 => k_is); (case k15 => k_is)
    (case a16 => k_is); (case l16 => k_is); (case c16 => k_is); (case k16 => k_is)
    (case a17 => k_is); (case l17 => k_is); (case c17 => k_is); (case k17 => k_is)
    (case m1 => k_is); (case m2 => k_is); (case m3 => k_is); (case m4 => k_is)
    (case m5 => k_is); (case m6 => k_is); (case m7 => k_is); (case m8 => k_is)
    (case m9 => k_is); (case z1 => k_is); (case z2 => k_is); (case z3 => k_is)
    (case z4 => k_is); (case z5 => k_is); (case z6 => k_is); (case z7 => k_is)
    (case z8 => k_is); (case z9 => k_is); (case z10 => k_is); (case z11 => k_is)
    (case z12 => k_is); (case z13 => k_is); (case q1 => kernel_rfl); (case q2 => kernel_rfl)
    (case q3 => kernel_rfl); (case q4 => kernel_rfl); (case q5 => kernel_rfl); (case c_1 => kernel_rfl)
    (case c_2 => kernel_rfl); (case c_3 => kernel_rfl); (case c_4 => kernel_rfl); (case c_5 => kernel_rfl)
    (case gt => kernel_rfl); (case tk => kernel_rfl); (case s1 => kernel_rfl); (case p1 => kernel_rfl)
    (case nh1 => kernel_rfl); (case mx1 => kernel_rfl); (case at1 => kernel_rfl); (case mr1 => kernel_rfl)
    (case i11 => kernel_rfl); (case i12 => kernel_rfl); (case i13 => kernel_rfl); (case i14 => kernel_rfl)
    (case i15 => kernel_rfl); (case v1 => kernel_rfl); (case s2 => kernel_rfl); (case p2 => kernel_rfl)
    (case nh2 => kernel_rfl); (case mx2 => kernel_rfl); (case at2 => kernel_rfl); (case mr2 => kernel_rfl)
    (case i21 => kernel_rfl); (case i22 => kernel_rfl); (case i23 => kernel_rfl); (case i24 => kernel_rfl)
    (case i25 => kernel_rfl); (case v2 => kernel_rfl); (case s3 => kernel_rfl); (case p3 => kernel_rfl)
    (case nh3 => kernel_rfl); (case mx3 => kernel_rfl); (case at3 => kernel_rfl); (case mr3 => kernel_rfl)
    (case i31 => kernel_rfl); (case i32 => kernel_rfl); (case i33 => kernel_rfl); (case i34 => kernel_rfl)
    (case i35 => kernel_rfl); (case v3 => kernel_rfl); (case s4 => kernel_rfl); (case p4 => kernel_rfl)
    (case nh4 => kernel_rfl); (case mx4 => kernel_rfl); (case at4 => kernel_rfl); (case mr4 => kernel_rfl)
    (case i41 => kernel_rfl); (case i42 => kernel_rfl); (case i43 => kernel_rfl); (case i44 => kernel_rfl)
    (case i45 => kernel_rfl); (case v4 => kernel_rfl); (case s5 => kernel_rfl); (case p5 => kernel_rfl)
    (case nh5 => kernel_rfl); (case mx5 => kernel_rfl); (case at5 => kernel_rfl); (case mr5 => kernel_rfl)
    (case i51 => kernel_rfl); (case i52 => kernel_rfl); (case i53 => kernel_rfl); (case i54 => kernel_rfl)
    (case i55 => kernel_rfl); (case v5 => kernel_rfl); (case mcc => kernel_rfl); (case mvc => kernel_rfl)
    (case mvv => kernel_rfl)
