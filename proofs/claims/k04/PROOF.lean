import PyProof.Rows.All
import Wide.All
import OpenK.AllK
import Wide.FinOn
import Lean
import PyProof.EqAt
import PyProof.EqKinds
import PyProof.TupleCall
import PySem.Challenge.RW_beatmakers_k04_whole_the_fewest_voters
set_option Elab.async false
set_option linter.all false
set_option maxRecDepth 100000
namespace L2
open PySem PySem.Spec PyProof.Rows
noncomputable abbrev Key := Sum Int Str
noncomputable def keyIs : Key → Value → Bool
  | .inl k, v => Value.isInt k v
  | .inr x, v => Value.isStrOf x v
noncomputable def keyH (w : World) : Key → Int
  | .inl k => hashInt k
  | .inr x => hashStr w x
theorem keyIs_shape : ∀ {k : Key} {v : Value}, keyIs k v = true → (∃ i t, k = Sum.inl i ∧ v = Value.int i t) ∨ (∃ x t, k = Sum.inr x ∧ v = Value.str x t)
  | .inl i, v, h => by
    obtain ⟨t, e⟩ := Value.isInt_shape (k := i) (v := v) h
    exact .inl ⟨i, t, rfl, e⟩
  | .inr x, v, h => by
    obtain ⟨t, e⟩ := Value.isStrOf_shape (x := x) (v := v) h
    exact .inr ⟨x, t, rfl, e⟩
theorem keyIs_int (i : Int) (t : Tok) : keyIs (.inl i) (.int i t) = true := by simp [keyIs, Value.isInt]
theorem keyIs_str (x : Str) (t : Tok) : keyIs (.inr x) (.str x t) = true := by simp [keyIs, Value.isStrOf]
theorem key_ll (a b : Int) : decide ((Sum.inl a : Key) = Sum.inl b) = (a == b) := by
  by_cases e : a = b
  · subst e; simp
  · have h : ¬ (Sum.inl a : Key) = Sum.inl b := fun q => e (Sum.inl.inj q)
    rw [decide_eq_false h]
    exact (beq_eq_false_iff_ne.mpr e).symm
theorem key_rr (a b : Str) : decide ((Sum.inr a : Key) = Sum.inr b) = decide (a = b) := by
  by_cases e : a = b
  · subst e; simp
  · have h : ¬ (Sum.inr a : Key) = Sum.inr b := fun q => e (Sum.inr.inj q)
    rw [decide_eq_false h, decide_eq_false e]
theorem key_lr (a : Int) (b : Str) : decide ((Sum.inl a : Key) = Sum.inr b) = false := decide_eq_false (fun q => nomatch q)
theorem key_rl (a : Str) (b : Int) : decide ((Sum.inr a : Key) = Sum.inl b) = false := decide_eq_false (fun q => nomatch q)
noncomputable def mixKind (prog : Program) (w : World) : PySem.KeyKind prog w Key where
  is := keyIs
  hash := keyH w
  inj := fun v a b ha hb => by
    rcases keyIs_shape ha with ⟨i, t, rfl, rfl⟩ | ⟨x, t, rfl, rfl⟩
    · rcases keyIs_shape hb with ⟨j, u, rfl, e⟩ | ⟨y, u, rfl, e⟩
      · injection e with e1 _; rw [e1]
      · exact nomatch e
    · rcases keyIs_shape hb with ⟨j, u, rfl, e⟩ | ⟨y, u, rfl, e⟩
      · exact nomatch e
      · injection e with e1 _; rw [e1]
  byValue := fun k v h => by
    rcases keyIs_shape h with ⟨i, t, rfl, rfl⟩ | ⟨x, t, rfl, rfl⟩ <;> rfl
  pyHash := fun hv h => by
    rcases keyIs_shape hv with ⟨i, t, rfl, rfl⟩ | ⟨x, t, rfl, rfl⟩
    · exact wpAny_pyHash_int h
    · exact wpAny_pyHash_str h
  eqBool := fun hu hv h => by
    rcases keyIs_shape hu with ⟨i, t, rfl, rfl⟩ | ⟨x, t, rfl, rfl⟩
    · rcases keyIs_shape hv with ⟨j, u, rfl, rfl⟩ | ⟨y, u, rfl, rfl⟩
      · rw [key_ll] at h; exact wpAny_eqBool_int h
      · rw [key_lr] at h; exact SeqAt.EqAt.int_str i t y u _ _ _ _ h
    · rcases keyIs_shape hv with ⟨j, u, rfl, rfl⟩ | ⟨y, u, rfl, rfl⟩
      · rw [key_rl] at h; exact SeqAt.EqAt.str_int x t j u _ _ _ _ h
      · rw [key_rr] at h; exact wpAny_eqBool_str h
  «strs» := fun k x t v h => by
    rcases keyIs_shape h with ⟨i, u, rfl, e⟩ | ⟨y, u, rfl, e⟩
    · exact nomatch e
    · injection e with e1 _
      subst e1
      cases v <;> rfl
theorem mixKind_int (prog : Program) (w : World) (i : Int) (t : Tok) : (mixKind prog w).is (.inl i) (.int i t) = true := keyIs_int i t
theorem mixKind_str (prog : Program) (w : World) (x : Str) (t : Tok) : (mixKind prog w).is (.inr x) (.str x t) = true := keyIs_str x t
end L2
namespace L2
open PySem PySem.Spec PyProof.Rows
inductive V where
  | non | bl (b : Bool) | int (i : Int) | str (x : Str) | byt (b : Array UInt8) | flt (b : UInt64) | ref (a : Addr) | ty (n : String)
  deriving DecidableEq
noncomputable def RelV : V → Value → Prop
  | .non, u => u = Value.none
  | .bl b, u => u = Value.bool b
  | .int i, u => ∃ t, u = Value.int i t
  | .str x, u => ∃ t, u = Value.str x t
  | .byt b, u => ∃ t, u = Value.bytes b t
  | .flt b, u => ∃ t, u = Value.float b t
  | .ref a, u => u = Value.ref a
  | .ty n, u => u = Value.type n
noncomputable abbrev Vals : List V → List Value → Prop := Paired RelV
theorem Vals.length {xs : List V} {us : List Value} (r : Vals xs us) : xs.length = us.length := Paired.length r
theorem Vals.get : ∀ {xs : List V} {us : List Value} {i : Nat} {x : V}, Vals xs us → xs[i]? = some x → ∃ u, us[i]? = some u ∧ RelV x u
  | _, _, _, _, .nil, e => by simp at e
  | _, _, 0, _, .cons r _, e => by simp at e; subst e; exact ⟨_, rfl, r⟩
  | _, _, i + 1, x, .cons _ t, e => by
    obtain ⟨u, h1, h2⟩ := Vals.get (i := i) (x := x) t (by simpa using e)
    exact ⟨u, by simpa using h1, h2⟩
theorem Vals.append : ∀ {xs ys : List V} {us ws : List Value}, Vals xs us → Vals ys ws → Vals (xs ++ ys) (us ++ ws)
  | _, _, _, _, .nil, s => s
  | _, _, _, _, .cons r t, s => .cons r (Vals.append t s)
theorem Vals.take : ∀ {xs : List V} {us : List Value} (n : Nat), Vals xs us → Vals (xs.take n) (us.take n)
  | _, _, 0, _ => .nil
  | _, _, _ + 1, .nil => .nil
  | _, _, n + 1, .cons r t => .cons r (Vals.take n t)
theorem Vals.drop : ∀ {xs : List V} {us : List Value} (n : Nat), Vals xs us → Vals (xs.drop n) (us.drop n)
  | _, _, 0, r => r
  | _, _, _ + 1, .nil => .nil
  | _, _, n + 1, .cons _ t => Vals.drop n t
noncomputable def RelO : Option V → Option Value → Prop
  | some v, some u => RelV v u
  | none, none => True
  | _, _ => False
noncomputable def KV {κ : Type} : List (κ × V) → List (κ × Value) → Prop := Paired fun (p : κ × V) (q : κ × Value) => p.1 = q.1 ∧ RelV p.2 q.2
noncomputable def kV : Key → V
  | .inl i => .int i
  | .inr x => .str x
inductive HO where
  /-- a list -/
  | lst (xs : List V)
  /-- a tuple (never changes) -/
  | tup (xs : List V)
  /-- a dict whose keys are ints and texts; one whose keys are tuples of ints and texts (the empty one is both) -/
  | dK (kvs : List (Key × V)) | dT (kvs : List (List Key × V))
  /-- a set of ints: its members, its size -/
  | set (S : Int → Bool) (n : Nat)
  /-- an instance of the class at C, its dict at dx, its attributes -/
  | ins (C dx : Addr) (fs : List (Str × V))
  /-- the dict of the instance at x -/
  | own (x : Addr)
  /-- the dict of an exception -/
  | xd (fs : List (Str × V))
  /-- a bound method, f of x -/
  | met (f x : Addr)
  /-- a range object lo, lo + 1, .. below hi -/
  | rng (lo hi : Int)
  /-- a thing that is known to the object (the script; a dict while a loop walks it): read, never written while it is so -/
  | frz (o : Obj) (u : HO)
  /-- a code object's table -/
  | tbl (ps : Array Value)
  /-- any other thing, by what is true of its one object (a def of one's own: SetO a S n := HO.ext fun h => ..) -/
  | ext (φ : Heap → Prop)
noncomputable abbrev Hp := Addr → Option HO
noncomputable def upd (H : Hp) (a : Addr) (o : HO) : Hp := fun b => if b = a then some o else H b
theorem upd_same {H : Hp} {a : Addr} {o : HO} : upd H a o a = some o := by unfold upd; rw [if_pos rfl]
theorem upd_ne {H : Hp} {a b : Addr} {o : HO} (h : b ≠ a) : upd H a o b = H b := by unfold upd; rw [if_neg h]
theorem ne_of {H : Hp} {a b : Addr} {o u : HO} (h : H a = some o) (h' : H b = some u) (d : o ≠ u) : a ≠ b := by
  intro e; subst e; rw [h] at h'; exact d (Option.some.inj h')
theorem ne_of_none {H : Hp} {a b : Addr} {o : HO} (h : H a = some o) (h' : H b = none) : a ≠ b := by
  intro e; subst e; rw [h] at h'; cases h'
noncomputable def TupP (h : Heap) (a : Addr) (items : Array Value) : Prop := ∃ o, h.get? a = some o ∧ o.cls = .type "tuple" ∧ o.dict = none ∧ ∃ n, o.data = .seq items n
theorem TupP.tup {h : Heap} {a : Addr} {items : Array Value} (x : TupP h a items) : IsTup h a items := let ⟨o, e, c, _, d⟩ := x; ⟨o, e, c, d⟩
theorem TupP.lt {h : Heap} {a : Addr} {items : Array Value} (x : TupP h a items) : a < h.objs.size := let ⟨_, e, _⟩ := x; Heap.lt_size e
theorem TupP.new (h : Heap) (items : Array Value) : TupP (h.push { cls := .type "tuple", data := .seq items }) h.objs.size items := ⟨_, Heap.get?_push_size _ rfl, rfl, rfl, _, rfl⟩
section
variable (P : Program) (w : World)
noncomputable def ObjOk (H : Hp) (h : Heap) (a : Addr) : HO → Prop
  | .lst xs => xs.length ≤ sizeLine ∧ ∃ (its : List Value) (n : Nat), Vals xs its ∧ h.get? a = some { cls := .type "list", data := .seq its.toArray n }
  | .tup xs => xs.length ≤ sizeLine ∧ ∃ its : List Value, Vals xs its ∧ TupP h a its.toArray
  | .dK kvs => kvs.length ≤ sizeLine ∧ (a == sysModules) = false ∧ ∃ vs, KV kvs vs ∧ h.DictOf (mixKind P w) a vs
  | .dT kvs => kvs.length ≤ sizeLine ∧ (a == sysModules) = false ∧ ∃ xs : List (List Key × Addr × Value),
      Paired (fun (p : List Key × V) (q : List Key × Addr × Value) => p.1 = q.1 ∧ H q.2.1 = some (.tup (p.1.map kV)) ∧ RelV p.2 q.2.2) kvs xs ∧
      ∃ o es ep, h.get? a = some o ∧ o.ExactDict ∧ o.data = .dict es ep ∧ es.toList = xs.map (entryOfKey (tupleKind (mixKind P w))) ∧ (xs.map (·.1)).Nodup
  | .set S n => h.SetOf (intKind P w) a S n
  | .ins C dx fs => H dx = some (.own a) ∧ fs.length ≤ 1000 ∧ dx ≠ a ∧ h.get? a = some (PySem.W.instObj C dx) ∧
      ∃ mA, h.Ns1 dx mA ∧ (∀ f, RelO (fs.lookup f) (mA f)) ∧ PySem.Within mA (fs.map (·.1))
  | .own _ => ∃ o, h.get? a = some o
  | .xd fs => ∃ mA, h.Ns1 a mA ∧ ∀ f, RelO (fs.lookup f) (mA f)
  | .rng lo hi => ∃ t u v, h.get? a = some { cls := .type "range", data := .fields #[.int lo t, .int hi u, .int 1 v] }
  | .frz o u => h.get? a = some o ∧ ObjOk H h a u
  | .tbl ps => h.get? a = some { cls := .none, data := .fields ps }
  | .met f x => h.get? a = some (PySem.W.methodObj (.ref f) (.ref x))
  | .ext φ => φ h ∧ (∃ o, h.get? a = some o) ∧ ∀ h1 h2 : Heap, φ h1 → (∀ o, h1.get? a = some o → h2.get? a = some o) → φ h2
noncomputable def HOk (H : Hp) (h : Heap) : Prop := ∀ a o, H a = some o → ObjOk P w H h a o
end
section
variable {P : Program} {w : World} {H H' : Hp} {h h' : Heap} {a : Addr} {o : HO}
theorem ObjOk.lt (x : ObjOk P w H h a o) : a < h.objs.size := by
  cases o with
  | lst xs => obtain ⟨_, _, _, _, e⟩ := x; exact Heap.lt_size e
  | tup xs => obtain ⟨_, _, _, p⟩ := x; exact p.lt
  | dK kvs => obtain ⟨_, _, _, _, o, _, _, e, _⟩ := x; exact Heap.lt_size e
  | dT kvs => obtain ⟨_, _, _, _, o, _, _, e, _⟩ := x; exact Heap.lt_size e
  | set S n => obtain ⟨o, _, _, _, e, _⟩ := x; exact Heap.lt_size e
  | ins C dx fs => obtain ⟨_, _, _, e, _⟩ := x; exact Heap.lt_size e
  | own y => obtain ⟨_, e⟩ := x; exact Heap.lt_size e
  | xd fs => obtain ⟨_, ⟨_, _, _, e, _⟩, _⟩ := x; exact Heap.lt_size e
  | rng lo hi => obtain ⟨_, _, _, e⟩ := x; exact Heap.lt_size e
  | frz ob u => obtain ⟨e, _⟩ := x; exact Heap.lt_size e
  | tbl ps => exact Heap.lt_size (show h.get? a = some _ from x)
  | met f y => exact Heap.lt_size (show h.get? a = some _ from x)
  | ext φ => obtain ⟨_, ⟨_, e⟩, _⟩ := x; exact Heap.lt_size e
theorem Paired.mapP {α β : Type} {F G : α → β → Prop} : ∀ {l₁ : List α} {l₂ : List β}, Paired F l₁ l₂ → (∀ a b, F a b → G a b) → Paired G l₁ l₂
  | _, _, .nil, _ => .nil
  | _, _, .cons r t, f => .cons (f _ _ r) (Paired.mapP t f)
theorem ObjOk.stay (x : ObjOk P w H h a o) (k : ∀ b u, (b = a ∨ H b = some (.own a)) → h.get? b = some u → h'.get? b = some u)
    (ho : ∀ b, H b = some (.own a) → H' b = some (.own a)) (ht : ∀ b xs, H b = some (.tup xs) → H' b = some (.tup xs)) : ObjOk P w H' h' a o := by
  induction o with
  | lst xs => obtain ⟨z, its, n, r, e⟩ := x; exact ⟨z, its, n, r, k _ _ (.inl rfl) e⟩
  | tup xs => obtain ⟨z, its, r, ob, e, c⟩ := x; exact ⟨z, its, r, ob, k _ _ (.inl rfl) e, c⟩
  | dK kvs => obtain ⟨z, y, vs, r, ob, es, ep, e, c⟩ := x; exact ⟨z, y, vs, r, ob, es, ep, k _ _ (.inl rfl) e, c⟩
  | dT kvs =>
    obtain ⟨z, y, xs, r, ob, es, ep, e, c⟩ := x
    exact ⟨z, y, xs, Paired.mapP r fun p q z => ⟨z.1, ht _ _ z.2.1, z.2.2⟩, ob, es, ep, k _ _ (.inl rfl) e, c⟩
  | set S n => obtain ⟨ob, es, ep, t, e, c⟩ := x; exact ⟨ob, es, ep, t, k _ _ (.inl rfl) e, c⟩
  | ins C dx fs =>
    obtain ⟨d, z, ne, e, mA, ⟨od, es, ep, e2, c⟩, r⟩ := x
    exact ⟨ho _ d, z, ne, k _ _ (.inl rfl) e, mA, ⟨od, es, ep, k _ _ (.inr d) e2, c⟩, r⟩
  | own y => obtain ⟨ob, e⟩ := x; exact ⟨ob, k _ _ (.inl rfl) e⟩
  | xd fs => obtain ⟨mA, ⟨od, es, ep, e, c⟩, r⟩ := x; exact ⟨mA, ⟨od, es, ep, k _ _ (.inl rfl) e, c⟩, r⟩
  | rng lo hi => obtain ⟨t, u, v, e⟩ := x; exact ⟨t, u, v, k _ _ (.inl rfl) e⟩
  | frz ob u ih => obtain ⟨e, q⟩ := x; exact ⟨k _ _ (.inl rfl) e, ih q⟩
  | tbl ps =>
    have e : h.get? a = some { cls := .none, data := .fields ps } := x
    show h'.get? a = some { cls := .none, data := .fields ps }
    exact k a _ (.inl rfl) e
  | met f y =>
    have e : h.get? a = some (PySem.W.methodObj (.ref f) (.ref y)) := x
    show h'.get? a = some (PySem.W.methodObj (.ref f) (.ref y))
    exact k a _ (.inl rfl) e
  | ext φ => obtain ⟨p, ⟨o, e⟩, st⟩ := x; exact ⟨st _ _ p fun o q => k _ _ (.inl rfl) q, ⟨o, k _ _ (.inl rfl) e⟩, st⟩
theorem HOk.lt (x : HOk P w H h) (e : H a = some o) : a < h.objs.size := (x a o e).lt
theorem HOk.fresh (x : HOk P w H h) (e : h.objs.size ≤ a) : H a = none := by
  cases q : H a with
  | none => rfl
  | some u => exact absurd (Nat.lt_of_lt_of_le (x.lt q) e) (Nat.lt_irrefl _)
theorem HOk.kept (x : HOk P w H h) (k : ∀ b u, h.get? b = some u → h'.get? b = some u) : HOk P w H h' := fun a o e =>
  (x a o e).stay (fun b u _ q => k b u q) (fun _ q => q) fun _ _ q => q
theorem HOk.laid (x : HOk P w H h) (k : ∀ b u, h.get? b = some u → h'.get? b = some u) (hp : h.objs.size ≤ a) (new : ObjOk P w (upd H a o) h' a o) : HOk P w (upd H a o) h' := fun b u e => by
  have hn := x.fresh hp
  by_cases hb : b = a
  · subst hb; rw [upd_same] at e; cases e; exact new
  · rw [upd_ne hb] at e
    exact (x b u e).stay (fun c v _ q => k c v q) (fun c q => by rw [upd_ne (ne_of_none q hn)]; exact q) fun c xs q => by rw [upd_ne (ne_of_none q hn)]; exact q
end
noncomputable def Rd (H : Hp) (a : Addr) (u : HO) : Prop := H a = some u ∨ ∃ o, H a = some (.frz o u)
theorem Rd.ok {P : Program} {w : World} {H : Hp} {h : Heap} {a : Addr} {u : HO} (r : Rd H a u) (x : HOk P w H h) : ObjOk P w H h a u := by
  rcases r with r | ⟨o, r⟩
  · exact x a u r
  · obtain ⟨_, q⟩ := x a _ r
    exact q
noncomputable def Mut : Option HO → Prop
  | some (.lst _) => True
  | some (.dK _) => True
  | some (.dT _) => True
  | some (.set _ _) => True
  | some (.ins _ _ _) => True
  | some (.ext _) => True
  | _ => False
section
variable {P : Program} {w : World} {H : Hp} {h h' : Heap} {x e : Addr} {o' : HO}
theorem HOk.write (ok : HOk P w H h) (mu : Mut (H x)) (he : e = x ∨ H e = some (.own x)) (k : ∀ b u, b ≠ e → h.get? b = some u → h'.get? b = some u) (heo : ∃ u, h'.get? e = some u)
    (new : ObjOk P w (upd H x o') h' x o') : HOk P w (upd H x o') h' := fun b u q => by
  have nown : ∀ c y, H c = some (.own y) → c ≠ x := fun c y r z => by subst z; rw [r] at mu; exact mu
  have ntup : ∀ c xs, H c = some (.tup xs) → c ≠ x := fun c xs r z => by subst z; rw [r] at mu; exact mu
  by_cases hb : b = x
  · subst hb; rw [upd_same] at q; cases q; exact new
  · rw [upd_ne hb] at q
    by_cases hbe : b = e
    · have q' : H b = some (.own x) := by
        rcases he with z | z
        · exact absurd (hbe.trans z) hb
        · rw [hbe]; exact z
      rw [q] at q'; cases q'
      obtain ⟨v, hv⟩ := heo
      exact ⟨v, by rw [hbe]; exact hv⟩
    · refine (ok b u q).stay (fun c v hc r => k c v ?_ r) (fun c r => by rw [upd_ne (nown c b r)]; exact r) fun c xs r => by rw [upd_ne (ntup c xs r)]; exact r
      rcases hc with rfl | hc
      · exact hbe
      · rintro rfl
        rcases he with z | z
        · exact nown c b hc z
        · rw [hc] at z; cases z; exact hb rfl
end
structure Un (fs ex : List Addr) (H H' : Hp) (h h' : Heap) : Prop where
  keep : ∀ b o, h.get? b = some o → H b = none → b ∉ fs → b ∉ ex → h'.get? b = some o
  slot : ∀ b o, h.get? b = some o → H b = none → b ∈ fs → b ∉ ex → ∃ sl, h'.get? b = some { o with slots := sl }
  free : ∀ b o, h.get? b = some o → H b = none → b ∉ ex → H' b = none
  there : ∀ b o, h.get? b = some o → b ∉ ex → ∃ o', h'.get? b = some o'
  tups : ∀ b xs, H b = some (.tup xs) → H' b = some (.tup xs)
  frzs : ∀ b o u, H b = some (.frz o u) → H' b = some (.frz o u)
  tbls : ∀ b ps, H b = some (.tbl ps) → ∃ more, H' b = some (.tbl (ps ++ more))
section
variable {fs fs' ex ex' : List Addr} {H H1 H2 : Hp} {h h1 h2 h' : Heap} {a x e : Addr} {o : HO}
theorem Un.any (u : Un fs ex H H1 h h1) {b : Addr} {ob : Obj} (q : h.get? b = some ob) (n : H b = none) (hx : b ∉ ex) : ∃ sl, h1.get? b = some { ob with slots := sl } := by
  by_cases hb : b ∈ fs
  · exact u.slot b ob q n hb hx
  · exact ⟨ob.slots, u.keep b ob q n hb hx⟩
theorem Un.kept (k : ∀ b u, h.get? b = some u → h'.get? b = some u) : Un fs ex H H h h' :=
  ⟨fun b ob q _ _ _ => k b ob q, fun b ob q _ _ _ => ⟨ob.slots, k b ob q⟩, fun _ _ _ n _ => n, fun b ob q _ => ⟨ob, k b ob q⟩, fun _ _ q => q, fun _ _ _ q => q, fun _ ps q => ⟨#[], by rw [q]; simp⟩⟩
theorem Un.refl : Un fs ex H H h h := Un.kept fun _ _ q => q
theorem Un.laid (k : ∀ b u, h.get? b = some u → h'.get? b = some u) (hp : h.objs.size ≤ a) (hn : H a = none) : Un fs ex H (upd H a o) h h' where
  keep := fun b u q _ _ _ => k b u q
  slot := fun b u q _ _ _ => ⟨u.slots, k b u q⟩
  free := fun b u q n _ => by rw [upd_ne (Nat.ne_of_lt (Nat.lt_of_lt_of_le (Heap.lt_size q) hp))]; exact n
  there := fun b u q _ => ⟨u, k b u q⟩
  tups := fun b xs q => by rw [upd_ne (ne_of_none q hn)]; exact q
  frzs := fun b u xs q => by rw [upd_ne (ne_of_none q hn)]; exact q
  tbls := fun b ps q => ⟨#[], by rw [upd_ne (ne_of_none q hn), q]; simp⟩
theorem Un.write (mu : Mut (H x)) (he : e = x ∨ H e = some (.own x)) (k : ∀ b u, b ≠ e → h.get? b = some u → h'.get? b = some u) (heo : ∃ u, h'.get? e = some u) : Un fs ex H (upd H x o) h h' := by
  have hx : ∀ b, H b = none → b ≠ x := fun b n z => by subst z; rw [n] at mu; exact mu
  have hb : ∀ b, H b = none → b ≠ e := fun b n z => by
    subst z
    rcases he with r | r
    · exact hx b n r
    · rw [n] at r; cases r
  have hm : ∀ b u, H b = some u → ¬ Mut (some u) → b ≠ x := fun b u q nm z => by subst z; rw [q] at mu; exact nm mu
  refine ⟨fun b u q n _ _ => k b u (hb b n) q, fun b u q n _ _ => ⟨u.slots, k b u (hb b n) q⟩, fun b u q n _ => by rw [upd_ne (hx b n)]; exact n, fun b u q _ => ?_,
    fun b xs q => by rw [upd_ne (hm b _ q fun z => z)]; exact q, fun b u xs q => by rw [upd_ne (hm b _ q fun z => z)]; exact q, fun b ps q => ⟨#[], by rw [upd_ne (hm b _ q fun z => z), q]; simp⟩⟩
  by_cases hbe : b = e
  · subst hbe; exact heo
  · exact ⟨u, k b u hbe q⟩
end
noncomputable def trk (h : Heap) (H : Hp) : List Addr := (List.range h.objs.size).filter fun a => (H a).isSome
noncomputable def hidT (h : Heap) (H : Hp) : Heap := PySem.W.hideAll h (trk h H)
theorem hidT_size (h : Heap) (H : Hp) : (hidT h H).objs.size = h.objs.size := PySem.W.hideAll_size _ _
theorem hidT_get {h : Heap} {H : Hp} {b : Addr} {o : Obj} (e : h.get? b = some o) (n : H b = none) : (hidT h H).get? b = some o :=
  PySem.W.hideAll_get _ e fun hm => by
    have q : (H b).isSome = true := (List.mem_filter.mp hm).2
    rw [n] at q; simp at q
theorem of_hidT {h : Heap} {H : Hp} {b : Addr} {o : Obj} (e : (hidT h H).get? b = some o) : h.get? b = some o ∧ H b = none := by
  have e' : h.get? b = some o := PySem.W.of_hideAll (trk h H) e
  refine ⟨e', ?_⟩
  cases q : H b with
  | none => rfl
  | some x =>
    have hm : b ∈ trk h H := List.mem_filter.mpr ⟨List.mem_range.mpr (Heap.lt_size e'), by simp [q]⟩
    have z : (hidT h H).get? b = none := PySem.W.hideAll_none (trk h H) hm
    rw [z] at e; cases e
end L2
namespace L2
open PySem PySem.Spec PyProof.Rows
structure Mod (K : PySem.W.Frag) (mg : Str → Option Value) (base : Heap) : Prop where
  kin : K.In base
  glob : base.Ns mainGlobals mg
  blt : ∃ mb, base.Ns builtinsNs mb ∧ ∀ x : Str, x ≠ "__name__" → mb x = bootBuiltins x
  nolimit : base.NoLimit
structure Cx where
  prog : Program
  w : World
  K : PySem.W.Frag
  mg : Str → Option Value
  base : Heap
  A : Around
  N : List Str
  s₀ : Shared
  H₀ : Hp
  env : Env
  outer : List Env
  stack : List Env
  ex : List Addr
  fn : Str → Bool
  calm : Bool
  pn : List (Addr × Obj)
  xe : Value → Shared → Prop
noncomputable def frs (l : List Env) : List Addr := l.filterMap (·.frame)
noncomputable abbrev Cx.fs (X : Cx) : List Addr := frs X.outer
noncomputable def Vis (sc : Scope) (x : Str) : Prop := sc.names.lookup x = some .local ∨ sc.names.lookup x = some .cell ∨ sc.names.lookup x = some .free
noncomputable def Loc (sc : Scope) (x : Str) : Prop := sc.names.lookup x = some .local ∨ sc.names.lookup x = some .cell
noncomputable def Look (env : Env) (h : Heap) (m : Str → Option Value) (x : Str) (u : Value) : Prop :=
  (env.kindOf x = some .local ∧ m x = some u) ∨ ((env.kindOf x = some .cell ∨ env.kindOf x = some .free) ∧ ∃ c, env.cells.lookup x = some c ∧ h.IsCell c (some u))
structure Cx.Ok (X : Cx) : Prop where
  mod : Mod X.K X.mg X.base
  kind : X.env.scope.kind = .function
  glob : X.env.globals = mainGlobals
  blt : X.env.builtins = builtinsNs
  above : X.s₀.heap.objs.size ≤ X.env.locals
  inj : ∀ x y c, X.env.cells.lookup x = some c → X.env.cells.lookup y = some c → x = y
  has : ∀ x, (X.env.kindOf x = some .cell ∨ X.env.kindOf x = some .free) → ∃ c, X.env.cells.lookup x = some c
  cab : ∀ x c, X.fn x = true → X.env.cells.lookup x = some c → X.s₀.heap.objs.size ≤ c
  hd : X.calm = true → X.A.handled = none
  frames : X.A.frames = some X.stack
  stk : X.stack = X.outer ∨ (X.stack = X.env :: X.outer ∧ X.env.frame = some X.env.locals)
  exf : ∀ b ∈ X.ex, b ≠ X.env.locals ∧ ∀ x c, X.env.cells.lookup x = some c → c ≠ b
  bs : ∀ b o, X.base.get? b = some o → X.s₀.heap.get? b = some o ∧ X.H₀ b = none
  bsz : X.base.objs.size ≤ X.s₀.heap.objs.size
  noex : ∀ b o, X.base.get? b = some o → b ∉ X.ex
  exfs : ∀ b ∈ X.ex, b ∉ X.fs
  funs : X.s₀.heap.FunFrames X.base X.outer
  frf : ∀ b ∈ X.fs, X.H₀ b = none
structure Inv (X : Cx) (pins : List (Addr × Obj)) (σ : List (Option V)) (H : Hp) (s : Shared) : Prop where
  ok : X.Ok
  os : s.os = X.s₀.os
  bare : AllBare s.gens
  base : Un X.fs X.ex X.H₀ H X.s₀.heap s.heap
  loc : ∃ m, s.heap.Ns X.env.locals m ∧ ∀ (i : Nat) (x : Str) (v : V), X.N[i]? = some x → σ[i]? = some (some v) → Vis X.env.scope x → ∃ u, RelV v u ∧ Look X.env s.heap m x u
  cell : ∀ x c, X.env.cells.lookup x = some c → ∃ v, s.heap.IsCell c v
  free : H X.env.locals = none
  freeC : ∀ x c, X.env.cells.lookup x = some c → H c = none
  pin : ∀ p ∈ X.pn ++ pins, s.heap.get? p.1 = some p.2 ∧ H p.1 = none ∧ p.1 ≠ X.env.locals ∧ p.1 ∉ X.fs ∧ ∀ v, p.2.data ≠ .cell v
  hok : HOk X.prog X.w H s.heap
  len : σ.length = X.N.length
section
variable {X : Cx} {pins : List (Addr × Obj)} {σ : List (Option V)} {H H' : Hp} {s : Shared} {h' : Heap}
theorem Cx.Ok.nofr (ok : X.Ok) {b : Addr} {o : Obj} (e : X.base.get? b = some o) : b ∉ X.fs := fun hb => by
  have := (ok.funs.mem hb).1
  rw [e] at this; cases this
theorem Inv.bs (I : Inv X pins σ H s) : ∀ b o, X.base.get? b = some o → s.heap.get? b = some o ∧ H b = none := fun b o e =>
  ⟨I.base.keep b o (I.ok.bs b o e).1 (I.ok.bs b o e).2 (I.ok.nofr e) (I.ok.noex b o e), I.base.free b o (I.ok.bs b o e).1 (I.ok.bs b o e).2 (I.ok.noex b o e)⟩
theorem Inv.bk (I : Inv X pins σ H s) : ∀ b o, X.base.get? b = some o → s.heap.get? b = some o := fun b o e => (I.bs b o e).1
theorem Inv.mod (I : Inv X pins σ H s) : Mod X.K X.mg X.base := I.ok.mod
theorem Inv.kIn (I : Inv X pins σ H s) : X.K.In s.heap := I.ok.mod.kin.keeps I.bk
theorem Inv.lt (I : Inv X pins σ H s) : X.env.locals < s.heap.objs.size := let ⟨_, hn, _⟩ := I.loc; hn.lt
theorem Inv.sz (I : Inv X pins σ H s) : X.s₀.heap.objs.size ≤ s.heap.objs.size := Nat.le_trans I.ok.above (Nat.le_of_lt I.lt)
theorem Inv.nofs (I : Inv X pins σ H s) {a : Addr} (h : s.heap.objs.size ≤ a) : a ∉ X.fs := fun hb => by
  obtain ⟨_, o, ho, _⟩ := I.ok.funs.mem hb
  exact absurd (Nat.lt_of_lt_of_le (Heap.lt_size ho) (Nat.le_trans I.sz h)) (Nat.lt_irrefl _)
theorem Inv.cne (I : Inv X pins σ H s) : ∀ x c, X.env.cells.lookup x = some c → c ≠ X.env.locals := fun x c e z => by
  obtain ⟨v, o, ho, hd⟩ := I.cell x c e
  obtain ⟨m, ⟨o', es, ep, ho', hd', _⟩, _⟩ := I.loc
  rw [z, ho'] at ho; cases ho; rw [hd'] at hd; cases hd
theorem Inv.funs (I : Inv X pins σ H s) : s.heap.FunFrames X.base X.outer := by
  have all : ∀ (l : List Env), (∀ b ∈ frs l, b ∈ X.fs) → X.s₀.heap.FunFrames X.base l → s.heap.FunFrames X.base l := by
    intro l
    induction l with
    | nil => intro _ _; trivial
    | cons env r ih =>
      intro hs hl
      obtain ⟨hk, ⟨L, o, hf, hn, ho, hd⟩, hr⟩ := hl
      have hL : L ∈ X.fs := hs L (by unfold frs; rw [List.filterMap_cons, hf]; exact List.mem_cons_self)
      obtain ⟨sl, e⟩ := I.base.slot L o ho (I.ok.frf L hL) hL fun z => I.ok.exfs L z hL
      exact ⟨hk, ⟨L, _, hf, hn, e, hd⟩, ih (fun b hb => hs b (by unfold frs; rw [List.filterMap_cons, hf]; exact List.mem_cons_of_mem _ hb)) hr⟩
  exact all X.outer (fun _ hb => hb) I.ok.funs
theorem Inv.stack (I : Inv X pins σ H s) : s.heap.FunFrames X.base X.stack := by
  rcases I.ok.stk with e | ⟨e, hf⟩
  · rw [e]; exact I.funs
  · rw [e]
    obtain ⟨m, hn, _⟩ := I.loc
    refine .cons (by rw [I.ok.kind]; decide) hf hn ?_ I.funs
    exact Heap.get?_none_of_le (Nat.le_trans I.ok.bsz I.ok.above)
theorem Inv.stkSub (I : Inv X pins σ H s) : ∀ b ∈ frs X.stack, b ∈ X.env.locals :: X.fs := fun b hb => by
  rcases I.ok.stk with e | ⟨e, hf⟩
  · rw [e] at hb; exact List.mem_cons_of_mem _ hb
  · rw [e] at hb
    unfold frs at hb
    rw [List.filterMap_cons, hf] at hb
    exact hb
theorem Inv.stkFree (I : Inv X pins σ H s) : ∀ b ∈ frs X.stack, H b = none := fun b hb => by
  rcases List.mem_cons.mp (I.stkSub b hb) with e | hb
  · rw [e]; exact I.free
  · obtain ⟨_, o, ho, _⟩ := I.ok.funs.mem hb
    exact I.base.free b o ho (I.ok.frf b hb) fun z => I.ok.exfs b z hb
theorem Inv.step {g' : Array GenState} {t' : Nat} {d' : Drawn} {ch : List Addr} (I : Inv X pins σ H s)
    (hch : ∀ b ∈ ch, (b ∈ X.ex ∨ X.s₀.heap.objs.size ≤ b) ∧ b ≠ X.env.locals ∧ (∀ x c, X.env.cells.lookup x = some c → c ≠ b) ∧ ∀ p ∈ X.pn ++ pins, p.1 ≠ b)
    (keep : ∀ b o, b ≠ X.env.locals → b ∉ X.fs → b ∉ ch → s.heap.get? b = some o → H b = none → h'.get? b = some o)
    (slot : ∀ b o, b ≠ X.env.locals → b ∈ X.fs → b ∉ ch → s.heap.get? b = some o → H b = none → ∃ sl, h'.get? b = some { o with slots := sl }) (free : ∀ b o, b ∉ ch → s.heap.get? b = some o → H b = none → H' b = none)
    (there : ∀ b o, b ∉ ch → s.heap.get? b = some o → ∃ o', h'.get? b = some o')
    (tups : ∀ b xs, H b = some (.tup xs) → H' b = some (.tup xs)) (frzs : ∀ b o u, H b = some (.frz o u) → H' b = some (.frz o u)) (tbls : ∀ b ps, H b = some (.tbl ps) → ∃ more, H' b = some (.tbl (ps ++ more)))
    (ns : ∀ m, s.heap.Ns X.env.locals m → h'.Ns X.env.locals m) (hok : HOk X.prog X.w H' h') (hg : AllBare g') :
    Inv X pins σ H' { s with heap := h', gens := g', drawn := d', toks := t' } := by
  have neL : ∀ b o, X.s₀.heap.get? b = some o → b ≠ X.env.locals := fun b o e => Nat.ne_of_lt (Nat.lt_of_lt_of_le (Heap.lt_size e) I.ok.above)
  have neC : ∀ b o, X.s₀.heap.get? b = some o → b ∉ X.ex → b ∉ ch := fun b o e hx hb => by
    rcases (hch b hb).1 with z | z
    · exact hx z
    · exact absurd (Nat.lt_of_lt_of_le (Heap.lt_size e) z) (Nat.lt_irrefl _)
  have cellK : ∀ x c, X.env.cells.lookup x = some c → ∀ v, s.heap.IsCell c v → h'.IsCell c v := fun x c e v ⟨o, ho, hd⟩ => by
    have nch : c ∉ ch := fun z => (hch c z).2.2.1 x c e rfl
    by_cases hc : c ∈ X.fs
    · obtain ⟨sl, q⟩ := slot c o (I.cne x c e) hc nch ho (I.freeC x c e)
      exact ⟨_, q, hd⟩
    · exact ⟨o, keep c o (I.cne x c e) hc nch ho (I.freeC x c e), hd⟩
  refine ⟨I.ok, I.os, hg, ⟨fun b o e n hb hx => ?_, fun b o e n hb hx => ?_, fun b o e n hx => ?_, fun b o e hx => ?_, fun b xs e => tups b xs (I.base.tups b xs e), fun b o xs e => frzs b o xs (I.base.frzs b o xs e), fun b ps e => ?_⟩, ?_, fun x c e => ?_, ?_, fun x c e => ?_, fun p hp => ?_, hok, I.len⟩
  · exact keep b o (neL b o e) hb (neC b o e hx) (I.base.keep b o e n hb hx) (I.base.free b o e n hx)
  · obtain ⟨sl, e1⟩ := I.base.slot b o e n hb hx
    obtain ⟨sl', e2⟩ := slot b _ (neL b o e) hb (neC b o e hx) e1 (I.base.free b o e n hx)
    exact ⟨sl', e2⟩
  · obtain ⟨o', e1⟩ := I.base.there b o e hx
    exact free b o' (neC b o e hx) e1 (I.base.free b o e n hx)
  · obtain ⟨o', e1⟩ := I.base.there b o e hx
    exact there b o' (neC b o e hx) e1
  · obtain ⟨m1, e1⟩ := I.base.tbls b ps e
    obtain ⟨m2, e2⟩ := tbls b _ e1
    exact ⟨m1 ++ m2, by rw [e2, Array.append_assoc]⟩
  · obtain ⟨m, hn, hl⟩ := I.loc
    refine ⟨m, ns m hn, fun i x v e1 e2 e3 => ?_⟩
    obtain ⟨u, r, l⟩ := hl i x v e1 e2 e3
    refine ⟨u, r, ?_⟩
    rcases l with l | ⟨k, c, e, z⟩
    · exact .inl l
    · exact .inr ⟨k, c, e, cellK x c e _ z⟩
  · obtain ⟨v, z⟩ := I.cell x c e
    exact ⟨v, cellK x c e v z⟩
  · obtain ⟨m, ⟨o, _, _, ho, _⟩, _⟩ := I.loc
    exact free _ o (fun z => (hch _ z).2.1 rfl) ho I.free
  · obtain ⟨v, o, ho, hd⟩ := I.cell x c e
    exact free c o (fun z => (hch c z).2.2.1 x c e rfl) ho (I.freeC x c e)
  · obtain ⟨e, n, ne, nf, d⟩ := I.pin p hp
    have nch : p.1 ∉ ch := fun z => (hch p.1 z).2.2.2 p hp rfl
    exact ⟨keep p.1 p.2 ne nf nch e n, free p.1 p.2 nch e n, ne, nf, d⟩
theorem Inv.un {t' : Nat} (I : Inv X pins σ H s) (u : Un X.fs [] H H' s.heap h') (hok : HOk X.prog X.w H' h') : Inv X pins σ H' { s with heap := h', toks := t' } := by
  obtain ⟨m, ⟨o, es, ep, ho, r⟩, _⟩ := id I.loc
  obtain ⟨sl, hL⟩ := u.any ho I.free (by simp)
  exact I.step (g' := s.gens) (d' := s.drawn) (ch := []) (fun _ z => nomatch z) (fun b o _ hb _ e n => u.keep b o e n hb (by simp)) (fun b o _ hb _ e n => u.slot b o e n hb (by simp)) (fun b o _ e n => u.free b o e n (by simp)) (fun b o _ e => u.there b o e (by simp)) u.tups u.frzs u.tbls (fun m' hm => by
    obtain ⟨o', es', ep', ho', r'⟩ := hm
    rw [ho] at ho'; cases ho'
    exact ⟨_, es', ep', hL, r'⟩) hok I.bare
theorem Inv.call {g' : Array GenState} {t' : Nat} {d' : Drawn} {ch : List Addr} (I : Inv X pins σ H s) (u : Un (frs X.stack) ch H H' s.heap h') (hok : HOk X.prog X.w H' h') (hg : AllBare g')
    (hch : ∀ b ∈ ch, (b ∈ X.ex ∨ X.s₀.heap.objs.size ≤ b) ∧ b ≠ X.env.locals ∧ (∀ x c, X.env.cells.lookup x = some c → c ≠ b) ∧ ∀ p ∈ X.pn ++ pins, p.1 ≠ b) :
    Inv X pins σ H' { s with heap := h', gens := g', drawn := d', toks := t' } := by
  obtain ⟨m, ⟨o, es, ep, ho, r⟩, _⟩ := id I.loc
  obtain ⟨sl, hL⟩ := u.any ho I.free fun z => (hch _ z).2.1 rfl
  exact I.step (ch := ch) hch (fun b o hL hb hc e n => u.keep b o e n (fun z => (List.mem_cons.mp (I.stkSub b z)).elim hL hb) hc) (fun b o _ _ hc e n => u.any e n hc) (fun b o hc e n => u.free b o e n hc) (fun b o hc e => u.there b o e hc) u.tups u.frzs u.tbls (fun m' hm => by
    obtain ⟨o', es', ep', ho', r'⟩ := hm
    rw [ho] at ho'; cases ho'
    exact ⟨_, es', ep', hL, r'⟩) hok hg
theorem Inv.turned {t' : Nat} {it : Addr} (I : Inv X pins σ H s) (k : ∀ b o, b ≠ it → s.heap.get? b = some o → h'.get? b = some o) (hn : H it = none) (hL : it ≠ X.env.locals)
    (h1 : it ∈ X.ex ∨ X.s₀.heap.objs.size ≤ it) (h2 : ∀ x c, X.env.cells.lookup x = some c → c ≠ it) (h3 : ∀ p ∈ X.pn ++ pins, p.1 ≠ it) : Inv X pins σ H { s with heap := h', toks := t' } := by
  have nit : ∀ b u, H b = some u → b ≠ it := fun b u e z => by rw [z, hn] at e; cases e
  refine I.step (g' := s.gens) (d' := s.drawn) (ch := [it]) (fun b hb => ?_) (fun b o _ _ hc e _ => k b o (fun z => hc (by simp [z])) e) (fun b o _ _ hc e _ => ⟨o.slots, k b o (fun z => hc (by simp [z])) e⟩) (fun _ _ _ _ n => n)
    (fun b o hc e => ⟨o, k b o (fun z => hc (by simp [z])) e⟩) (fun _ _ e => e) (fun _ _ _ e => e) (fun b ps e => ⟨#[], by rw [e]; simp⟩) (fun m hm => ?_) (fun b u e => ?_) I.bare
  · have e : b = it := by simpa using hb
    subst e
    exact ⟨h1, hL, h2, h3⟩
  · obtain ⟨o, es, ep, ho, r⟩ := hm
    exact ⟨o, es, ep, k _ o (Ne.symm hL) ho, r⟩
  · refine (I.hok b u e).stay (fun c v hc q => k c v ?_ q) (fun _ q => q) fun _ _ q => q
    rcases hc with z | z
    · rw [z]; exact nit b u e
    · exact nit c _ z
theorem Inv.tok (I : Inv X pins σ H s) (t : Nat) : Inv X pins σ H { s with toks := t } := I.un (h' := s.heap) (t' := t) Un.refl I.hok
theorem Inv.kept {t' : Nat} (I : Inv X pins σ H s) (k : ∀ b u, s.heap.get? b = some u → h'.get? b = some u) : Inv X pins σ H { s with heap := h', toks := t' } := I.un (Un.kept k) (I.hok.kept k)
theorem Inv.laid {a : Addr} {o : HO} {t' : Nat} (I : Inv X pins σ H s) (k : ∀ b u, s.heap.get? b = some u → h'.get? b = some u) (hp : s.heap.objs.size ≤ a) (new : ObjOk X.prog X.w (upd H a o) h' a o) :
    Inv X pins σ (upd H a o) { s with heap := h', toks := t' } := I.un (Un.laid k hp (I.hok.fresh hp)) (I.hok.laid k hp new)
theorem Inv.write {x e : Addr} {o : HO} {t' : Nat} (I : Inv X pins σ H s) (mu : Mut (H x)) (he : e = x ∨ H e = some (.own x)) (k : ∀ b u, b ≠ e → s.heap.get? b = some u → h'.get? b = some u) (heo : ∃ u, h'.get? e = some u)
    (new : ObjOk X.prog X.w (upd H x o) h' x o) : Inv X pins σ (upd H x o) { s with heap := h', toks := t' } := I.un (Un.write mu he k heo) (I.hok.write mu he k heo new)
theorem Inv.weak {σ' : List (Option V)} (I : Inv X pins σ H s) (hl : σ'.length = σ.length) (w : ∀ (i : Nat) v, σ'[i]? = some (some v) → σ[i]? = some (some v)) : Inv X pins σ' H s :=
  ⟨I.ok, I.os, I.bare, I.base, let ⟨m, hn, hl'⟩ := I.loc; ⟨m, hn, fun i x v e1 e2 e3 => hl' i x v e1 (w i v e2) e3⟩, I.cell, I.free, I.freeC, I.pin, I.hok, hl.trans I.len⟩
theorem Inv.pins_of {pins' : List (Addr × Obj)} (I : Inv X pins σ H s) (h : ∀ p ∈ pins', s.heap.get? p.1 = some p.2 ∧ H p.1 = none ∧ p.1 ≠ X.env.locals ∧ p.1 ∉ X.fs ∧ ∀ v, p.2.data ≠ .cell v) : Inv X pins' σ H s :=
  ⟨I.ok, I.os, I.bare, I.base, I.loc, I.cell, I.free, I.freeC, fun p hp => (List.mem_append.mp hp).elim (fun z => I.pin p (List.mem_append_left _ z)) (h p), I.hok, I.len⟩
theorem nodup_ix {N : List Str} (hN : N.Nodup) {i j : Nat} {x : Str} (a : N[i]? = some x) (b : N[j]? = some x) : i = j := by
  obtain ⟨h1, e1⟩ := List.getElem?_eq_some_iff.mp a
  obtain ⟨h2, e2⟩ := List.getElem?_eq_some_iff.mp b
  exact (List.getElem_inj hN).mp (e1.trans e2.symm)
theorem store_ok2 {M : Model} {A : Around} {E : Value → Shared → Prop} {i : Nat} {x : Str} {v : V} {u : Value} {Q : Unit → Shared → Prop} (I : Inv X pins σ H s) (hN : X.N.Nodup) (hi : X.N[i]? = some x) (hx : Loc X.env.scope x) (r : RelV v u)
    (h : ∀ s', Inv X pins (σ.set i (some v)) H s' → (∃ a, Heap.SameBut a s.heap s'.heap ∧ (a = X.env.locals ∨ X.env.cells.lookup x = some a)) → Q () s') (hf : X.fn x = true ∨ X.env.scope.names.lookup x = some .local := by first | exact .inl rfl | exact .inr rfl | assumption) : wpAny M A (storeName X.env x u) Q E s := by
  obtain ⟨m, hn, hl⟩ := id I.loc
  have hcls : (X.env.scope.kind == .class || (X.env.scope.kind == .module && X.env.locals != X.env.globals)) = false := by rw [I.ok.kind]; rfl
  have hiσ : i < σ.length := by rw [I.len]; exact (List.getElem?_eq_some_iff.mp hi).1
  have cne := I.cne
  have tracked : ∀ {a : Addr} {h' : Heap}, (∃ o, s.heap.get? a = some o ∧ H a = none) → Heap.SameBut a s.heap h' → HOk X.prog X.w H h' := fun {a h'} ha hs b ob e => by
    obtain ⟨_, _, hfree⟩ := ha
    refine (I.hok b ob e).stay (fun c w' hc q => (hs.2 c ?_).trans q) (fun _ q => q) fun _ _ q => q
    rintro rfl
    rcases hc with rfl | hc
    · rw [hfree] at e; cases e
    · rw [hfree] at hc; cases hc
  rcases hx with hk | hk
  · refine wpAny_storeName_local hk hn (fun h' hn' hs => ?_) hcls
    obtain ⟨oL, _, _, hoL, _⟩ := id hn
    refine h _ ⟨I.ok, I.os, I.bare, ⟨fun b o e n hb hx => ?_, fun b o e n hb hx => ?_, I.base.free, fun b o e hx => ?_, I.base.tups, I.base.frzs, I.base.tbls⟩, ⟨_, hn', fun j y v' e1 e2 e3 => ?_⟩, fun y c e => ?_, I.free, I.freeC, fun p hp => ?_, tracked ⟨oL, hoL, I.free⟩ hs, by simpa using I.len⟩ ⟨_, hs, .inl rfl⟩
    · exact (hs.2 b (Nat.ne_of_lt (Nat.lt_of_lt_of_le (Heap.lt_size e) I.ok.above))).trans (I.base.keep b o e n hb hx)
    · obtain ⟨sl, e1⟩ := I.base.slot b o e n hb hx
      exact ⟨sl, (hs.2 b (Nat.ne_of_lt (Nat.lt_of_lt_of_le (Heap.lt_size e) I.ok.above))).trans e1⟩
    · obtain ⟨o', e1⟩ := I.base.there b o e hx
      exact ⟨o', (hs.2 b (Nat.ne_of_lt (Nat.lt_of_lt_of_le (Heap.lt_size e) I.ok.above))).trans e1⟩
    · by_cases hj : j = i
      · subst hj
        rw [hi] at e1; cases e1
        rw [List.getElem?_set_self hiσ] at e2
        cases e2
        exact ⟨u, r, .inl ⟨hk, by simp⟩⟩
      · rw [List.getElem?_set_ne (Ne.symm hj)] at e2
        obtain ⟨u', r', q⟩ := hl j y v' e1 e2 e3
        refine ⟨u', r', ?_⟩
        rcases q with ⟨k, e⟩ | ⟨k, c, e, z⟩
        · refine .inl ⟨k, ?_⟩
          have : y ≠ x := fun e => hj (nodup_ix hN e1 (e ▸ hi))
          simp [this, e]
        · exact .inr ⟨k, c, e, z.sameBut hs (cne y c e)⟩
    · obtain ⟨w', z⟩ := I.cell y c e
      exact ⟨w', z.sameBut hs (cne y c e)⟩
    · obtain ⟨e, n, ne, nf, d⟩ := I.pin p hp
      exact ⟨(hs.2 p.1 ne).trans e, n, ne, nf, d⟩
  · have hfn : X.fn x = true := by
      rcases hf with z | z
      · exact z
      · rw [z] at hk; cases hk
    obtain ⟨c, hc⟩ := I.ok.has x (.inl hk)
    obtain ⟨w', z⟩ := I.cell x c hc
    refine wpAny_storeName_cell I.ok.kind hk hc z (fun h' hc' hs => ?_)
    obtain ⟨oc, hoc, hocd⟩ := id z
    refine h { s with heap := h' } ⟨I.ok, I.os, I.bare, ⟨fun b o e n hb hx => ?_, fun b o e n hb hx => ?_, I.base.free, fun b o e hx => ?_, I.base.tups, I.base.frzs, I.base.tbls⟩, ⟨m, hn.sameBut hs (Ne.symm (cne x c hc)), fun j y v' e1 e2 e3 => ?_⟩, fun y c' e => ?_, I.free, I.freeC, fun p hp => ?_, tracked ⟨oc, hoc, I.freeC x c hc⟩ hs, by simpa using I.len⟩ ⟨c, hs, .inr hc⟩
    · exact (hs.2 b (Nat.ne_of_lt (Nat.lt_of_lt_of_le (Heap.lt_size e) (I.ok.cab x c hfn hc)))).trans (I.base.keep b o e n hb hx)
    · obtain ⟨sl, e1⟩ := I.base.slot b o e n hb hx
      exact ⟨sl, (hs.2 b (Nat.ne_of_lt (Nat.lt_of_lt_of_le (Heap.lt_size e) (I.ok.cab x c hfn hc)))).trans e1⟩
    · obtain ⟨o', e1⟩ := I.base.there b o e hx
      exact ⟨o', (hs.2 b (Nat.ne_of_lt (Nat.lt_of_lt_of_le (Heap.lt_size e) (I.ok.cab x c hfn hc)))).trans e1⟩
    · by_cases hj : j = i
      · subst hj
        rw [hi] at e1; cases e1
        rw [List.getElem?_set_self hiσ] at e2
        cases e2
        exact ⟨u, r, .inr ⟨.inl hk, c, hc, hc'⟩⟩
      · rw [List.getElem?_set_ne (Ne.symm hj)] at e2
        obtain ⟨u', r', q⟩ := hl j y v' e1 e2 e3
        refine ⟨u', r', ?_⟩
        rcases q with q | ⟨k, c', e, z'⟩
        · exact .inl q
        · refine .inr ⟨k, c', e, z'.sameBut hs ?_⟩
          rintro rfl
          exact hj (nodup_ix hN e1 (I.ok.inj _ _ _ e hc ▸ hi))
    · by_cases hcc : c' = c
      · subst hcc; exact ⟨_, hc'⟩
      · obtain ⟨w2, z2⟩ := I.cell y c' e
        exact ⟨w2, z2.sameBut hs hcc⟩
    · obtain ⟨e, n, ne, nf, d⟩ := I.pin p hp
      refine ⟨(hs.2 p.1 ?_).trans e, n, ne, nf, d⟩
      intro q
      rw [q, hoc] at e
      have q' : oc = p.2 := Option.some.inj e
      exact d w' (by rw [← q']; exact hocd)
theorem store_ok {M : Model} {A : Around} {E : Value → Shared → Prop} {i : Nat} {x : Str} {v : V} {u : Value} {Q : Unit → Shared → Prop} (I : Inv X pins σ H s) (hN : X.N.Nodup) (hi : X.N[i]? = some x) (hx : Loc X.env.scope x) (r : RelV v u)
    (h : ∀ s', Inv X pins (σ.set i (some v)) H s' → Q () s') (hf : X.fn x = true ∨ X.env.scope.names.lookup x = some .local := by first | exact .inl rfl | exact .inr rfl | assumption) : wpAny M A (storeName X.env x u) Q E s :=
  store_ok2 I hN hi hx r (fun s' I' _ => h s' I') hf
theorem Inv.call' {s' : Shared} {ch : List Addr} (I : Inv X pins σ H s) (ho : s'.os = s.os) (u : Un (frs X.stack) ch H H' s.heap s'.heap) (hok : HOk X.prog X.w H' s'.heap) (hg : AllBare s'.gens)
    (hch : ∀ b ∈ ch, (b ∈ X.ex ∨ X.s₀.heap.objs.size ≤ b) ∧ b ≠ X.env.locals ∧ (∀ x c, X.env.cells.lookup x = some c → c ≠ b) ∧ ∀ p ∈ X.pn ++ pins, p.1 ≠ b) : Inv X pins σ H' s' := by
  obtain ⟨h', g', d', t', o'⟩ := s'
  have e : o' = s.os := ho
  subst e
  exact I.call (g' := g') (t' := t') (d' := d') u hok hg hch
end
noncomputable abbrev XK := Value → Option Addr → Hp → Prop
noncomputable abbrev St := List (Option V)
noncomputable abbrev VK := V → Hp → Prop
noncomputable abbrev TE := St → Hp → VK → Prop
noncomputable abbrev TT := St → Hp → (Bool → Hp → Prop) → Prop
noncomputable abbrev TA := St → Hp → (List V → Hp → Prop) → Prop
structure Ends where
  nx : St → Hp → Prop
  rt : VK
  bk : St → Hp → Prop := fun _ _ => False
  ct : St → Hp → Prop := fun _ _ => False
noncomputable abbrev TS := Ends → St → Hp → Prop
noncomputable def EP (X : Cx) (pins : List (Addr × Obj)) (σ : St) (Q : VK) (u : Value) (s' : Shared) : Prop := ∃ v H', Inv X pins σ H' s' ∧ RelV v u ∧ Q v H'
noncomputable def TP (X : Cx) (pins : List (Addr × Obj)) (σ : St) (Q : Bool → Hp → Prop) (b : Bool) (s' : Shared) : Prop := ∃ H', Inv X pins σ H' s' ∧ Q b H'
noncomputable def AP (X : Cx) (pins : List (Addr × Obj)) (σ : St) (Q : List V → Hp → Prop) (us : List Value) (s' : Shared) : Prop := ∃ vs H', Inv X pins σ H' s' ∧ Vals vs us ∧ Q vs H'
noncomputable def SP (X : Cx) (pins : List (Addr × Obj)) (D : Ends) (f : Flow) (s' : Shared) : Prop :=
  match f with
  | .next => ∃ σ' H', Inv X pins σ' H' s' ∧ D.nx σ' H'
  | .brk => ∃ σ' H', Inv X pins σ' H' s' ∧ D.bk σ' H'
  | .cont => ∃ σ' H', Inv X pins σ' H' s' ∧ D.ct σ' H'
  | .ret u => ∃ v σ' H', Inv X pins σ' H' s' ∧ RelV v u ∧ D.rt v H'
noncomputable def PE (X : Cx) (e : Expr) (t : TE) : Prop :=
  ∀ (pins : List (Addr × Obj)) (s : Shared) (σ : St) (H : Hp) (Q : VK), Inv X pins σ H s → t σ H Q → wpAny (model X.prog X.w) X.A (eval e X.env) (EP X pins σ Q) X.xe s
noncomputable def PT (X : Cx) (e : Expr) (t : TT) : Prop :=
  ∀ (pins : List (Addr × Obj)) (s : Shared) (σ : St) (H : Hp) (Q : Bool → Hp → Prop), Inv X pins σ H s → t σ H Q → wpAny (model X.prog X.w) X.A (isTrue e X.env (eval e X.env)) (TP X pins σ Q) X.xe s
noncomputable def PW (X : Cx) (e : Expr) (t : TT) : Prop :=
  ∀ (whole : Sem Value) (pins : List (Addr × Obj)) (s : Shared) (σ : St) (H : Hp) (Q : Bool → Hp → Prop), Inv X pins σ H s → t σ H Q → wpAny (model X.prog X.w) X.A (isTrue e X.env whole) (TP X pins σ Q) X.xe s
theorem PW.pt {X : Cx} {e : Expr} {t : TT} (h : PW X e t) : PT X e t := h _
noncomputable def PA (X : Cx) (es : List Expr) (t : TA) : Prop :=
  ∀ (pos : Pos) (pins : List (Addr × Obj)) (s : Shared) (σ : St) (H : Hp) (Q : List V → Hp → Prop), Inv X pins σ H s → t σ H Q → wpAny (model X.prog X.w) X.A (spliced (backTo pos (starEach es X.env))) (AP X pins σ Q) X.xe s
noncomputable def PS (X : Cx) (st : Stmt) (t : TS) : Prop :=
  ∀ (pins : List (Addr × Obj)) (s : Shared) (σ : St) (H : Hp) (D : Ends), Inv X pins σ H s → t D σ H → wpAny (model X.prog X.w) X.A (exec st X.env) (SP X pins D) X.xe s
noncomputable def PSs (X : Cx) (st : List Stmt) (t : TS) : Prop :=
  ∀ (pins : List (Addr × Obj)) (s : Shared) (σ : St) (H : Hp) (D : Ends), Inv X pins σ H s → t D σ H → wpAny (model X.prog X.w) X.A (execs st X.env) (SP X pins D) X.xe s
theorem thn {α : Type} {t : Sem α} {Q Q' : α → Shared → Prop} {M : Model} {A : Around} {E : Value → Shared → Prop} {s : Shared} (h : wpAny M A t Q E s) (hQ : ∀ a s, Q a s → Q' a s) : wpAny M A t Q' E s := wpAny_mono h hQ fun _ _ x => x
end L2
namespace L2
open PySem PySem.Spec PyProof.Rows
section
variable {X : Cx}
noncomputable def tVar (i : Nat) : TE := fun σ H Q => ∃ v, σ[i]? = some (some v) ∧ Q v H
noncomputable def tC (v : V) : TE := fun _ H Q => Q v H
theorem pe_var {i : Nat} {x : Str} {pos : Pos} (hN : X.N[i]? = some x) (hv : Vis X.env.scope x) (hd : (x == ("__debug__" : Str)) = false := by decide) (hcd : (x == ("__classdict__" : Str)) = false := by decide) : PE X (.Name x pos) (tVar i) := by
  intro pins s σ H Q I h
  obtain ⟨v, e, h⟩ := h
  obtain ⟨m, hn, hl⟩ := I.loc
  obtain ⟨u, r, l⟩ := hl i x v hN e hv
  have fin : EP X pins σ Q u s := ⟨v, H, I, r, h⟩
  rcases l with ⟨hk, hm⟩ | ⟨hk, c, hc, hcell⟩
  · exact wpAny_Name (wpAny_loadName_local I.ok.kind hk hn hm fin) hd
  · rcases hk with hk | hk
    · exact wpAny_Name (wpAny_loadName_cell I.ok.kind hk hc hcell fin) hd
    · exact wpAny_Name (wpAny_loadName_free I.ok.kind hk hc hcell fin hcd) hd
theorem pe_int {i j pos} : PE X (.Constant (.int i) j pos) (tC (.int i)) := fun _ _ _ H _ I h => wpAny_Constant_int ⟨.int i, H, I.tok _, ⟨_, rfl⟩, h⟩
theorem pe_bl {b j pos} : PE X (.Constant (.bool b) j pos) (tC (.bl b)) := fun _ _ _ H _ I h => Constant_bool ⟨.bl b, H, I, rfl, h⟩
theorem pe_non {j pos} : PE X (.Constant .none j pos) (tC .non) := fun _ _ _ H _ I h => Constant_none ⟨.non, H, I, rfl, h⟩
noncomputable def Gl (X : Cx) (x : Str) : Prop := X.env.kindOf x = some .globalImplicit
theorem ld_glob {E : Value → Shared → Prop} {pins : List (Addr × Obj)} {s : Shared} {σ : St} {H : Hp} {x : Str} {u : Value} {pos : Pos} {Q : Value → Shared → Prop} (I : Inv X pins σ H s) (hg : Gl X x) (hm : X.mg x = some u) (h : Q u s)
    (hd : (x == ("__debug__" : Str)) = false := by decide) : wpAny (model X.prog X.w) X.A (eval (.Name x pos) X.env) Q E s :=
  Calls.Name_function_global I.ok.kind hg (Calls.loadGlobal_global (by rw [I.ok.glob]; exact I.mod.glob.keeps I.bk) hm h) hd
theorem ld_blt {E : Value → Shared → Prop} {pins : List (Addr × Obj)} {s : Shared} {σ : St} {H : Hp} {x : Str} {u : Value} {pos : Pos} {Q : Value → Shared → Prop} (I : Inv X pins σ H s) (hg : Gl X x) (hm : X.mg x = none) (hv : bootBuiltins x = some u) (h : Q u s)
    (hn : x ≠ "__name__" := by decide) (hd : (x == ("__debug__" : Str)) = false := by decide) : wpAny (model X.prog X.w) X.A (eval (.Name x pos) X.env) Q E s := by
  obtain ⟨mb, h1, h2⟩ := I.mod.blt
  exact Calls.Name_function_global I.ok.kind hg (Calls.loadGlobal_builtin (by rw [I.ok.glob]; exact I.mod.glob.keeps I.bk) hm (by rw [I.ok.blt]; exact h1.keeps I.bk) ((h2 x hn).trans hv) h) hd
theorem pe_glob {x : Str} {v : V} {u : Value} {pos : Pos} (hg : Gl X x) (hm : X.mg x = some u) (r : RelV v u) (hd : (x == ("__debug__" : Str)) = false := by decide) : PE X (.Name x pos) (tC v) :=
  fun _ _ _ H _ I h => ld_glob I hg hm ⟨v, H, I, r, h⟩ hd
theorem pe_bltn {x : Str} {v : V} {u : Value} {pos : Pos} (hg : Gl X x) (hm : X.mg x = none) (hv : bootBuiltins x = some u) (r : RelV v u) (hn : x ≠ "__name__" := by decide) (hd : (x == ("__debug__" : Str)) = false := by decide) : PE X (.Name x pos) (tC v) :=
  fun _ _ _ H _ I h => ld_blt I hg hm hv ⟨v, H, I, r, h⟩ hn hd
variable {a b : Expr} {ta tb : TE} {pos : Pos}
noncomputable def PC (X : Cx) (op : CmpOp) (a b : Expr) (t : TE) : Prop :=
  ∀ (pins : List (Addr × Obj)) (s : Shared) (σ : St) (H : Hp) (Q : VK), Inv X pins σ H s → t σ H Q →
    wpAny (model X.prog X.w) X.A (eval a X.env) (fun v s₁ => wpAny (model X.prog X.w) X.A (eval b X.env) (fun u s₂ => wpAny (model X.prog X.w) X.A (compareOp op v u) (EP X pins σ Q) X.xe s₂) X.xe s₁) X.xe s
noncomputable def tB (t : TE) : TT := fun σ H Q => t σ H fun x H1 => ∃ c, x = .bl c ∧ Q c H1
theorem pt_cmp {op : CmpOp} {t : TE} (h : PC X op a b t) (h1 : behindInMarks op b = false := by first | exact nobehind _ (by decide) (by decide) | rfl) : PT X (.Compare a [op] [b] pos) (tB t) := by
  intro pins s σ H Q I hw
  refine wpAny_isTrue_Compare1 (thn (h pins s σ H _ I hw) fun v s1 h1 => thn h1 fun u s2 h2 => thn h2 fun c s3 ⟨x, H1, I1, r1, q1⟩ => ?_) h1
  obtain ⟨d, rfl, q⟩ := q1
  cases r1
  exact wpAny_truthy_bool ⟨H1, I1, q⟩
theorem pt_val {e : Expr} {t : TE} (h : PE X e t) (he : ∀ whole, isTrue e X.env whole = (do let v ← whole; standAt e.pos; holding [v] (truthy v)) := by intro _; rfl) : PT X e (tB t) := by
  intro pins s σ H Q I hw
  refine isTrue_plain (thn (h pins s σ H _ I hw) fun v s1 ⟨x, H1, I1, r1, q1⟩ => ?_) (he _)
  obtain ⟨d, rfl, q⟩ := q1
  cases r1
  exact wpAny_truthy_bool ⟨H1, I1, q⟩
variable {tA tB' : TT} {rest : List Expr}
noncomputable def tAnd (t u : TT) : TT := fun σ H Q => t σ H fun c H1 => if c = true then u σ H1 Q else Q false H1
noncomputable def tOr (t u : TT) : TT := fun σ H Q => t σ H fun c H1 => if c = true then Q true H1 else u σ H1 Q
noncomputable def tNot (t : TT) : TT := fun σ H Q => t σ H fun c H1 => Q (!c) H1
theorem pw_and1 (ha : PT X a tA) : PW X (.BoolOp .And [a] pos) tA := by
  intro wh pins s σ H Q I h
  refine isTrue_and (thn (ha pins s σ H Q I h) fun c s1 e => ?_)
  cases c with
  | true => exact isTrue_and_nil e
  | false => exact e
theorem pw_or1 (ha : PT X a tA) : PW X (.BoolOp .Or [a] pos) tA := by
  intro wh pins s σ H Q I h
  refine isTrue_or (thn (ha pins s σ H Q I h) fun c s1 e => ?_)
  cases c with
  | false => exact isTrue_or_nil e
  | true => exact e
theorem pw_and (ha : PT X a tA) (hb : PW X (.BoolOp .And (b :: rest) pos) tB') : PW X (.BoolOp .And (a :: b :: rest) pos) (tAnd tA tB') := by
  intro wh pins s σ H Q I h
  refine isTrue_and (thn (ha pins s σ H _ I h) fun c s1 ⟨H1, I1, q1⟩ => ?_)
  cases c with
  | true => exact hb wh pins s1 σ H1 Q I1 q1
  | false => exact ⟨H1, I1, q1⟩
theorem pw_or (ha : PT X a tA) (hb : PW X (.BoolOp .Or (b :: rest) pos) tB') : PW X (.BoolOp .Or (a :: b :: rest) pos) (tOr tA tB') := by
  intro wh pins s σ H Q I h
  refine isTrue_or (thn (ha pins s σ H _ I h) fun c s1 ⟨H1, I1, q1⟩ => ?_)
  cases c with
  | true => exact ⟨H1, I1, q1⟩
  | false => exact hb wh pins s1 σ H1 Q I1 q1
theorem pt_not (ha : PT X a tA) : PT X (.UnaryOp .Not a pos) (tNot tA) := by
  intro pins s σ H Q I h
  exact isTrue_not (ha pins s σ H (fun c H1 => Q (!c) H1) I h)
noncomputable def tAndV (ta tb : TE) : TE := fun σ H Q => ta σ H fun x H1 => ∃ c, x = .bl c ∧ if c = true then tb σ H1 Q else Q (.bl false) H1
noncomputable def tNotV (ta : TE) : TE := fun σ H Q => ta σ H fun x H1 => ∃ c, x = .bl c ∧ Q (.bl (!c)) H1
theorem pe_one {op} {t : TE} (h : PE X a t) : PE X (.BoolOp op [a] pos) t := fun pins s σ H Q I hw => BoolOp_one (h pins s σ H Q I hw)
theorem pe_and (ha : PE X a ta) (hb : PE X (.BoolOp .And (b :: rest) pos) tb) : PE X (.BoolOp .And (a :: b :: rest) pos) (tAndV ta tb) := by
  intro pins s σ H Q I h
  refine BoolOp_and (thn (ha pins s σ H _ I h) fun v s1 ⟨x, H1, I1, r1, q1⟩ => ?_)
  obtain ⟨c, rfl, q1⟩ := q1
  cases r1
  refine wpAny_truthy_bool ?_
  cases c with
  | true => exact hb pins s1 σ H1 Q I1 q1
  | false => exact ⟨.bl false, H1, I1, rfl, q1⟩
theorem pe_not (ha : PE X a ta) : PE X (.UnaryOp .Not a pos) (tNotV ta) := by
  intro pins s σ H Q I h
  refine UnaryOp_ (thn (ha pins s σ H _ I h) fun v s1 ⟨x, H1, I1, r1, q1⟩ => ?_)
  obtain ⟨c, rfl, q1⟩ := q1
  cases r1
  exact not_of (wpAny_truthy_bool ⟨.bl (!c), H1, I1, rfl, q1⟩)
end
end L2
namespace L2
open PySem PySem.Spec PyProof.Rows
noncomputable def SqL (K : PySem.W.Frag) (H : Hp) (a : Addr) (xs : List V) : Prop :=
  Rd H a (.lst xs) ∨
    ∃ (o : Obj) (its : Array Value) (n : Nat), K.lookup a = some o ∧ o.cls = .type "list" ∧ o.dict = none ∧ o.data = .seq its n ∧ its.size ≤ sizeLine ∧ Vals xs its.toList
noncomputable def SqT (K : PySem.W.Frag) (H : Hp) (a : Addr) (xs : List V) : Prop :=
  Rd H a (.tup xs) ∨
    ∃ (o : Obj) (its : Array Value) (n : Nat), K.lookup a = some o ∧ o.cls = .type "tuple" ∧ o.data = .seq its n ∧ its.size ≤ sizeLine ∧ Vals xs its.toList
noncomputable def absV : Value → Option V
  | .none => some .non
  | .bool b => some (.bl b)
  | .int i _ => some (.int i)
  | .str x _ => some (.str x)
  | .bytes b _ => some (.byt b)
  | .float b _ => some (.flt b)
  | .ref a => some (.ref a)
  | .type n => some (.ty n)
  | _ => none
theorem RelV.abs {x : V} {u : Value} (r : RelV x u) : absV u = some x := by
  cases x with
  | non => cases r; rfl
  | bl _ => cases r; rfl
  | int _ => obtain ⟨t, rfl⟩ := r; rfl
  | str _ => obtain ⟨t, rfl⟩ := r; rfl
  | byt _ => obtain ⟨t, rfl⟩ := r; rfl
  | flt _ => obtain ⟨t, rfl⟩ := r; rfl
  | ref _ => cases r; rfl
  | ty _ => cases r; rfl
theorem RelV.inj {x y : V} {u : Value} (r : RelV x u) (q : RelV y u) : x = y := Option.some.inj (r.abs.symm.trans q.abs)
theorem Vals.inj : ∀ {xs ys : List V} {us : List Value}, Vals xs us → Vals ys us → xs = ys
  | _, _, _, .nil, .nil => rfl
  | _, _, _, .cons r t, .cons r' t' => by rw [r.inj r', Vals.inj t t']
section
variable {X : Cx} {pins : List (Addr × Obj)} {σ : St} {H : Hp} {s : Shared} {a : Addr} {xs ys : List V}
theorem SqL.of {K : PySem.W.Frag} (h : H a = some (.lst xs)) : SqL K H a xs := .inl (.inl h)
theorem SqT.of {K : PySem.W.Frag} (h : H a = some (.tup xs)) : SqT K H a xs := .inl (.inl h)
theorem Inv.list (I : Inv X pins σ H s) (h : SqL X.K H a xs) : ∃ its : List Value, Vals xs its ∧ PlainL s.heap a its.toArray ∧ xs.length ≤ sizeLine := by
  rcases h with h | ⟨o, its, n, hk, hc, hd, hs, hz, r⟩
  · obtain ⟨z, its, n, r, e⟩ := h.ok I.hok
    exact ⟨its, r, ⟨_, n, e, rfl, rfl, rfl⟩, z⟩
  · refine ⟨its.toList, r, ⟨o, n, I.kIn a o hk, hc, hd, by simpa using hs⟩, ?_⟩
    have e := r.length
    simp only [Array.length_toList] at e
    (first | lia | omega)
theorem Inv.tuple (I : Inv X pins σ H s) (h : SqT X.K H a xs) : ∃ its : List Value, Vals xs its ∧ IsTup s.heap a its.toArray ∧ xs.length ≤ sizeLine := by
  rcases h with h | ⟨o, its, n, hk, hc, hs, hz, r⟩
  · obtain ⟨z, its, r, p⟩ := h.ok I.hok
    exact ⟨its, r, p.tup, z⟩
  · refine ⟨its.toList, r, ⟨o, I.kIn a o hk, hc, n, by simpa using hs⟩, ?_⟩
    have e := r.length
    simp only [Array.length_toList] at e
    (first | lia | omega)
theorem Inv.list_inj (I : Inv X pins σ H s) (h : SqL X.K H a xs) (h' : SqL X.K H a ys) : xs = ys := by
  obtain ⟨its, r, ⟨o, n, e, _, _, d⟩, _⟩ := I.list h
  obtain ⟨its', r', ⟨o', n', e', _, _, d'⟩, _⟩ := I.list h'
  rw [e] at e'; cases e'
  rw [d] at d'
  injection d' with d1 _
  have : its = its' := by simpa using congrArg Array.toList d1
  subst this
  exact r.inj r'
theorem Inv.tuple_inj (I : Inv X pins σ H s) (h : SqT X.K H a xs) (h' : SqT X.K H a ys) : xs = ys := by
  obtain ⟨its, r, ⟨o, e, _, n, d⟩, _⟩ := I.tuple h
  obtain ⟨its', r', ⟨o', e', _, n', d'⟩, _⟩ := I.tuple h'
  rw [e] at e'; cases e'
  rw [d] at d'
  injection d' with d1 _
  have : its = its' := by simpa using congrArg Array.toList d1
  subst this
  exact r.inj r'
end
noncomputable abbrev Cx.wish (X : Cx) (E : Value → Shared → Prop) : Cx := { X with xe := E }
noncomputable abbrev Cx.nox (X : Cx) : Cx := X.wish fun _ _ => False
theorem Cx.Ok.wish {X : Cx} (ok : X.Ok) (E : Value → Shared → Prop) : (X.wish E).Ok :=
  ⟨ok.mod, ok.kind, ok.glob, ok.blt, ok.above, ok.inj, ok.has, ok.cab, ok.hd, ok.frames, ok.stk, ok.exf, ok.bs, ok.bsz, ok.noex, ok.exfs, ok.funs, ok.frf⟩
theorem Cx.Ok.unwish {X : Cx} {E : Value → Shared → Prop} (ok : (X.wish E).Ok) : X.Ok :=
  ⟨ok.mod, ok.kind, ok.glob, ok.blt, ok.above, ok.inj, ok.has, ok.cab, ok.hd, ok.frames, ok.stk, ok.exf, ok.bs, ok.bsz, ok.noex, ok.exfs, ok.funs, ok.frf⟩
section
variable {X : Cx} {pins : List (Addr × Obj)} {σ : St} {H : Hp} {s : Shared} {E : Value → Shared → Prop}
theorem Inv.wish (I : Inv X pins σ H s) (E : Value → Shared → Prop) : Inv (X.wish E) pins σ H s := ⟨I.ok.wish E, I.os, I.bare, I.base, I.loc, I.cell, I.free, I.freeC, I.pin, I.hok, I.len⟩
theorem Inv.unwish (I : Inv (X.wish E) pins σ H s) : Inv X pins σ H s := ⟨I.ok.unwish, I.os, I.bare, I.base, I.loc, I.cell, I.free, I.freeC, I.pin, I.hok, I.len⟩
theorem SP.unwish {D : Ends} {f : Flow} {s' : Shared} (h : SP (X.wish E) pins D f s') : SP X pins D f s' := by
  cases f with
  | next => obtain ⟨σ', H', I, q⟩ := h; exact ⟨σ', H', I.unwish, q⟩
  | brk => obtain ⟨σ', H', I, q⟩ := h; exact ⟨σ', H', I.unwish, q⟩
  | cont => obtain ⟨σ', H', I, q⟩ := h; exact ⟨σ', H', I.unwish, q⟩
  | ret u => obtain ⟨v, σ', H', I, r, q⟩ := h; exact ⟨v, σ', H', I.unwish, r, q⟩
theorem PSs.nox {st : List Stmt} {t : TS} (h : PSs X.nox st t) : PSs X st t := fun pins s σ H D I hw =>
  wpAny_mono (h pins s σ H D (I.wish _) hw) (fun _ _ q => q.unwish) fun _ _ z => False.elim z
end
section
variable {X : Cx} {st : Stmt} {rest : List Stmt} {t u : TS} {e : Expr} {te : TE} {pos : Pos}
noncomputable def tNext : TS := fun D σ H => D.nx σ H
noncomputable def tSeq (t u : TS) : TS := fun D σ H => t { D with nx := u D } σ H
theorem pss_nil : PSs X [] tNext := fun _ _ σ H _ I h => wpAny_execs_nil ⟨σ, H, I, h⟩
theorem pss_cons (h1 : PS X st t) (h2 : PSs X rest u) : PSs X (st :: rest) (tSeq t u) := by
  intro pins s σ H D I h
  refine wpAny_execs_cons (thn (h1 pins s σ H { D with nx := u D } I h) fun f s1 q => ?_)
  cases f with
  | next =>
    obtain ⟨σ', H', I', q⟩ := q
    exact h2 pins s1 σ' H' D I' q
  | ret v => exact q
  | brk => exact q
  | cont => exact q
theorem pss_one (h1 : PS X st t) : PSs X [st] t := by
  intro pins s σ H D I h
  refine wpAny_execs_cons (thn (h1 pins s σ H D I h) fun f s1 q => ?_)
  cases f with
  | next => exact wpAny_execs_nil q
  | ret v => exact q
  | brk => exact q
  | cont => exact q
theorem Inv.quiet {pins : List (Addr × Obj)} {σ : St} {H : Hp} {s : Shared} (I : Inv X pins σ H s) : interactive X.env = false := by simp [interactive, I.ok.kind]
noncomputable def tDrop (te : TE) : TS := fun D σ H => te σ H fun _ H1 => D.nx σ H1
theorem ps_expr (he : PE X e te) (hs : swapsWith e none pos.line X.env = pure false := by rfl) : PS X (.Expr e pos) (tDrop te) := by
  intro pins s σ H D I h
  exact wpAny_Expr_any (thn (he pins s σ H _ I h) fun v s1 ⟨x, H1, I1, r1, q1⟩ => ⟨σ, H1, I1, q1⟩) I.quiet hs
noncomputable def tRet (te : TE) : TS := fun D σ H => te σ H D.rt
theorem ps_ret (he : PE X e te) : PS X (.Return (some e) pos) (tRet te) := by
  intro pins s σ H D I h
  exact wpAny_Return_some (thn (he pins s σ H _ I h) fun v s1 ⟨x, H1, I1, r1, q1⟩ => ⟨x, σ, H1, I1, r1, q1⟩)
noncomputable def tIfS (c : TT) (t u : TS) : TS := fun D σ H => c σ H fun b H1 => if b = true then t D σ H1 else u D σ H1
theorem ps_if {c : Expr} {a b : List Stmt} {tc : TT} (hc : PT X c tc) (ha : PSs X a t) (hb : PSs X b u) : PS X (.If c a b pos) (tIfS tc t u) := by
  intro pins s σ H D I h
  refine wpAny_If (thn (hc pins s σ H _ I h) fun d s1 ⟨H1, I1, q1⟩ => ?_)
  cases d with
  | true => exact ha pins s1 σ H1 D I1 q1
  | false => exact hb pins s1 σ H1 D I1 q1
noncomputable def tNever : TS := fun _ _ _ => False
theorem pss_never {sts : List Stmt} : PSs X sts tNever := fun _ _ _ _ _ _ h => h.elim
end
noncomputable abbrev TG := V → St → Hp → (St → Hp → Prop) → Prop
noncomputable abbrev TGs := List V → St → Hp → (St → Hp → Prop) → Prop
noncomputable def PG (X : Cx) (target : Expr) (t : TG) : Prop :=
  ∀ (pins : List (Addr × Obj)) (s : Shared) (σ : St) (H : Hp) (v : V) (u : Value) (Q : St → Hp → Prop), Inv X pins σ H s → RelV v u → t v σ H Q →
    wpAny (model X.prog X.w) X.A (assign target X.env u) (fun _ s' => ∃ σ' H', Inv X pins σ' H' s' ∧ Q σ' H') X.xe s
noncomputable def PGs (X : Cx) (ts : List Expr) (t : TGs) : Prop :=
  ∀ (pins : List (Addr × Obj)) (s : Shared) (σ : St) (H : Hp) (vs : List V) (us : List Value) (Q : St → Hp → Prop), Inv X pins σ H s → Vals vs us → t vs σ H Q →
    wpAny (model X.prog X.w) X.A (assignInOrder ((assignEach ts X.env).map (·.2)) us) (fun _ s' => ∃ σ' H', Inv X pins σ' H' s' ∧ Q σ' H') X.xe s
noncomputable abbrev TIp := V → V → Hp → VK → Prop
noncomputable def PIp (X : Cx) (op : Operator) (t : TIp) : Prop :=
  ∀ (pins : List (Addr × Obj)) (s : Shared) (σ : St) (H : Hp) (x y : V) (v u : Value) (Q : VK), Inv X pins σ H s → RelV x v → RelV y u → t x y H Q →
    wpAny (model X.prog X.w) X.A (inplaceOp op v u) (EP X pins σ Q) X.xe s
section
variable {X : Cx} {pos : Pos}
noncomputable def gName (i : Nat) : TG := fun v σ H Q => Q (σ.set i (some v)) H
theorem pg_name {i : Nat} {x : Str} (hN : X.N.Nodup) (hi : X.N[i]? = some x) (hx : Loc X.env.scope x) (hf : X.fn x = true ∨ X.env.scope.names.lookup x = some .local := by first | exact .inl rfl | exact .inr rfl | assumption) : PG X (.Name x pos) (gName i) := by
  intro pins s σ H v u Q I r h
  exact wpAny_assign_Name (store_ok I hN hi hx r (fun s' I' => ⟨_, H, I', h⟩) hf)
noncomputable def gNil : TGs := fun vs σ H Q => vs = [] ∧ Q σ H
noncomputable def gCons (t : TG) (u : TGs) : TGs := fun vs σ H Q => ∃ v r, vs = v :: r ∧ t v σ H fun σ' H' => u r σ' H' Q
theorem pgs_nil : PGs X [] gNil := by
  intro pins s σ H vs us Q I r h
  obtain ⟨e, h⟩ := h
  subst e
  cases r
  exact assignInOrder_nil ⟨σ, H, I, h⟩
theorem pgs_cons {e : Expr} {es : List Expr} {t : TG} {u : TGs} (h1 : PG X e t) (h2 : PGs X es u)
    (hs : (assignEach (e :: es) X.env).map (·.2) = assign e X.env :: (assignEach es X.env).map (·.2) := by rfl) : PGs X (e :: es) (gCons t u) := by
  intro pins s σ H vs us Q I r h
  obtain ⟨v, vr, e1, h⟩ := h
  subst e1
  cases r with
  | cons r rr =>
    rw [hs]
    refine assignInOrder_cons (thn (h1 pins s σ H _ _ _ I r h) fun _ s1 ⟨σ1, H1, I1, q1⟩ => ?_)
    exact h2 pins s1 σ1 H1 _ _ Q I1 rr q1
noncomputable def gTup (K : PySem.W.Frag) (n : Nat) (t : TGs) : TG := fun v σ H Q => ∃ a xs, v = .ref a ∧ SqT K H a xs ∧ xs.length = n ∧ t xs σ H Q
theorem pg_tup {es : List Expr} {k : Nat} {t : TGs} {n : Nat} (hc : X.calm = true) (h : PGs X es t)
    (hn : (assignEach es X.env).length = n := by rfl) (hst : (assignEach es X.env).findIdx? (·.1) = none := by rfl) : PG X (.Tuple es k pos) (gTup X.K n t) := by
  intro pins s σ H v u Q I r hw
  obtain ⟨a, xs, e1, hq, hl, hw⟩ := hw
  subst e1
  cases r
  obtain ⟨its, rv, ht, hz⟩ := I.tuple hq
  refine assign_Tuple_tuple (I.ok.hd hc) ht (by simp [hn, ← hl, rv.length]) hst fun h' hx => ?_
  have I1 : Inv X pins σ H { s with heap := h' } := I.kept (t' := s.toks) fun b o e => hx b o (Nat.ne_of_lt (Heap.lt_size e)) e
  exact h pins _ σ H xs _ Q I1 (by simpa using rv) hw
noncomputable def tAsg (te : TE) (g : TG) : TS := fun D σ H => te σ H fun x H1 => g x σ H1 D.nx
theorem ps_set {i : Nat} {x : Str} {e : Expr} {te : TE} {pos' : Pos} (hN : X.N.Nodup) (hi : X.N[i]? = some x) (hx : Loc X.env.scope x) (he : PE X e te) (hs : swapsWith e (some (.Name x pos')) pos.line X.env = pure false := by rfl) (hf : X.fn x = true ∨ X.env.scope.names.lookup x = some .local := by first | exact .inl rfl | exact .inr rfl | assumption) :
    PS X (.Assign [.Name x pos'] e pos) (tAsg te (gName i)) := by
  intro pins s σ H D I h
  refine wpAny_Assign_Name (thn (he pins s σ H _ I h) fun v s1 ⟨y, H1, I1, r1, q1⟩ => ?_) hs
  exact store_ok I1 hN hi hx r1 (fun s2 I2 => ⟨_, H1, I2, q1⟩) hf
noncomputable def tAug (i : Nat) (te : TE) (ti : TIp) : TS := fun D σ H => ∃ x, σ[i]? = some (some x) ∧ te σ H fun y H1 => ti x y H1 fun z H2 => D.nx (σ.set i (some z)) H2
theorem ps_aug {i : Nat} {x : Str} {e : Expr} {te : TE} {op : Operator} {ti : TIp} {pos' : Pos} (hN : X.N.Nodup) (hi : X.N[i]? = some x) (hx : Loc X.env.scope x) (he : PE X e te) (ho : PIp X op ti) (hf : X.fn x = true ∨ X.env.scope.names.lookup x = some .local := by first | exact .inl rfl | exact .inr rfl | assumption) :
    PS X (.AugAssign (.Name x pos') op e pos) (tAug i te ti) := by
  intro pins s σ H D I h
  obtain ⟨v, e1, h⟩ := h
  obtain ⟨m, hn, hl⟩ := I.loc
  have vis : Vis X.env.scope x := by rcases hx with k | k; exact .inl k; exact .inr (.inl k)
  obtain ⟨u, r, l⟩ := hl i x v hi e1 vis
  refine wpAny_AugAssign_Name ?_
  have go : wpAny (model X.prog X.w) X.A (eval e X.env) (fun w s₂ => wpAny (model X.prog X.w) X.A (inplaceOp op u w) (fun r s₃ => wpAny (model X.prog X.w) X.A (storeName X.env x r) (fun _ => SP X pins D .next) X.xe s₃) X.xe s₂) X.xe s := by
    refine thn (he pins s σ H _ I h) fun w s1 ⟨y, H1, I1, r1, q1⟩ => ?_
    refine thn (ho pins s1 σ H1 v y u w _ I1 r r1 q1) fun z s2 ⟨zv, H2, I2, r2, q2⟩ => ?_
    exact store_ok I2 hN hi hx r2 (fun s3 I3 => ⟨_, H2, I3, q2⟩) hf
  rcases l with ⟨hk, hm⟩ | ⟨hk, c, hc, hcell⟩
  · exact wpAny_loadName_local I.ok.kind hk hn hm go
  · rcases hk with hk | hk
    · exact wpAny_loadName_cell I.ok.kind hk hc hcell go
    · rcases hx with k | k
      · have : X.env.scope.names.lookup x = some .free := hk
        rw [k] at this; cases this
      · have : X.env.scope.names.lookup x = some .free := hk
        rw [k] at this; cases this
noncomputable def ipI (f : Int → Int → Int) : TIp := fun x y H Q => ∃ i j, x = .int i ∧ y = .int j ∧ Q (.int (f i j)) H
theorem ip_add : PIp X .Add (ipI fun i j => i + j) := by
  intro pins s σ H x y v u Q I r1 r2 h
  obtain ⟨i, j, e1, e2, q⟩ := h
  subst e1; subst e2
  obtain ⟨t, rfl⟩ := r1
  obtain ⟨t', rfl⟩ := r2
  exact iadd_int ⟨.int _, H, I.tok _, ⟨_, rfl⟩, q⟩
end
section
variable {X : Cx} {pos : Pos}
noncomputable def tWhile (c : TT) (tb : TS) : TS := fun D σ H => ∃ W : Nat → St → Hp → Prop, (∃ m, W m σ H) ∧ ∀ m σ H, W m σ H →
  c σ H fun b H1 => if b = true then ∃ N : St → Hp → Prop, (∀ σ' H', N σ' H' → ∃ m', m' < m ∧ W m' σ' H') ∧ tb { D with nx := N, ct := N, bk := D.nx } σ H1 else D.nx σ H1
theorem ps_while {c : Expr} {body : List Stmt} {tc : TT} {tb : TS} (hp : PassesOwn (model X.prog X.w) X.A X.env X.xe) (hc : PT X c tc) (hb : PSs X body tb) : PS X (.While c body [] pos) (tWhile tc tb) := by
  intro pins s σ H D I h
  obtain ⟨W, ⟨m0, w0⟩, turn⟩ := h
  refine wpAny_While (codeAny_whileLoop (fun n s' => ∃ σ' H', Inv X pins σ' H' s' ∧ W n σ' H') ?_ m0 ⟨σ, H, I, w0⟩)
  rintro n s1 ⟨σ1, H1, I1, w1⟩
  refine wpAny_passesOwn hp (thn (hc pins s1 σ1 H1 _ I1 (turn n σ1 H1 w1)) fun b s2 ⟨H2, I2, q2⟩ => ?_)
  cases b with
  | true =>
    obtain ⟨N, hN, q2⟩ := q2
    rw [if_pos rfl]
    refine wpAny_passesOwn hp (thn (hb pins s2 σ1 H2 _ I2 q2) fun f s3 q3 => ?_)
    cases f with
    | next =>
      obtain ⟨σ3, H3, I3, n3⟩ := q3
      obtain ⟨m', hm, w3⟩ := hN σ3 H3 n3
      exact ⟨m', hm, σ3, H3, I3, w3⟩
    | cont =>
      obtain ⟨σ3, H3, I3, n3⟩ := q3
      obtain ⟨m', hm, w3⟩ := hN σ3 H3 n3
      exact ⟨m', hm, σ3, H3, I3, w3⟩
    | brk => exact q3
    | ret v => exact q3
  | false =>
    rw [if_neg Bool.false_ne_true]
    exact wpAny_execs_nil ⟨σ1, H2, I2, q2⟩
end
structure It where
  go : Nat → Hp → Prop
  yld : Nat → Hp → V → Hp → Prop
  stop : Nat → Hp → Prop
noncomputable def FpOk (X : Cx) (pins : List (Addr × Obj)) (H : Hp) (b : Addr) : Prop :=
  H b = none ∧ b ≠ X.env.locals ∧ b ∉ X.fs ∧ (b ∈ X.ex ∨ X.s₀.heap.objs.size ≤ b) ∧ (∀ x c, X.env.cells.lookup x = some c → c ≠ b) ∧ ∀ p ∈ X.pn ++ pins, p.1 ≠ b
theorem Inv.fpOk {X : Cx} {pins : List (Addr × Obj)} {σ : St} {H H' : Hp} {s : Shared} {b : Addr} (I : Inv X pins σ H s) (hb : s.heap.objs.size ≤ b) (hn : H' b = none) : FpOk X pins H' b := by
  refine ⟨hn, Nat.ne_of_gt (Nat.lt_of_lt_of_le I.lt hb), I.nofs hb, .inr (Nat.le_trans I.sz hb), fun x c e z => ?_, fun p hp z => ?_⟩
  · obtain ⟨v, q⟩ := I.cell x c e
    exact absurd (Nat.lt_of_lt_of_le q.lt (by rw [z]; exact hb)) (Nat.lt_irrefl _)
  · exact absurd (Nat.lt_of_lt_of_le (Heap.lt_size (I.pin p hp).1) (by rw [z]; exact hb)) (Nat.lt_irrefl _)
structure Turn (P : Program) (w : World) (K : PySem.W.Frag) (tg : Expr) (J : It) (fp : List Addr) (it : Addr) (tn : Nat → Heap → Prop) : Prop where
  mem : it ∈ fp
  obj : ∀ i h, tn i h → ∀ b ∈ fp, ∃ o, h.get? b = some o ∧ ∀ v, o.data ≠ .cell v
  keep : ∀ i h h', tn i h → (∀ b ∈ fp, ∀ o, h.get? b = some o → h'.get? b = some o) → tn i h'
  item : ∀ (X : Cx), X.prog = P → X.w = w → X.K = K → X.calm = true → ∀ (i : Nat) (pins : List (Addr × Obj)) (s : Shared) (σ : St) (H : Hp) (E : Value → Shared → Prop), Inv X pins σ H s → (∀ b ∈ fp, FpOk X pins H b) → tn i s.heap → J.go i H →
    wpAny (model P w) X.A (pyNext (.ref it)) (fun r s1 => ∃ u, r = some u ∧
      wpAny (model P w) X.A (letOwnedTupleGo tg (.ref it) u) (fun _ s2 => ∃ x H', Inv X pins σ H' s2 ∧ RelV x u ∧ J.yld i H x H' ∧ tn (i + 1) s2.heap ∧ ∀ b ∈ fp, H' b = none) E s1) E s
  done : ∀ (X : Cx), X.prog = P → X.w = w → X.K = K → X.calm = true → ∀ (i : Nat) (pins : List (Addr × Obj)) (s : Shared) (σ : St) (H : Hp) (E : Value → Shared → Prop), Inv X pins σ H s → (∀ b ∈ fp, FpOk X pins H b) → tn i s.heap → J.stop i H →
    wpAny (model P w) X.A (pyNext (.ref it)) (fun r s1 => r = none ∧ Inv X pins σ H s1) E s
  self : ∀ (A : Around) (i : Nat) (s : Shared) (Q : Value → Shared → Prop) (E : Value → Shared → Prop), tn i s.heap → Q (.ref it) s → wpAny (model P w) A (pyIter (.ref it)) Q E s
noncomputable abbrev TI := St → Hp → (It → Hp → Prop) → Prop
noncomputable def PIE (X : Cx) (pins : List (Addr × Obj)) (σ : St) (tg : Expr) (R : It → Hp → Prop) (itv : Value) (s2 : Shared) : Prop :=
  ∃ (it : Addr) (fp : List Addr) (tn : Nat → Heap → Prop) (J : It) (H' : Hp), itv = .ref it ∧ Inv X pins σ H' s2 ∧ Turn X.prog X.w X.K tg J fp it tn ∧ tn 0 s2.heap ∧ (∀ b ∈ fp, FpOk X pins H' b) ∧ R J H'
noncomputable def PI (X : Cx) (tg iter : Expr) (wi : TI) : Prop :=
  ∀ (pins : List (Addr × Obj)) (s : Shared) (σ : St) (H : Hp) (R : It → Hp → Prop), Inv X pins σ H s → wi σ H R →
    wpAny (model X.prog X.w) X.A (eval iter X.env) (fun v s1 => wpAny (model X.prog X.w) X.A (pyIter v) (PIE X pins σ tg R) X.xe s1) X.xe s
theorem go_of {M : Model} {A : Around} {E : Value → Shared → Prop} {s : Shared} {tg : Expr} {it : Addr} {u : Value} {o : Obj} {n : String} {vs : Array Value} {Q : Unit → Shared → Prop} (ho : s.heap.get? it = some o) (hc : o.cls = .type n) (hd : o.data = .fields vs)
    (hn : ["enumerate", "zip", "dict_itemiterator", "dict_reverseitemiterator", "odict_iterator", "itertools.zip_longest", "itertools.pairwise"].contains n = false) (hQ : Q () s) : wpAny M A (letOwnedTupleGo tg (.ref it) u) Q E s := by
  unfold letOwnedTupleGo
  cases tg <;> first
    | exact wpAny_pure hQ
    | (cases u <;> first
        | exact wpAny_pure hQ
        | (refine wpAny_bind (wpAny_load ho ?_)
           rw [hc, hd]
           show wpAny M A (if (["enumerate", "zip", "dict_itemiterator", "dict_reverseitemiterator", "odict_iterator", "itertools.zip_longest", "itertools.pairwise"].contains n && vs[0]? == some (rawInt _)) = true then _ else _) Q E s
           rw [if_neg (by intro h; rw [hn, Bool.false_and] at h; cases h)]
           exact wpAny_pure hQ))
noncomputable def Itl (K : PySem.W.Frag) (a : Addr) : It :=
  ⟨fun i H => ∃ xs x, SqL K H a xs ∧ xs[i]? = some x, fun i H x H' => H' = H ∧ ∀ xs, SqL K H a xs → xs[i]? = some x, fun i H => ∃ xs, SqL K H a xs ∧ xs.length ≤ i⟩
noncomputable def Itt (K : PySem.W.Frag) (a : Addr) : It :=
  ⟨fun i H => ∃ xs x, SqT K H a xs ∧ xs[i]? = some x, fun i H x H' => H' = H ∧ ∀ xs, SqT K H a xs → xs[i]? = some x, fun i H => ∃ xs, SqT K H a xs ∧ xs.length ≤ i⟩
noncomputable def Itr (lo : Int) (n : Nat) : It := ⟨fun i _ => i < n, fun i H x H' => H' = H ∧ x = .int (lo + i), fun i _ => n ≤ i⟩
theorem turn_list {P : Program} {w : World} {K : PySem.W.Frag} {tg : Expr} (a it : Addr) : Turn P w K tg (Itl K a) [it] it (fun i h => h.IsListIter it a i) where
  mem := by simp
  obj := fun i h st b hb => by
    have e : b = it := by simpa using hb
    subst e
    obtain ⟨o, e, c, d⟩ := st
    exact ⟨o, e, fun v z => by rw [d] at z; cases z⟩
  keep := fun i h h' st k => st.at fun o e => k it (by simp) o e
  item := by
    intro X hP hw hK hc i pins s σ H E I hf st hg
    subst hP hw hK
    obtain ⟨xs, x, hq, hx⟩ := hg
    obtain ⟨its, rv, p, hz⟩ := I.list hq
    obtain ⟨u, hu, ru⟩ := rv.get hx
    obtain ⟨f0, f1, f2, f3, f4, f5⟩ := hf it (by simp)
    refine wpAny_pyNext_list_item st p.isList (x := u) (by simpa using hu) fun h' st' sb => ?_
    have I1 : Inv X pins σ H { s with heap := h' } := I.turned (t' := s.toks) (fun b o hb e => (sb.2 b hb).trans e) f0 f1 f3 f4 f5
    obtain ⟨o, e, c, d⟩ := id st'
    exact ⟨u, rfl, go_of (s := { s with heap := h' }) e c d (by decide) ⟨x, H, I1, ru, ⟨rfl, fun ys hy => by rw [I.list_inj hy hq]; exact hx⟩, st', fun b hb => (hf b hb).1⟩⟩
  done := by
    intro X hP hw hK hc i pins s σ H E I hf st hg
    subst hP hw hK
    obtain ⟨xs, hq, hx⟩ := hg
    obtain ⟨its, rv, p, hz⟩ := I.list hq
    obtain ⟨f0, f1, f2, f3, f4, f5⟩ := hf it (by simp)
    have hl := rv.length
    exact wpAny_pyNext_list_end (I.ok.hd hc) st p.isList (by simp; (first | lia | omega)) fun h' eb => ⟨rfl, I.turned (t' := s.toks) (fun b o hb e => eb b o hb e) f0 f1 f3 f4 f5⟩
  self := fun _ _ _ _ _ st h => wpAny_pyIter_listiter st h
theorem turn_tuple {P : Program} {w : World} {K : PySem.W.Frag} {tg : Expr} (a it : Addr) : Turn P w K tg (Itt K a) [it] it (fun i h => h.IsTupleIter it a i) where
  mem := by simp
  obj := fun i h st b hb => by
    have e : b = it := by simpa using hb
    subst e
    obtain ⟨o, e, c, d⟩ := st
    exact ⟨o, e, fun v z => by rw [d] at z; cases z⟩
  keep := fun i h h' st k => st.at fun o e => k it (by simp) o e
  item := by
    intro X hP hw hK hc i pins s σ H E I hf st hg
    subst hP hw hK
    obtain ⟨xs, x, hq, hx⟩ := hg
    obtain ⟨its, rv, p, hz⟩ := I.tuple hq
    obtain ⟨u, hu, ru⟩ := rv.get hx
    obtain ⟨f0, f1, f2, f3, f4, f5⟩ := hf it (by simp)
    refine wpAny_pyNext_tuple_item st (show s.heap.IsTuple a its.toArray from p) (x := u) (by simpa using hu) fun h' st' sb => ?_
    have I1 : Inv X pins σ H { s with heap := h' } := I.turned (t' := s.toks) (fun b o hb e => (sb.2 b hb).trans e) f0 f1 f3 f4 f5
    obtain ⟨o, e, c, d⟩ := id st'
    exact ⟨u, rfl, go_of (s := { s with heap := h' }) e c d (by decide) ⟨x, H, I1, ru, ⟨rfl, fun ys hy => by rw [I.tuple_inj hy hq]; exact hx⟩, st', fun b hb => (hf b hb).1⟩⟩
  done := by
    intro X hP hw hK hc i pins s σ H E I hf st hg
    subst hP hw hK
    obtain ⟨xs, hq, hx⟩ := hg
    obtain ⟨its, rv, p, hz⟩ := I.tuple hq
    obtain ⟨f0, f1, f2, f3, f4, f5⟩ := hf it (by simp)
    have hl := rv.length
    exact wpAny_pyNext_tuple_end (I.ok.hd hc) st (show s.heap.IsTuple a its.toArray from p) (by simp; (first | lia | omega)) fun h' eb => ⟨rfl, I.turned (t' := s.toks) (fun b o hb e => eb b o hb e) f0 f1 f3 f4 f5⟩
  self := fun _ _ _ _ _ st h => wpAny_pyIter_tupleiter st h
theorem turn_range {P : Program} {w : World} {K : PySem.W.Frag} {tg : Expr} (it : Addr) (lo : Int) (n : Nat) : Turn P w K tg (Itr lo n) [it] it (fun i h => IsRangeIter h it (lo + (i : Nat) * 1) ((n : Int) - (i : Nat)) 1) where
  mem := by simp
  obj := fun i h st b hb => by
    have e : b = it := by simpa using hb
    subst e
    exact ⟨_, st, fun v z => by
      have z' : Data.fields _ = Data.cell v := z
      cases z'⟩
  keep := fun i h h' st k => k it (by simp) _ st
  item := by
    intro X hP hw hK hc i pins s σ H E I hf st hg
    subst hP hw hK
    obtain ⟨f0, f1, f2, f3, f4, f5⟩ := hf it (by simp)
    have W := Walks.range (prog := X.prog) (w := X.w) (I.ok.hd hc) it lo 1 n
    refine W.item i s _ _ hg st fun v h' tk hv st' kk => ?_
    obtain ⟨t, rfl⟩ := hv
    have I1 : Inv X pins σ H { s with heap := h', toks := tk } := I.turned (fun b o hb e => kk b o (by simpa using hb) e) f0 f1 f3 f4 f5
    refine ⟨_, rfl, go_of (s := { s with heap := h', toks := tk }) (n := "range_iterator") st' rfl rfl (by decide) ⟨.int (lo + i), H, I1, ⟨t, ?_⟩, ⟨rfl, rfl⟩, st', fun b hb => (hf b hb).1⟩⟩
    rw [Int.mul_one]
  done := by
    intro X hP hw hK hc i pins s σ H E I hf st hg
    subst hP hw hK
    obtain ⟨f0, f1, f2, f3, f4, f5⟩ := hf it (by simp)
    exact wpAny_pyNext_range_end (I.ok.hd hc) st (by have : n ≤ i := hg; (first | lia | omega)) fun h' eb => ⟨rfl, I.turned (t' := s.toks) (fun b o hb e => eb b o hb e) f0 f1 f3 f4 f5⟩
  self := fun _ _ _ _ _ st h => wpAny_pyIter_rangeiter st h
end L2
namespace L2
open PySem PySem.Spec PyProof.Rows
section
variable {X : Cx} {tg : Expr}
noncomputable def iList (K : PySem.W.Frag) (tl : TE) : TI := fun σ H R => tl σ H fun x H1 => ∃ a, x = .ref a ∧ (∃ xs, SqL K H1 a xs) ∧ R (Itl K a) H1
noncomputable def iTup (K : PySem.W.Frag) (tl : TE) : TI := fun σ H R => tl σ H fun x H1 => ∃ a, x = .ref a ∧ (∃ xs, SqT K H1 a xs) ∧ R (Itt K a) H1
theorem pi_list {l : Expr} {tl : TE} (hl : PE X l tl) : PI X tg l (iList X.K tl) := by
  intro pins s σ H R I h
  refine thn (hl pins s σ H _ I h) fun v s1 ⟨x, H1, I1, r1, q1⟩ => ?_
  obtain ⟨a, e, ⟨xs, hq⟩, q⟩ := q1
  subst e
  cases r1
  obtain ⟨its, rv, p, hz⟩ := I1.list hq
  refine wpAny_pyIter_list p.isList ?_
  refine ⟨s1.heap.objs.size, [s1.heap.objs.size], _, _, H1, rfl, I1.kept (t' := s1.toks) fun b o e => Heap.get?_push_of_some _ e, turn_list a _, ⟨_, Heap.get?_push_size _ rfl, rfl, rfl⟩, fun b hb => ?_, q⟩
  have e : b = s1.heap.objs.size := by simpa using hb
  subst e
  exact I1.fpOk (Nat.le_refl _) (I1.hok.fresh (Nat.le_refl _))
theorem pi_tup {l : Expr} {tl : TE} (hl : PE X l tl) : PI X tg l (iTup X.K tl) := by
  intro pins s σ H R I h
  refine thn (hl pins s σ H _ I h) fun v s1 ⟨x, H1, I1, r1, q1⟩ => ?_
  obtain ⟨a, e, ⟨xs, hq⟩, q⟩ := q1
  subst e
  cases r1
  obtain ⟨its, rv, p, hz⟩ := I1.tuple hq
  refine wpAny_pyIter_tuple (show s1.heap.IsTuple a its.toArray from p) ?_
  refine ⟨s1.heap.objs.size, [s1.heap.objs.size], _, _, H1, rfl, I1.kept (t' := s1.toks) fun b o e => Heap.get?_push_of_some _ e, turn_tuple a _, ⟨_, Heap.get?_push_size _ rfl, rfl, rfl⟩, fun b hb => ?_, q⟩
  have e : b = s1.heap.objs.size := by simpa using hb
  subst e
  exact I1.fpOk (Nat.le_refl _) (I1.hok.fresh (Nat.le_refl _))
theorem range_it {pins : List (Addr × Obj)} {σ : St} {H : Hp} {s : Shared} {R : It → Hp → Prop} {E : Value → Shared → Prop} {lo hi : Int} {t u v : Tok} {tk : Nat} (I : Inv X pins σ H s) (h1 : -(2 ^ 62) ≤ lo) (h2 : lo < 2 ^ 62) (h3 : -(2 ^ 62) ≤ hi) (h4 : hi < 2 ^ 62)
    (q : R (Itr lo (hi - lo).toNat) H) : wpAny (model X.prog X.w) X.A (pyIter (.ref s.heap.objs.size)) (PIE X pins σ tg R) E { s with heap := s.heap.push { cls := .type "range", data := .fields #[.int lo t, .int hi u, .int 1 v] }, toks := tk } := by
  refine wpAny_pyIter_range (IsRange.new ..) (small_one h1 h2 h3 h4) ?_
  have I1 : Inv X pins σ H { s with heap := s.heap.push { cls := .type "range", data := .fields #[.int lo t, .int hi u, .int 1 v] }, toks := tk } := I.kept fun b o e => Heap.get?_push_of_some _ e
  refine ⟨(s.heap.push { cls := .type "range", data := .fields #[.int lo t, .int hi u, .int 1 v] }).objs.size, [(s.heap.push { cls := .type "range", data := .fields #[.int lo t, .int hi u, .int 1 v] }).objs.size], _, _, H, rfl,
    I1.kept (t' := tk) fun b o e => Heap.get?_push_of_some _ e, turn_range _ lo (hi - lo).toNat, ?_, fun b hb => ?_, q⟩
  · have e1 : lo + ((0 : Nat) : Int) * 1 = lo := by simp
    have e2 : (((hi - lo).toNat : Nat) : Int) - ((0 : Nat) : Int) = Builtin.Range.rangeSize lo hi 1 := by rw [rangeSize_one]; split <;> (first | lia | omega)
    show IsRangeIter _ _ (lo + ((0 : Nat) : Int) * 1) ((((hi - lo).toNat : Nat) : Int) - ((0 : Nat) : Int)) 1
    rw [e1, e2]
    exact Heap.get?_push_size _ rfl
  · have e : b = (s.heap.push { cls := .type "range", data := .fields #[.int lo t, .int hi u, .int 1 v] }).objs.size := by simpa using hb
    subst e
    exact I1.fpOk (Nat.le_refl _) (I1.hok.fresh (Nat.le_refl _))
noncomputable def iRng1 (ta : TA) : TI := fun σ H R => ta σ H fun vs H1 => ∃ j : Int, vs = [.int j] ∧ -(2 ^ 62) ≤ j ∧ j < 2 ^ 62 ∧ R (Itr 0 j.toNat) H1
noncomputable def iRng2 (ta : TA) : TI := fun σ H R => ta σ H fun vs H1 => ∃ i j : Int, vs = [.int i, .int j] ∧ (-(2 ^ 62) ≤ i ∧ i < 2 ^ 62 ∧ -(2 ^ 62) ≤ j ∧ j < 2 ^ 62) ∧ R (Itr i (j - i).toNat) H1
theorem pi_range1 {a : Expr} {ta : TA} {p pos : Pos} (hg : Gl X "range") (hm : X.mg "range" = none) (ha : PA X [a] ta) (hs : starEach [a] X.env = [(false, eval a X.env)] := by rfl) : PI X tg (.Call (.Name "range" p) [a] [] pos) (iRng1 ta) := by
  intro pins s σ H R I h
  refine Call_ (ld_blt I hg hm boot_range (PyProof.Rows.callWith_type1 (thn (ha pos pins s σ H _ I h) fun us s1 ⟨vs, H1, I1, r1, q1⟩ => ?_) hs rfl))
  obtain ⟨j, e, q1, q2, q⟩ := q1
  subst e
  cases r1 with
  | cons r rr =>
    cases rr
    obtain ⟨t, rfl⟩ := r
    exact call_range_1 (range_it I1 (by (first | lia | omega)) (by (first | lia | omega)) q1 q2 (by simpa using q))
theorem pi_range2 {a b : Expr} {ta : TA} {p pos : Pos} (hg : Gl X "range") (hm : X.mg "range" = none) (ha : PA X [a, b] ta) (hs : starEach [a, b] X.env = [(false, eval a X.env), (false, eval b X.env)] := by rfl) (hs2 : starEach [b] X.env = [(false, eval b X.env)] := by rfl) :
    PI X tg (.Call (.Name "range" p) [a, b] [] pos) (iRng2 ta) := by
  intro pins s σ H R I h
  refine Call_ (ld_blt I hg hm boot_range (PyProof.Rows.callWith_type1 (thn (ha pos pins s σ H _ I h) fun us s1 ⟨vs, H1, I1, r1, q1⟩ => ?_) (by rw [hs, hs2]) (by rw [hs2]; rfl)))
  obtain ⟨i, j, e, ⟨q1, q2, q3, q4⟩, q⟩ := q1
  subst e
  cases r1 with
  | cons r rr =>
    cases rr with
    | cons r' rr =>
      cases rr
      obtain ⟨t, rfl⟩ := r
      obtain ⟨t', rfl⟩ := r'
      exact call_range_2 (range_it I1 q1 q2 q3 q4 q)
noncomputable def tFor (wi : TI) (g : TG) (tb : TS) : TS := fun D σ H => wi σ H fun J H1 => ∃ W : Nat → Nat → St → Hp → Prop, (∃ m, W 0 m σ H1) ∧ ∀ i m σ H, W i m σ H →
  (J.stop i H ∧ D.nx σ H) ∨ (J.go i H ∧ ∃ N : St → Hp → Prop, (∀ σ' H', N σ' H' → ∃ m', m' < m ∧ W (i + 1) m' σ' H') ∧ ∀ x H', J.yld i H x H' → g x σ H' fun σ2 H2 => tb { D with nx := N, ct := N, bk := D.nx } σ2 H2)
noncomputable def pinsAt (fp : List Addr) (h : Heap) : List (Addr × Obj) := fp.filterMap fun b => (h.get? b).map fun o => (b, o)
theorem mem_pinsAt {fp : List Addr} {h : Heap} {b : Addr} {o : Obj} (hb : b ∈ fp) (e : h.get? b = some o) : (b, o) ∈ pinsAt fp h := List.mem_filterMap.mpr ⟨b, hb, by rw [e]; rfl⟩
theorem of_pinsAt {fp : List Addr} {h : Heap} {p : Addr × Obj} (hp : p ∈ pinsAt fp h) : p.1 ∈ fp ∧ h.get? p.1 = some p.2 := by
  obtain ⟨b, hb, e⟩ := List.mem_filterMap.mp hp
  cases q : h.get? b with
  | none => rw [q] at e; cases e
  | some o =>
    rw [q] at e
    have e' : (b, o) = p := Option.some.inj e
    subst e'
    exact ⟨hb, q⟩
theorem Inv.pinned {pins : List (Addr × Obj)} {σ : St} {H : Hp} {s : Shared} {fp : List Addr} (I : Inv X pins σ H s) (hf : ∀ b ∈ fp, FpOk X pins H b) (ho : ∀ b ∈ fp, ∃ o, s.heap.get? b = some o ∧ ∀ v, o.data ≠ .cell v) : Inv X (pins ++ pinsAt fp s.heap) σ H s :=
  I.pins_of fun p hp => (List.mem_append.mp hp).elim (fun z => I.pin p (List.mem_append_right _ z)) fun z => by
    obtain ⟨hb, e⟩ := of_pinsAt z
    obtain ⟨f0, f1, f2, _⟩ := hf p.1 hb
    obtain ⟨o, e', d⟩ := ho p.1 hb
    rw [e] at e'; cases e'
    exact ⟨e, f0, f1, f2, d⟩
theorem Inv.unpinned {pins pl : List (Addr × Obj)} {σ : St} {H : Hp} {s : Shared} (I : Inv X (pins ++ pl) σ H s) : Inv X pins σ H s := I.pins_of fun p hp => I.pin p (List.mem_append_right _ (List.mem_append_left _ hp))
theorem ps_for {iter : Expr} {body : List Stmt} {wi : TI} {g : TG} {tb : TS} {pos : Pos} (hp : PassesOwn (model X.prog X.w) X.A X.env X.xe) (hc : X.calm = true) (hi : PI X tg iter wi) (hg : PG X tg g) (hb : PSs X body tb)
    (hs : ∀ x, foldedSetIterable iter X.env x = pure x := by intro _; rfl) : PS X (.For tg iter body [] pos) (tFor wi g tb) := by
  intro pins s σ H D I h
  refine wpAny_For (thn (hi pins s σ H _ I h) fun v s1 h1 => thn h1 fun itv s2 h2 => ?_) hs
  obtain ⟨it, fp, tn, J, H2, e, I2, T, st2, f2, W, ⟨m0, w0⟩, turn⟩ := h2
  subst e
  -- what stays true of the iterator's objects through the loop
  have stat : ∀ {H' : Hp}, (∀ b ∈ fp, H' b = none) → ∀ b ∈ fp, FpOk X pins H' b := fun hn b hb => ⟨hn b hb, (f2 b hb).2⟩
  refine codeAny_forLoop_any (fun n s' => ∃ i σ' H', Inv X pins σ' H' s' ∧ tn i s'.heap ∧ (∀ b ∈ fp, H' b = none) ∧ W i n σ' H') ?_ m0 ⟨0, σ, H2, I2, st2, fun b hb => (f2 b hb).1, w0⟩
  rintro n s3 ⟨i, σ3, H3, I3, st3, fr3, w3⟩
  rcases turn i n σ3 H3 w3 with ⟨stop, qn⟩ | ⟨go, N, hN, step⟩
  · refine wpAny_passesOwn hp (thn (T.done X rfl rfl rfl hc i pins s3 σ3 H3 X.xe I3 (stat fr3) st3 stop) fun r s4 ⟨hr, I4⟩ => ?_)
    subst hr
    exact wpAny_execs_nil ⟨σ3, H3, I4, qn⟩
  · refine wpAny_passesOwn hp (thn (T.item X rfl rfl rfl hc i pins s3 σ3 H3 X.xe I3 (stat fr3) st3 go) fun r s4 ⟨u, hr, h4⟩ => ?_)
    subst hr
    refine wpAny_passesOwn hp (thn h4 fun _ s5 ⟨x, H5, I5, r5, y5, st5, fr5⟩ => ?_)
    have I5' := I5.pinned (stat fr5) (T.obj _ _ st5)
    refine wpAny_passesOwn hp (thn (hg _ s5 σ3 H5 x u _ I5' r5 (step x H5 y5)) fun _ s6 ⟨σ6, H6, I6, q6⟩ => ?_)
    refine wpAny_passesOwn hp (thn (hb _ s6 σ6 H6 _ I6 q6) fun f s7 q7 => ?_)
    have again : ∀ {σ7 : St} {H7 : Hp}, Inv X (pins ++ pinsAt fp s5.heap) σ7 H7 s7 → N σ7 H7 → ∃ m, m < n ∧ ∃ i σ' H', Inv X pins σ' H' s7 ∧ tn i s7.heap ∧ (∀ b ∈ fp, H' b = none) ∧ W i m σ' H' := fun {σ7 H7} I7 n7 => by
      obtain ⟨m', hm, w7⟩ := hN σ7 H7 n7
      refine ⟨m', hm, i + 1, σ7, H7, I7.unpinned, T.keep _ _ _ st5 fun b hb o e => (I7.pin (b, o) (List.mem_append_right _ (List.mem_append_right _ (mem_pinsAt hb e)))).1, fun b hb => ?_, w7⟩
      obtain ⟨o, e, d⟩ := T.obj _ _ st5 b hb
      exact (I7.pin (b, o) (List.mem_append_right _ (List.mem_append_right _ (mem_pinsAt hb e)))).2.1
    cases f with
    | next => obtain ⟨σ7, H7, I7, n7⟩ := q7; exact again I7 n7
    | cont => obtain ⟨σ7, H7, I7, n7⟩ := q7; exact again I7 n7
    | brk => obtain ⟨σ7, H7, I7, q7⟩ := q7; exact ⟨σ7, H7, I7.unpinned, q7⟩
    | ret v => obtain ⟨x7, σ7, H7, I7, r7, q7⟩ := q7; exact ⟨x7, σ7, H7, I7.unpinned, r7, q7⟩
end
theorem for_list {K : PySem.W.Frag} {a : Addr} {xs : List V} {g : TG} {tb : TS} {D : Ends} {σ : St} {H : Hp} (Pv : Nat → St → Hp → Prop) (h0 : Pv 0 σ H) (hl : ∀ i σ H, i ≤ xs.length → Pv i σ H → SqL K H a xs)
    (hs : ∀ i x σ H, xs[i]? = some x → Pv i σ H → g x σ H fun σ2 H2 => tb { D with nx := Pv (i + 1), ct := Pv (i + 1), bk := D.nx } σ2 H2) (hd : ∀ σ H, Pv xs.length σ H → D.nx σ H) :
    ∃ W : Nat → Nat → St → Hp → Prop, (∃ m, W 0 m σ H) ∧ ∀ i m σ H, W i m σ H →
      ((Itl K a).stop i H ∧ D.nx σ H) ∨ ((Itl K a).go i H ∧ ∃ N : St → Hp → Prop, (∀ σ' H', N σ' H' → ∃ m', m' < m ∧ W (i + 1) m' σ' H') ∧ ∀ x H', (Itl K a).yld i H x H' → g x σ H' fun σ2 H2 => tb { D with nx := N, ct := N, bk := D.nx } σ2 H2) := by
  refine ⟨fun i m σ H => m = xs.length - i ∧ i ≤ xs.length ∧ Pv i σ H, ⟨xs.length, by simp, Nat.zero_le _, h0⟩, ?_⟩
  rintro i m σ H ⟨rfl, hi, p⟩
  have q := hl i σ H hi p
  by_cases hlt : i < xs.length
  · refine .inr ⟨⟨xs, xs[i], q, by simp [hlt]⟩, Pv (i + 1), fun σ' H' p' => ⟨xs.length - (i + 1), by (first | lia | omega), rfl, hlt, p'⟩, fun x H' y => ?_⟩
    obtain ⟨e, y⟩ := y
    subst e
    exact hs i x σ _ (y xs q) p
  · have e : i = xs.length := by (first | lia | omega)
    subst e
    exact .inl ⟨⟨xs, q, Nat.le_refl _⟩, hd σ H p⟩
theorem for_range {lo : Int} {n : Nat} {g : TG} {tb : TS} {D : Ends} {σ : St} {H : Hp} (Pv : Nat → St → Hp → Prop) (h0 : Pv 0 σ H)
    (hs : ∀ i σ H, i < n → Pv i σ H → g (.int (lo + i)) σ H fun σ2 H2 => tb { D with nx := Pv (i + 1), ct := Pv (i + 1), bk := D.nx } σ2 H2) (hd : ∀ σ H, Pv n σ H → D.nx σ H) :
    ∃ W : Nat → Nat → St → Hp → Prop, (∃ m, W 0 m σ H) ∧ ∀ i m σ H, W i m σ H →
      ((Itr lo n).stop i H ∧ D.nx σ H) ∨ ((Itr lo n).go i H ∧ ∃ N : St → Hp → Prop, (∀ σ' H', N σ' H' → ∃ m', m' < m ∧ W (i + 1) m' σ' H') ∧ ∀ x H', (Itr lo n).yld i H x H' → g x σ H' fun σ2 H2 => tb { D with nx := N, ct := N, bk := D.nx } σ2 H2) := by
  refine ⟨fun i m σ H => m = n - i ∧ i ≤ n ∧ Pv i σ H, ⟨n, by simp, Nat.zero_le _, h0⟩, ?_⟩
  rintro i m σ H ⟨rfl, hi, p⟩
  by_cases hlt : i < n
  · refine .inr ⟨hlt, Pv (i + 1), fun σ' H' p' => ⟨n - (i + 1), by (first | lia | omega), rfl, hlt, p'⟩, fun x H' y => ?_⟩
    obtain ⟨e, y⟩ := y
    subst e y
    exact hs i σ _ hlt p
  · have e : i = n := by (first | lia | omega)
    subst e
    exact .inl ⟨Nat.le_refl _, hd σ H p⟩
end L2
namespace L2
open PySem PySem.Spec PyProof.Rows
noncomputable abbrev R2 := V → V → Hp → VK → Prop
noncomputable def OpR (X : Cx) (f : Value → Value → Sem Value) (r : R2) : Prop :=
  ∀ (pins : List (Addr × Obj)) (s : Shared) (σ : St) (H : Hp) (x y : V) (v u : Value) (Q : VK), Inv X pins σ H s → RelV x v → RelV y u → r x y H Q →
    wpAny (model X.prog X.w) X.A (f v u) (EP X pins σ Q) X.xe s
noncomputable def UnR (X : Cx) (f : Value → Sem Value) (r : V → Hp → VK → Prop) : Prop :=
  ∀ (pins : List (Addr × Obj)) (s : Shared) (σ : St) (H : Hp) (x : V) (v : Value) (Q : VK), Inv X pins σ H s → RelV x v → r x H Q →
    wpAny (model X.prog X.w) X.A (f v) (EP X pins σ Q) X.xe s
noncomputable def CallR (X : Cx) (f : Value) (r : List V → Hp → VK → Prop) : Prop :=
  ∀ (pins : List (Addr × Obj)) (s : Shared) (σ : St) (H : Hp) (xs : List V) (us : List Value) (Q : VK), Inv X pins σ H s → Vals xs us → r xs H Q →
    wpAny (model X.prog X.w) X.A (call f us) (EP X pins σ Q) X.xe s
noncomputable def tOp (r : R2) (ta tb : TE) : TE := fun σ H Q => ta σ H fun x H1 => tb σ H1 fun y H2 => r x y H2 Q
noncomputable def tUn (r : V → Hp → VK → Prop) (ta : TE) : TE := fun σ H Q => ta σ H fun x H1 => r x H1 Q
noncomputable def rI (C : Int → Int → Prop) (g : Int → Int → V) : R2 := fun x y H Q => ∃ i j, x = .int i ∧ y = .int j ∧ C i j ∧ Q (g i j) H
noncomputable def rI0 (g : Int → Int → V) : R2 := fun x y H Q => ∃ i j, x = .int i ∧ y = .int j ∧ Q (g i j) H
noncomputable def rU (g : Int → V) : V → Hp → VK → Prop := fun x H Q => ∃ i, x = .int i ∧ Q (g i) H
section
variable {X : Cx} {a b c : Expr} {ta tb tc : TE} {pos : Pos}
theorem binT (ha : PE X a ta) (hb : PE X b tb) {pins : List (Addr × Obj)} {s : Shared} {σ : St} {H : Hp} {R : V → V → Hp → Prop} (I : Inv X pins σ H s)
    (h : ta σ H fun x H1 => tb σ H1 fun y H2 => R x y H2) {Q : Value → Shared → Prop} {f : Value → Value → Sem Value}
    (hf : ∀ v u s2 x y H2, Inv X pins σ H2 s2 → RelV x v → RelV y u → R x y H2 → wpAny (model X.prog X.w) X.A (f v u) Q X.xe s2) :
    wpAny (model X.prog X.w) X.A (eval a X.env) (fun v s₁ => wpAny (model X.prog X.w) X.A (eval b X.env) (fun u s₂ => wpAny (model X.prog X.w) X.A (f v u) Q X.xe s₂) X.xe s₁) X.xe s := by
  refine thn (ha pins s σ H _ I h) fun v s1 ⟨x, H1, I1, r1, q1⟩ => ?_
  refine thn (hb pins s1 σ H1 _ I1 q1) fun u s2 ⟨y, H2, I2, r2, q2⟩ => ?_
  exact hf v u s2 x y H2 I2 r1 r2 q2
theorem pe_op {op : Operator} {r : R2} (ho : OpR X (binaryOp op) r) (ha : PE X a ta) (hb : PE X b tb) : PE X (.BinOp a op b pos) (tOp r ta tb) := by
  intro pins s σ H Q I h
  exact wpAny_BinOp (binT ha hb I h fun v u s2 x y H2 I2 rx ry q => ho pins s2 σ H2 x y v u Q I2 rx ry q)
theorem pe_un {op : UnaryOp} {r : V → Hp → VK → Prop} (ho : UnR X (unaryOp op) r) (ha : PE X a ta) : PE X (.UnaryOp op a pos) (tUn r ta) := by
  intro pins s σ H Q I h
  exact UnaryOp_ (thn (ha pins s σ H _ I h) fun v s1 ⟨x, H1, I1, r1, q1⟩ => ho pins s1 σ H1 x v Q I1 r1 q1)
theorem opI {f : Value → Value → Sem Value} {C : Int → Int → Prop} {g : Int → Int → Int}
    (rule : ∀ (i j : Int) (t u : Tok) (s : Shared) (Q : Value → Shared → Prop) (E : Value → Shared → Prop), C i j → Q (.int (g i j) s.toks) { s with toks := s.toks + 1 } → wpAny (model X.prog X.w) X.A (f (.int i t) (.int j u)) Q E s) :
    OpR X f (rI C fun i j => .int (g i j)) := by
  intro pins s σ H x y v u Q I rx ry h
  obtain ⟨i, j, rfl, rfl, hc, q⟩ := h
  obtain ⟨t, rfl⟩ := rx
  obtain ⟨t', rfl⟩ := ry
  exact rule i j t t' s _ _ hc ⟨.int (g i j), H, I.tok _, ⟨_, rfl⟩, q⟩
theorem opI0 {f : Value → Value → Sem Value} {g : Int → Int → Int}
    (rule : ∀ (i j : Int) (t u : Tok) (s : Shared) (Q : Value → Shared → Prop) (E : Value → Shared → Prop), Q (.int (g i j) s.toks) { s with toks := s.toks + 1 } → wpAny (model X.prog X.w) X.A (f (.int i t) (.int j u)) Q E s) :
    OpR X f (rI0 fun i j => .int (g i j)) := by
  intro pins s σ H x y v u Q I rx ry h
  obtain ⟨i, j, rfl, rfl, q⟩ := h
  obtain ⟨t, rfl⟩ := rx
  obtain ⟨t', rfl⟩ := ry
  exact rule i j t t' s _ _ ⟨.int (g i j), H, I.tok _, ⟨_, rfl⟩, q⟩
theorem opB0 {f : Value → Value → Sem Value} {g : Int → Int → Bool}
    (rule : ∀ (i j : Int) (t u : Tok) (s : Shared) (Q : Value → Shared → Prop) (E : Value → Shared → Prop), Q (.bool (g i j)) s → wpAny (model X.prog X.w) X.A (f (.int i t) (.int j u)) Q E s) :
    OpR X f (rI0 fun i j => .bl (g i j)) := by
  intro pins s σ H x y v u Q I rx ry h
  obtain ⟨i, j, rfl, rfl, q⟩ := h
  obtain ⟨t, rfl⟩ := rx
  obtain ⟨t', rfl⟩ := ry
  exact rule i j t t' s _ _ ⟨.bl (g i j), H, I, rfl, q⟩
noncomputable def CDiv (i j : Int) : Prop := 0 < j ∧ j < 1073741824
noncomputable def CMul (i j : Int) : Prop := (-(2 ^ 64) < i ∧ i < 2 ^ 64) ∨ (-(2 ^ 64) < j ∧ j < 2 ^ 64)
theorem CMul.ok {i j : Int} (h : CMul i j) : IntMulOk i j := by
  rcases h with ⟨h1, h2⟩ | ⟨h1, h2⟩
  · exact .of_left (intBits_le_64 h1 h2)
  · exact .of_right (intBits_le_64 h1 h2)
theorem op_add : OpR X (binaryOp .Add) (rI0 fun i j => .int (i + j)) := opI0 fun _ _ _ _ _ _ _ q => add_int q
theorem op_sub : OpR X (binaryOp .Sub) (rI0 fun i j => .int (i - j)) := opI0 fun _ _ _ _ _ _ _ q => sub_int q
theorem op_mul : OpR X (binaryOp .Mult) (rI CMul fun i j => .int (i * j)) := opI fun _ _ _ _ _ _ _ hc q => mul_int q hc.ok
theorem op_fdiv : OpR X (binaryOp .FloorDiv) (rI CDiv fun i j => .int (i / j)) := opI fun i j _ _ _ _ _ hc q => by
  have h1 : (0 : Int) < j := hc.1
  have h2 : j < 1073741824 := hc.2
  exact floordiv_int (by (first | lia | omega)) (by rw [Int.fdiv_eq_ediv_of_nonneg i (by (first | lia | omega))]; exact q) (.inl (PyProof.noPylong_small (by (first | lia | omega))))
theorem op_mod : OpR X (binaryOp .Mod) (rI (fun _ j => 0 < j) fun i j => .int (i % j)) := opI fun i j _ _ _ _ _ hc q => by
  have h1 : (0 : Int) < j := hc
  exact mod_int' (by (first | lia | omega)) (by rw [Int.fmod_eq_emod_of_nonneg i (by (first | lia | omega))]; exact q)
theorem unI {f : Value → Sem Value} {g : Int → Int}
    (rule : ∀ (i : Int) (t : Tok) (s : Shared) (Q : Value → Shared → Prop) (E : Value → Shared → Prop), Q (.int (g i) s.toks) { s with toks := s.toks + 1 } → wpAny (model X.prog X.w) X.A (f (.int i t)) Q E s) :
    UnR X f (rU fun i => .int (g i)) := by
  intro pins s σ H x v Q I rx h
  obtain ⟨i, rfl, q⟩ := h
  obtain ⟨t, rfl⟩ := rx
  exact rule i t s _ _ ⟨.int (g i), H, I.tok _, ⟨_, rfl⟩, q⟩
theorem un_neg : UnR X (unaryOp .USub) (rU fun i => .int (-i)) := unI fun _ _ _ _ _ q => neg_int q
end
noncomputable def scal : V → V → Bool
  | .non, .non => true | .non, .int _ => true | .int _, .non => true | .non, .bl _ => true | .bl _, .non => true | .non, .str _ => true | .str _, .non => true
  | .int _, .int _ => true | .bl _, .bl _ => true | .str _, .str _ => true | .byt _, .byt _ => true
  | .int _, .str _ => true | .str _, .int _ => true | .bl _, .str _ => true | .str _, .bl _ => true
  | _, _ => false
noncomputable def rEq : R2 := fun x y H Q => scal x y = true ∧ Q (.bl (decide (x = y))) H
noncomputable def rNe : R2 := fun x y H Q => scal x y = true ∧ Q (.bl (!decide (x = y))) H
theorem dec_int {i j : Int} : decide (V.int i = V.int j) = (i == j) := by
  rw [Bool.eq_iff_iff]
  simp
theorem dec_bl {i j : Bool} : decide (V.bl i = V.bl j) = (i == j) := by
  rw [Bool.eq_iff_iff]
  simp
theorem dec_str {i j : Str} : decide (V.str i = V.str j) = (i == j) := by
  rw [Bool.eq_iff_iff]
  simp
theorem dec_byt {i j : Array UInt8} : decide (V.byt i = V.byt j) = (i.toList == j.toList) := by
  rw [Bool.eq_iff_iff]
  cases i
  cases j
  simp
section
variable {X : Cx} {a b c : Expr} {ta tb tc : TE} {pos : Pos}
theorem fin_bl {pins : List (Addr × Obj)} {σ : St} {H : Hp} {s : Shared} {Q : VK} {k k' : Bool} (I : Inv X pins σ H s) (q : Q (.bl k) H) (e : k = k') : EP X pins σ Q (.bool k') s := by
  subst e
  exact ⟨.bl k, H, I, rfl, q⟩
theorem op_eq : OpR X (compareOp .Eq) rEq := by
  intro pins s σ H x y v u Q I rx ry h
  obtain ⟨hs, q⟩ := h
  cases x with
  | non =>
    cases rx
    cases y with
    | non => cases ry; exact PySem.EqNone.eq_none_none (fin_bl I q (by simp))
    | bl j => cases ry; exact PySem.EqNone.eq_none_bool (fin_bl I q (by simp))
    | int j => obtain ⟨t', rfl⟩ := ry; exact PySem.EqNone.eq_none_int (fin_bl I q (by simp))
    | str j => obtain ⟨t', rfl⟩ := ry; exact PySem.EqNone.eq_none_str (fin_bl I q (by simp))
    | _ => exact absurd (show false = true from hs) Bool.false_ne_true
  | bl i =>
    cases rx
    cases y with
    | non => cases ry; exact PySem.EqNone.eq_bool_none (fin_bl I q (by simp))
    | bl j => cases ry; exact eq_bool (fin_bl I q dec_bl)
    | str j => obtain ⟨t', rfl⟩ := ry; exact PySem.EqMixed.eq_bool_str (fin_bl I q (by simp))
    | _ => exact absurd (show false = true from hs) Bool.false_ne_true
  | int i =>
    obtain ⟨t, rfl⟩ := rx
    cases y with
    | non => cases ry; exact PySem.EqNone.eq_int_none (fin_bl I q (by simp))
    | int j => obtain ⟨t', rfl⟩ := ry; exact eq_int (fin_bl I q dec_int)
    | str j => obtain ⟨t', rfl⟩ := ry; exact PySem.EqMixed.eq_int_str (fin_bl I q (by simp))
    | _ => exact absurd (show false = true from hs) Bool.false_ne_true
  | str i =>
    obtain ⟨t, rfl⟩ := rx
    cases y with
    | non => cases ry; exact PySem.EqNone.eq_str_none (fin_bl I q (by simp))
    | bl j => cases ry; exact PySem.EqMixed.eq_str_bool (fin_bl I q (by simp))
    | int j => obtain ⟨t', rfl⟩ := ry; exact PySem.EqMixed.eq_str_int (fin_bl I q (by simp))
    | str j => obtain ⟨t', rfl⟩ := ry; exact eq_str (fin_bl I q dec_str)
    | _ => exact absurd (show false = true from hs) Bool.false_ne_true
  | byt i =>
    obtain ⟨t, rfl⟩ := rx
    cases y with
    | byt j => obtain ⟨t', rfl⟩ := ry; exact PySem.W.eq_bytes (fin_bl I q dec_byt)
    | _ => exact absurd (show false = true from hs) Bool.false_ne_true
  | _ => cases y <;> exact absurd (show false = true from hs) Bool.false_ne_true
theorem op_ne : OpR X (compareOp .NotEq) rNe := by
  intro pins s σ H x y v u Q I rx ry h
  obtain ⟨hs, q⟩ := h
  cases x with
  | non =>
    cases rx
    cases y with
    | non => cases ry; exact PySem.EqNone.ne_none_none (fin_bl I q (by simp))
    | bl j => cases ry; exact PySem.EqNone.ne_none_bool (fin_bl I q (by simp))
    | int j => obtain ⟨t', rfl⟩ := ry; exact PySem.EqNone.ne_none_int (fin_bl I q (by simp))
    | str j => obtain ⟨t', rfl⟩ := ry; exact PySem.EqNone.ne_none_str (fin_bl I q (by simp))
    | _ => exact absurd (show false = true from hs) Bool.false_ne_true
  | bl i =>
    cases rx
    cases y with
    | non => cases ry; exact PySem.EqNone.ne_bool_none (fin_bl I q (by simp))
    | bl j => cases ry; exact ne_bool (fin_bl I q (congrArg not dec_bl))
    | str j => obtain ⟨t', rfl⟩ := ry; exact PySem.EqMixed.ne_bool_str (fin_bl I q (by simp))
    | _ => exact absurd (show false = true from hs) Bool.false_ne_true
  | int i =>
    obtain ⟨t, rfl⟩ := rx
    cases y with
    | non => cases ry; exact PySem.EqNone.ne_int_none (fin_bl I q (by simp))
    | int j => obtain ⟨t', rfl⟩ := ry; exact ne_int (fin_bl I q (congrArg not dec_int))
    | str j => obtain ⟨t', rfl⟩ := ry; exact PySem.EqMixed.ne_int_str (fin_bl I q (by simp))
    | _ => exact absurd (show false = true from hs) Bool.false_ne_true
  | str i =>
    obtain ⟨t, rfl⟩ := rx
    cases y with
    | non => cases ry; exact PySem.EqNone.ne_str_none (fin_bl I q (by simp))
    | bl j => cases ry; exact PySem.EqMixed.ne_str_bool (fin_bl I q (by simp))
    | int j => obtain ⟨t', rfl⟩ := ry; exact PySem.EqMixed.ne_str_int (fin_bl I q (by simp))
    | str j => obtain ⟨t', rfl⟩ := ry; exact ne_str (fin_bl I q (congrArg not dec_str))
    | _ => exact absurd (show false = true from hs) Bool.false_ne_true
  | byt i =>
    obtain ⟨t, rfl⟩ := rx
    cases y with
    | byt j => obtain ⟨t', rfl⟩ := ry; exact PySem.W.ne_bytes (fin_bl I q (congrArg not dec_byt))
    | _ => exact absurd (show false = true from hs) Bool.false_ne_true
  | _ => cases y <;> exact absurd (show false = true from hs) Bool.false_ne_true
theorem op_lt : OpR X (compareOp .Lt) (rI0 fun i j => .bl (decide (i < j))) := opB0 fun _ _ _ _ _ _ _ q => lt_int q
theorem op_le : OpR X (compareOp .LtE) (rI0 fun i j => .bl (decide (i ≤ j))) := opB0 fun _ _ _ _ _ _ _ q => le_int q
theorem op_gt : OpR X (compareOp .Gt) (rI0 fun i j => .bl (decide (j < i))) := opB0 fun _ _ _ _ _ _ _ q => gt_int q
theorem op_isN : OpR X (compareOp .Is) (fun x y H Q => y = .non ∧ Q (.bl (decide (x = .non))) H) := by
  intro pins s σ H x y v u Q I rx ry h
  obtain ⟨rfl, q⟩ := h
  cases ry
  refine is_none_gen (fin_bl I q ?_)
  cases x <;> first
    | (cases rx; rfl)
    | (obtain ⟨t, rfl⟩ := rx; rfl)
theorem op_notN : OpR X (compareOp .IsNot) (fun x y H Q => y = .non ∧ Q (.bl (!decide (x = .non))) H) := by
  intro pins s σ H x y v u Q I rx ry h
  obtain ⟨rfl, q⟩ := h
  cases ry
  refine isnot_none_gen (fin_bl I q ?_)
  cases x <;> first
    | (cases rx; rfl)
    | (obtain ⟨t, rfl⟩ := rx; rfl)
theorem nomark (b : Expr) {op : CmpOp} (h : op ≠ .In := by decide) (h2 : op ≠ .NotIn := by decide) : behindInMarks op b = false := by
  have e1 : (op == CmpOp.In) = false := by cases op <;> first | rfl | exact absurd rfl h
  have e2 : (op == CmpOp.NotIn) = false := by cases op <;> first | rfl | exact absurd rfl h2
  cases b <;> simp [behindInMarks, e1, e2]
theorem pe_cmpR {op : CmpOp} {r : R2} (ho : OpR X (compareOp op) r) (ha : PE X a ta) (hb : PE X b tb) (hm : behindInMarks op b = false) : PE X (.Compare a [op] [b] pos) (tOp r ta tb) := by
  intro pins s σ H Q I h
  exact wpAny_Compare1 (binT ha hb I h fun v u s2 x y H2 I2 rx ry q => ho pins s2 σ H2 x y v u Q I2 rx ry q) hm
noncomputable def tTest (t : TE) : TT := fun σ H Q => t σ H fun x H' => ∃ k, x = .bl k ∧ Q k H'
theorem pt_cmpR {op : CmpOp} {r : R2} (ho : OpR X (compareOp op) r) (ha : PE X a ta) (hb : PE X b tb) (hm : behindInMarks op b = false) : PT X (.Compare a [op] [b] pos) (tTest (tOp r ta tb)) := by
  intro pins s σ H Q I h
  refine wpAny_isTrue_Compare1 (thn (ha pins s σ H _ I h) fun v s1 ⟨x, H1, I1, r1, q1⟩ => thn (hb pins s1 σ H1 _ I1 q1) fun u s2 ⟨y, H2, I2, r2, q2⟩ =>
    thn (ho pins s2 σ H2 x y v u _ I2 r1 r2 q2) fun c s3 ⟨z, H3, I3, r3, k, e, q3⟩ => ?_) hm
  subst e
  cases r3
  exact wpAny_truthy_bool ⟨H3, I3, q3⟩
noncomputable def tChain (r r' : R2) (ta tb tc : TE) : TE := fun σ H Q => ta σ H fun x H1 => tb σ H1 fun y H2 => r x y H2 fun z H3 => ∃ k, z = .bl k ∧
  (if k = true then tc σ H3 fun w' H4 => r' y w' H4 Q else Q (.bl false) H3)
theorem pt_chain {op op' : CmpOp} {r r' : R2} (ho : OpR X (compareOp op) r) (ho' : OpR X (compareOp op') r') (ha : PE X a ta) (hb : PE X b tb) (hc : PE X c tc)
    (hm : lastMarks [op, op'] [b, c] = false := by with_unfolding_all rfl) : PT X (.Compare a [op, op'] [b, c] pos) (tTest (tChain r r' ta tb tc)) := by
  intro pins s σ H Q I h
  refine isTrue_chain (thn (ha pins s σ H _ I h) fun v s1 ⟨x, H1, I1, r1, q1⟩ => test_link (thn (hb pins s1 σ H1 _ I1 q1) fun u s2 ⟨y, H2, I2, r2, q2⟩ =>
    thn (ho pins s2 σ H2 x y v u _ I2 r1 r2 q2) fun d s3 ⟨z, H3, I3, r3, k, e, q3⟩ => ?_)) hm
  subst e
  cases r3
  refine wpAny_truthy_bool ?_
  cases k with
  | false =>
    obtain ⟨k', e', q'⟩ := q3
    cases e'
    exact ite_ff ⟨H3, I3, q'⟩
  | true =>
    refine ite_tt (test_last (thn (hc pins s3 σ H3 _ I3 q3) fun w' s4 ⟨z', H4, I4, r4, q4⟩ => thn (ho' pins s4 σ H4 y z' u w' _ I4 r2 r4 q4) fun d' s5 ⟨z2, H5, I5, r5, k2, e2, q5⟩ => ?_))
    subst e2
    cases r5
    exact wpAny_truthy_bool ⟨H5, I5, q5⟩
theorem line63 : (sizeLine : Nat) < 2 ^ 63 := by rw [sizeLine_eq]; decide
theorem vals1 {x : V} {us : List Value} (r : Vals [x] us) : ∃ u, us = [u] ∧ RelV x u := by
  cases r with
  | cons r1 r2 => cases r2; exact ⟨_, rfl, r1⟩
theorem call_int1 : CallR X (.type "int") (fun xs H Q => (∃ i, xs = [.int i] ∧ Q (.int i) H) ∨ ∃ k, xs = [.bl k] ∧ Q (.int (if k then 1 else 0)) H) := by
  intro pins s σ H xs us Q I r h
  rcases h with ⟨i, rfl, q⟩ | ⟨k, rfl, q⟩
  · obtain ⟨u, rfl, t, rfl⟩ := vals1 r
    exact call_int_int ⟨.int i, H, I, ⟨_, rfl⟩, q⟩
  · obtain ⟨u, rfl, r1⟩ := vals1 r
    cases r1
    exact call_int_bool ⟨.int (if k then 1 else 0), H, I.tok _, ⟨_, rfl⟩, q⟩
end
end L2
namespace L2
open PySem PySem.Spec PyProof.Rows
structure ObjM (h : Heap) (x dx C : Addr) (mA : Str → Option Value) : Prop where
  obj : h.get? x = some (PySem.W.instObj C dx)
  ns : h.Ns1 dx mA
  ne : dx ≠ x
section
variable {prog : Program} {w : World} {A : Around} {E : Value → Shared → Prop} {s : Shared} {K : PySem.W.Frag} {x dx C f : Addr} {mA : Str → Option Value} {name : Str} {v : Value}
end
section
variable {P : Program} {w : World} {H H' : Hp} {h h' : Heap} {a C dx : Addr} {fs fs' : List (Str × V)}
end
structure Cls (K : PySem.W.Frag) (C : Addr) : Prop where
  pg : PySem.W.plainGet K C Str.empty = true
  hd : PySem.W.hasDictIn K C = true
  po : PySem.W.plainOver K C = true
  sa : PySem.W.findIn K (.ref C) "__setattr__" = some (some (.builtin "object.__setattr__"))
structure Con (K : PySem.W.Frag) (C : Addr) (f : Str) (v : V) (u : Value) : Prop where
  at_ : PySem.W.findIn K (.ref C) f = some (some u)
  rel : RelV v u
  get : PySem.W.specialIn K u "__get__" = some none
  cp : PySem.W.copiedNames.contains f = false
structure Meth (K : PySem.W.Frag) (C : Addr) (m : Str) (f : Addr) : Prop where
  at_ : PySem.W.findIn K (.ref C) m = some (some (.ref f))
  fn : PySem.W.isFn K (.ref f) = true
  kp : PySem.W.keepIn K (.ref f) = true
section
variable {X : Cx} {pins : List (Addr × Obj)} {σ : St} {H : Hp} {s : Shared} {a C dx : Addr} {fs : List (Str × V)} {f : Str} {v : V} {A : Around} {E : Value → Shared → Prop}
end
section
variable {X : Cx} {o e value : Expr} {f : Str} {pos pos' tpos : Pos} {ta tv : TE}
end
section
variable {X : Cx} {pins : List (Addr × Obj)} {σ : St} {H : Hp} {s : Shared} {A : Around} {E : Value → Shared → Prop} {Q : Value → Shared → Prop} {c : Value} {b : Bool}
inductive TyOf (K : PySem.W.Frag) (H : Hp) : V → Value → Prop where
  | non : TyOf K H .non (.type "NoneType")
  | bl (x : Bool) : TyOf K H (.bl x) (.type "bool")
  | int (i : Int) : TyOf K H (.int i) (.type "int")
  | str (x : Str) : TyOf K H (.str x) (.type "str")
  | flt (x : UInt64) : TyOf K H (.flt x) (.type "float")
  | lst {a : Addr} {xs : List V} (e : H a = some (.lst xs)) : TyOf K H (.ref a) (.type "list")
  | frz {a : Addr} {o : Obj} {xs : List V} (e : H a = some (.frz o (.lst xs))) : TyOf K H (.ref a) (.type "list")
  | tup {a : Addr} {xs : List V} (e : H a = some (.tup xs)) : TyOf K H (.ref a) (.type "tuple")
  | dK {a : Addr} {kvs : List (Key × V)} (e : H a = some (.dK kvs)) : TyOf K H (.ref a) (.type "dict")
  | dT {a : Addr} {kvs : List (List Key × V)} (e : H a = some (.dT kvs)) : TyOf K H (.ref a) (.type "dict")
  | ins {a C dx : Addr} {fs : List (Str × V)} (e : H a = some (.ins C dx fs)) (cl : Cls K C) (ha : PySem.W.findIn K (.ref C) "__class__" = some (some (.builtin "object.__class__")))
      (hn : PySem.W.specialIn K (.builtin "object.__class__") "__get__" = some (some (.builtin "getset_descriptor.__get__"))) (htk : PySem.W.takesIn K (.builtin "object.__class__") = some true)
      (hm : PySem.W.mroIn K C (.type "object") = some true) : TyOf K H (.ref a) (.ref C)
end
end L2
namespace L2
open PySem PySem.Spec PyProof.Rows
structure Room (k : Nat) (A : Around) : Prop where
  hd : A.handled = none
  dp : A.depth + 3 * k + 5 < recursionLimit
  un : A.units + 16 * k + 200 < cLine
theorem Room.mono {j k : Nat} {A : Around} (r : Room k A) (h : j ≤ k) : Room j A := ⟨r.hd, by have := r.dp; (first | lia | omega), by have := r.un; (first | lia | omega)⟩
theorem Room.deeper {k : Nat} {A : Around} (r : Room (k + 1) A) (env : Env) : Room k (A.deeper env) :=
  ⟨r.hd, by have := r.dp; show A.depth + 1 + 3 * k + 5 < _; (first | lia | omega), by have := r.un; show A.units + 3 + 16 * k + 200 < _; (first | lia | omega)⟩
theorem Room.depth {k : Nat} {A : Around} (r : Room k A) : A.depth < recursionLimit := by have := r.dp; (first | lia | omega)
theorem Room.units {k : Nat} {A : Around} (r : Room k A) : A.units + 64 < cLine := by have := r.un; (first | lia | omega)
noncomputable def tNil : TA := fun _ H Q => Q [] H
noncomputable def tCons (ta : TE) (tr : TA) : TA := fun σ H Q => ta σ H fun x H1 => tr σ H1 fun xs H2 => Q (x :: xs) H2
section
variable {X : Cx} {e : Expr} {es : List Expr} {te : TE} {t : TA} {pos : Pos}
theorem pa_nil : PA X [] tNil := fun _ _ _ _ H Q I h => Calls.spliced_nil ⟨[], H, I, .nil, h⟩
theorem pa_cons (ha : PE X e te) (hr : PA X es t) (hs : starEach (e :: es) X.env = (false, eval e X.env) :: starEach es X.env := by rfl) : PA X (e :: es) (tCons te t) := by
  intro pos pins s σ H Q I h
  rw [hs]
  show wpAny _ _ (spliced ((false, eval e X.env) :: backTo pos (starEach es X.env))) _ _ s
  refine Calls.spliced_cons (thn (ha pins s σ H _ I h) fun u s1 ⟨x, H1, I1, r1, q1⟩ => ?_)
  exact thn (hr pos pins s1 σ H1 _ I1 q1) fun us s2 ⟨xs, H2, I2, r2, q2⟩ => ⟨x :: xs, H2, I2, .cons r1 r2, q2⟩
noncomputable def tTup (t : TA) : TE := fun σ H Q => t σ H fun xs H1 => xs.length ≤ sizeLine ∧ ∀ p, H1 p = none → Q (.ref p) (upd H1 p (.tup xs))
noncomputable def tLst (t : TA) : TE := fun σ H Q => t σ H fun xs H1 => xs.length ≤ sizeLine ∧ ∀ p, H1 p = none → Q (.ref p) (upd H1 p (.lst xs))
theorem pe_tup {x1} (h : PA X es t) : PE X (.Tuple es x1 pos) (tTup t) := by
  intro pins s σ H Q I hq
  refine wpAny_Tuple_spliced (thn (h pos pins s σ H _ I hq) fun us s1 ⟨xs, H1, I1, r, z, q⟩ => ⟨by rw [← r.length]; exact z, ?_⟩)
  have hf : H1 s1.heap.objs.size = none := I1.hok.fresh (Nat.le_refl _)
  refine ⟨.ref s1.heap.objs.size, upd H1 s1.heap.objs.size (.tup xs), I1.laid (t' := s1.toks) (fun b u e => Heap.get?_push_of_some _ e) (Nat.le_refl _) ?_, rfl, q _ hf⟩
  exact ⟨z, us, r, ⟨_, Heap.get?_push_size _ rfl, rfl, rfl, _, rfl⟩⟩
theorem pe_lst (h : PA X es t) : PE X (.List es pos) (tLst t) := by
  intro pins s σ H Q I hq
  refine wpAny_List_spliced (thn (h pos pins s σ H _ I hq) fun us s1 ⟨xs, H1, I1, r, z, q⟩ => ⟨by rw [← r.length]; exact z, ?_⟩)
  have hf : H1 s1.heap.objs.size = none := I1.hok.fresh (Nat.le_refl _)
  refine ⟨.ref s1.heap.objs.size, upd H1 s1.heap.objs.size (.lst xs), I1.laid (t' := s1.toks) (fun b u e => Heap.get?_push_of_some _ e) (Nat.le_refl _) ?_, rfl, q _ hf⟩
  exact ⟨z, us, 0, r, Heap.get?_push_size _ rfl⟩
end
noncomputable abbrev Sp := List V → Hp → VK → XK → Prop
noncomputable abbrev CXT := List Env → Hp → Shared → XK → Value → Shared → Prop
structure Env0 (P : Program) (w : World) (K : PySem.W.Frag) (mg : Str → Option Value) (base : Heap) (A : Around) (outer : List Env) (s : Shared) (H : Hp) : Prop where
  frames : A.frames = some outer
  mod : Mod K mg base
  bs : ∀ b o, base.get? b = some o → s.heap.get? b = some o ∧ H b = none
  bsz : base.objs.size ≤ s.heap.objs.size
  funs : s.heap.FunFrames base outer
  frf : ∀ b ∈ frs outer, H b = none
  hok : HOk P w H s.heap
  bare : AllBare s.gens
noncomputable def CE (outer : List Env) (P : Program) (w : World) (H : Hp) (s : Shared) (Q : VK) (u : Value) (s' : Shared) : Prop :=
  ∃ v H', s'.os = s.os ∧ AllBare s'.gens ∧ Un (frs outer) [] H H' s.heap s'.heap ∧ HOk P w H' s'.heap ∧ RelV v u ∧ Q v H'
noncomputable def CR (CX : CXT) (outer : List Env) (P : Program) (w : World) (H : Hp) (s : Shared) (Q : VK) (E : XK) (r : Result) (s' : Shared) : Prop :=
  match r with
  | .ok (.ret u) => CE outer P w H s Q u s'
  | .ok _ => False
  | .error e => CX outer H s E e s'
structure FnOk (P : Program) (w : World) (K : PySem.W.Frag) (mg : Str → Option Value) (base : Heap) (CX : CXT) (k : Nat) (f : Addr) (fd : FuncData) (ps : List Str) (sp : Sp) : Prop where
  len : ∀ vs H Q E, sp vs H Q E → vs.length = ps.length
  run : ∀ (A : Around) (outer : List Env) (s : Shared) (H : Hp) (args : Args) (us : List Value) (vs : List V) (Q : VK) (E : XK), Room k A → Env0 P w K mg base A outer s H → BindsTo s fd args (ps.zip us) → Vals vs us → sp vs H Q E →
    codeAny (model P w) A (.call (.ref f) args) (CR CX outer P w H s Q E) s
theorem FnOk.mono {P : Program} {w : World} {K : PySem.W.Frag} {mg : Str → Option Value} {base : Heap} {CX : CXT} {j k : Nat} {f : Addr} {fd : FuncData} {ps : List Str} {sp : Sp} (F : FnOk P w K mg base CX j f fd ps sp) (h : j ≤ k) :
    FnOk P w K mg base CX k f fd ps sp := ⟨F.len, fun A outer s H args us vs Q E hr => F.run A outer s H args us vs Q E (hr.mono h)⟩
theorem FnOk.imp {P : Program} {w : World} {K : PySem.W.Frag} {mg : Str → Option Value} {base : Heap} {CX : CXT} {k : Nat} {f : Addr} {fd : FuncData} {ps : List Str} {sp sp' : Sp} (F : FnOk P w K mg base CX k f fd ps sp)
    (h : ∀ vs H Q E, sp' vs H Q E → sp vs H Q E) : FnOk P w K mg base CX k f fd ps sp' :=
  ⟨fun vs H Q E q => F.len vs H Q E (h _ _ _ _ q), fun A outer s H args us vs Q E hr he hb hv hs => F.run A outer s H args us vs Q E hr he hb hv (h _ _ _ _ hs)⟩
section
variable {X : Cx} {pins : List (Addr × Obj)} {σ : St} {H : Hp} {s s' : Shared}
theorem Inv.env0 (I : Inv X pins σ H s) : Env0 X.prog X.w X.K X.mg X.base X.A X.stack s H :=
  ⟨I.ok.frames, I.ok.mod, I.bs, Nat.le_trans I.ok.bsz I.sz, I.stack, I.stkFree, I.hok, I.bare⟩
theorem Inv.after {Q : VK} {u : Value} (I : Inv X pins σ H s) (h : CE X.stack X.prog X.w H s Q u s') : EP X pins σ Q u s' := by
  obtain ⟨v, H', os, bare, un, hok, r, q⟩ := h
  obtain ⟨hh, g, d, t, os'⟩ := s'
  obtain rfl : os' = s.os := os
  exact ⟨v, H', I.call (h' := hh) (g' := g) (d' := d) (t' := t) (ch := []) un hok bare (fun b z => absurd z (by simp)), r, q⟩
end
noncomputable def tCall (sp : Sp) (dvs : List V) (E : XK) (t : TA) : TE := fun σ H Q => t σ H fun vs H1 => sp (vs ++ dvs) H1 Q E
noncomputable def Binds (K : PySem.W.Frag) (fd : FuncData) (ps : List Str) (ds : List Value) : Prop :=
  ∀ (s : Shared) (us : List Value), K.In s.heap → (us ++ ds).length = ps.length → BindsTo s fd ⟨us, []⟩ (ps.zip (us ++ ds))
theorem Binds.all {K : PySem.W.Frag} {fd : FuncData} {ps : List Str} (h : ∀ us : List Value, us.length = ps.length → bindArgs fd ⟨us, []⟩ = pure (ps.zip us)) : Binds K fd ps [] := fun s us _ hl => by
  rw [List.append_nil] at hl ⊢
  exact .of_eq (h us hl)
noncomputable def Passes (CX : CXT) (X : Cx) (E : XK) : Prop := ∀ (pins : List (Addr × Obj)) (σ : St) (H : Hp) (s : Shared) (e : Value) (s' : Shared), Inv X pins σ H s → CX X.stack H s E e s' → X.xe e s'
section
variable {X : Cx} {CX : CXT} {k : Nat} {f C : Addr} {fd : FuncData} {ps : List Str} {sp : Sp} {dvs : List V} {ds : List Value} {E : XK} {x m : Str} {p pos apos : Pos} {e o : Expr} {es : List Expr} {ta : TE} {t : TA}
theorem run_fn {pins : List (Addr × Obj)} {σ : St} {H : Hp} {s : Shared} {Q : VK} {us : List Value} {vs : List V} (F : FnOk X.prog X.w X.K X.mg X.base CX k f fd ps sp) (hr : Room k X.A) (hb : Binds X.K fd ps ds) (hd : Vals dvs ds) (hx : Passes CX X E)
    (I : Inv X pins σ H s) (r : Vals vs us) (h : sp (vs ++ dvs) H Q E) : wpAny (model X.prog X.w) X.A (call (.ref f) us) (EP X pins σ Q) X.xe s := by
  have r2 : Vals (vs ++ dvs) (us ++ ds) := r.append hd
  have hl : (us ++ ds).length = ps.length := by rw [← r2.length]; exact F.len _ _ _ _ h
  refine wpAny_call (codeAny_mono (F.run X.A X.stack s H ⟨us, []⟩ (us ++ ds) (vs ++ dvs) Q E hr I.env0 (hb s us I.kIn hl) r2 h) fun r s' hq => ?_)
  cases r with
  | error e => exact hx pins σ H s e s' I hq
  | ok fl =>
    cases fl with
    | ret u => exact I.after hq
    | next => exact False.elim hq
    | brk => exact False.elim hq
    | cont => exact False.elim hq
theorem pe_call (F : FnOk X.prog X.w X.K X.mg X.base CX k f fd ps sp) (hr : Room k X.A) (hg : Gl X x) (hm : X.mg x = some (.ref f)) (hk : PySem.W.keepIn X.K (.ref f) = true) (hb : Binds X.K fd ps ds) (hd : Vals dvs ds) (hx : Passes CX X E)
    (ha : PA X (e :: es) t) (hdb : (x == ("__debug__" : Str)) = false := by decide) (he : starEach (e :: es) X.env = (false, eval e X.env) :: starEach es X.env := by rfl) (hpl : (backTo pos (starEach es X.env)).any (·.1) = false := by rfl) :
    PE X (.Call (.Name x p) (e :: es) [] pos) (tCall sp dvs E t) := by
  intro pins s σ H Q I h
  refine wpAny_Call_Name_kw (ld_glob I hg hm ?_ hdb)
  refine PySem.W.callWith_K (h₀ := X.base) I.ok.mod.kin hk (thn (ha pos pins s σ H _ I h) fun us s1 ⟨vs, H1, I1, r, q⟩ => ⟨I1.kIn, ?_⟩) he hpl
  exact run_fn F hr hb hd hx I1 r q
structure Mk (K : PySem.W.Frag) (C f : Addr) : Prop where
  makes : PySem.W.makesIn K C = true
  init : PySem.W.findIn K (.ref C) "__init__" = some (some (.ref f))
  fn : PySem.W.isFn K (.ref f) = true
  kp : PySem.W.keepIn K (.ref C) = true
end
section
variable {X : Cx} {CX : CXT} {k : Nat} {f C : Addr} {fd : FuncData} {ps ks : List Str} {sp : Sp} {E : XK} {x m : Str} {p pos apos kpos : Pos} {e o : Expr} {es : List Expr} {kws : List Keyword} {te ta : TE} {t tk : TA} {nm : Option Str}
structure KBinds (K : PySem.W.Frag) (fd : FuncData) (ps ks : List Str) (g : List Value → List Value → List Value) (gV : List V → List V → List V) : Prop where
  to : ∀ (s : Shared) (us ws : List Value), K.In s.heap → (g us ws).length = ps.length → BindsTo s fd ⟨us, ks.zip ws⟩ (ps.zip (g us ws))
  rel : ∀ {vs : List V} {us : List Value} {zs : List V} {ws : List Value}, Vals vs us → Vals zs ws → Vals (gV vs zs) (g us ws)
variable {g : List Value → List Value → List Value} {gV : List V → List V → List V}
end
structure FnScope (N P : List Str) (sc : Scope) : Prop where
  kind : sc.kind = .function
  co : sc.isCoroutine = false
  gen : sc.isGenerator = false
  nd : N.Nodup
  pre : N.take P.length = P
  par : ∀ x ∈ P, sc.names.lookup x = some .local ∨ sc.names.lookup x = some .cell
  nofree : ∀ y ∈ sc.names, y.2 ≠ .free
theorem bindL_out {kindOf : Str → Option NameKind} {x : Str} : ∀ {binds : List (Str × Value)} {m : Str → Option Value}, (∀ v, (x, v) ∉ binds) → bindL kindOf binds m x = m x
  | [], _, _ => rfl
  | (n, v) :: r, m, h => by
    unfold bindL
    rw [bindL_out fun w hw => h w (List.mem_cons_of_mem _ hw)]
    split
    · have : x ≠ n := by rintro rfl; exact h v List.mem_cons_self
      simp [this]
    · rfl
theorem bindC_out {kindOf : Str → Option NameKind} {x : Str} : ∀ {binds : List (Str × Value)} {m : Str → Option Value}, (∀ v, (x, v) ∉ binds) → bindC kindOf binds m x = m x
  | [], _, _ => rfl
  | (n, v) :: r, m, h => by
    unfold bindC
    rw [bindC_out fun w hw => h w (List.mem_cons_of_mem _ hw)]
    split
    · rfl
    · have : x ≠ n := by rintro rfl; exact h v List.mem_cons_self
      simp [this]
theorem bindL_get {kindOf : Str → Option NameKind} {x : Str} {v : Value} : ∀ {P : List Str} {vs : List Value} {i : Nat} {m : Str → Option Value}, P.Nodup → P[i]? = some x → vs[i]? = some v → kindOf x = some .local →
    bindL kindOf (P.zip vs) m x = some v
  | [], _, _, _, _, h, _, _ => by simp at h
  | _ :: _, [], _, _, _, _, h, _ => by simp at h
  | p :: P, w :: vs, 0, m, nd, h1, h2, hk => by
    simp at h1 h2; subst h1; subst h2
    show bindL kindOf ((p, w) :: P.zip vs) m p = _
    unfold bindL
    rw [bindL_out fun v hv => (List.nodup_cons.mp nd).1 (List.of_mem_zip hv).1, if_pos hk]
    simp
  | p :: P, w :: vs, i + 1, m, nd, h1, h2, hk => by
    show bindL kindOf ((p, w) :: P.zip vs) m x = _
    unfold bindL
    exact bindL_get (i := i) (List.nodup_cons.mp nd).2 (by simpa using h1) (by simpa using h2) hk
theorem bindC_get {kindOf : Str → Option NameKind} {x : Str} {v : Value} : ∀ {P : List Str} {vs : List Value} {i : Nat} {m : Str → Option Value}, P.Nodup → P[i]? = some x → vs[i]? = some v → kindOf x ≠ some .local →
    bindC kindOf (P.zip vs) m x = some v
  | [], _, _, _, _, h, _, _ => by simp at h
  | _ :: _, [], _, _, _, _, h, _ => by simp at h
  | p :: P, w :: vs, 0, m, nd, h1, h2, hk => by
    simp at h1 h2; subst h1; subst h2
    show bindC kindOf ((p, w) :: P.zip vs) m p = _
    unfold bindC
    rw [bindC_out fun v hv => (List.nodup_cons.mp nd).1 (List.of_mem_zip hv).1, if_neg hk]
    simp
  | p :: P, w :: vs, i + 1, m, nd, h1, h2, hk => by
    show bindC kindOf ((p, w) :: P.zip vs) m x = _
    unfold bindC
    exact bindC_get (i := i) (List.nodup_cons.mp nd).2 (by simpa using h1) (by simpa using h2) hk
noncomputable def start (N : List Str) (vs : List V) : St := vs.map some ++ List.replicate (N.length - vs.length) none
noncomputable def cxOf (CX : CXT) (P : Program) (w : World) (K : PySem.W.Frag) (mg : Str → Option Value) (base : Heap) (N : List Str) (qual : Str) (scope : Scope) (f : Addr) (cd : Value) (A : Around) (outer : List Env) (s : Shared) (H : Hp) (E : XK) : Cx where
  prog := P
  w := w
  K := K
  mg := mg
  base := base
  A := A.deeper (envOfC qual scope s.heap.objs.size f cd)
  N := N
  s₀ := s
  H₀ := H
  env := envOfC qual scope s.heap.objs.size f cd
  outer := outer
  stack := envOfC qual scope s.heap.objs.size f cd :: outer
  ex := []
  calm := true
  fn := fun _ => true
  pn := []
  xe := fun e s' => wpAny (model P w) (A.deeper (envOfC qual scope s.heap.objs.size f cd)) (leaving (envOfC qual scope s.heap.objs.size f cd) e) (fun _ s'' => CX outer H s E e s'') (fun e' s'' => CX outer H s E e' s'') s'
theorem cell_has {sc : Scope} {n : Nat} {x : Str} (h : sc.names.lookup x = some .cell) : ∃ c, (cellsFrom n sc.names []).lookup x = some c := by
  have q := PySem.W.cellsFrom_some sc.names n [] (.inl h)
  exact Option.isSome_iff_exists.mp q
theorem inv_start {CX : CXT} {P : Program} {w : World} {K : PySem.W.Frag} {mg : Str → Option Value} {base : Heap} {N ps : List Str} {qual : Str} {scope : Scope} {f : Addr} {cd : Value} {A : Around} {outer : List Env} {s s1 : Shared} {H : Hp} {E : XK} {us : List Value} {vs : List V}
    (S : FnScope N ps scope) (hd : A.handled = none) (e0 : Env0 P w K mg base A outer s H) (hl : vs.length = ps.length) (r : Vals vs us)
    (x : InCallC s s.heap.objs.size (bindL (envOfC qual scope s.heap.objs.size f cd).kindOf (ps.zip us) fun _ => none) (cellsFrom (s.heap.objs.size + 1) scope.names []) (bindC (envOfC qual scope s.heap.objs.size f cd).kindOf (ps.zip us) fun _ => none) s1) :
    Inv (cxOf CX P w K mg base N qual scope f cd A outer s H E) [] (start N vs) H s1 := by
  have hpl : ps.length ≤ N.length := by have := congrArg List.length S.pre; rw [List.length_take] at this; (first | lia | omega)
  obtain ⟨h1, tk, rfl, hk⟩ := x.done
  have noA : ∀ b : Addr, b ∉ (cxOf CX P w K mg base N qual scope f cd A outer s H E).ex := fun b z => absurd (show b ∈ ([] : List Addr) from z) (by simp)
  refine ⟨⟨e0.mod, S.kind, rfl, rfl, Nat.le_refl _, fun y z c h1 h2 => ?_, fun y hy => ?_, fun y c _ h => ?_, fun _ => hd, Around.frames_deeper e0.frames, .inr ⟨rfl, rfl⟩, fun b z => absurd z (noA b), e0.bs, e0.bsz, fun b _ _ => noA b, fun b z => absurd z (noA b), e0.funs, e0.frf⟩,
    rfl, e0.bare, Un.kept hk, ⟨_, x.toInCall.ns, fun i y v h1 h2 h3 => ?_⟩, fun y c h => ⟨_, x.cell y c h⟩, e0.hok.fresh (Nat.le_refl _), fun y c h => ?_, fun p hp => absurd (show p ∈ ([] : List (Addr × Obj)) from hp) (by simp), e0.hok.kept hk, ?_⟩
  · exact name_of_addr x.apart (PySem.mem_of_lookup h1) (PySem.mem_of_lookup h2)
  · have hy : scope.names.lookup y = some .cell ∨ scope.names.lookup y = some .free := hy
    rcases hy with hy | hy
    · exact cell_has hy
    · exact absurd rfl (S.nofree _ (PySem.mem_of_lookup hy))
  · exact Nat.le_of_lt (x.above y c (PySem.mem_of_lookup h))
  · have hi : i < vs.length := by
      unfold start at h2
      by_cases hi : i < vs.length
      · exact hi
      · rw [List.getElem?_append_right (by simpa using hi)] at h2
        rw [List.getElem?_replicate] at h2
        split at h2 <;> cases h2
    have ha : vs[i]? = some v := by
      unfold start at h2
      rw [List.getElem?_append_left (by simpa using hi), List.getElem?_map] at h2
      cases e : vs[i]? with
      | none => rw [e] at h2; cases h2
      | some a => rw [e] at h2; cases h2; rfl
    obtain ⟨u, hu, rv⟩ := r.get ha
    have hp : ps[i]? = some y := by
      rw [← S.pre, List.getElem?_take_of_lt (by (first | lia | omega))]; exact h1
    have ndP : ps.Nodup := by rw [← S.pre]; exact S.nd.sublist (List.take_sublist _ _)
    refine ⟨u, rv, ?_⟩
    rcases S.par y (List.mem_of_getElem? hp) with k | k
    · exact .inl ⟨k, bindL_get ndP hp hu k⟩
    · obtain ⟨c, e⟩ := cell_has (n := s.heap.objs.size + 1) k
      refine .inr ⟨.inl k, c, e, ?_⟩
      have q := x.cell y c e
      rw [bindC_get ndP hp hu (by show scope.names.lookup y ≠ _; rw [k]; decide)] at q
      exact q
  · exact e0.hok.fresh (Nat.le_of_lt (x.above y c (PySem.mem_of_lookup h)))
  · unfold start
    show _ = N.length
    rw [List.length_append, List.length_map, List.length_replicate]
    (first | lia | omega)
theorem fn_of {CX : CXT} {P : Program} {w : World} {K : PySem.W.Frag} {mg : Str → Option Value} {base : Heap} {k : Nat} {f : Addr} {name qual : Str} {params : Arguments} {body : List Stmt} {scope : Scope} {dV kV doc pm cdv ct oc : Value} {an od : Option Addr}
    {osl : Array (Option Value)} {N ps : List Str} {sp : Sp} (lk : K.lookup f = some ⟨oc, od, .func (PySem.W.fnOf name qual params body scope dV kV doc pm an cdv ct), osl⟩) (hcd : PySem.W.codeIn K cdv qual = true) (S : FnScope N ps scope)
    (len : ∀ vs H Q E, sp vs H Q E → vs.length = ps.length)
    (hbody : ∀ (A : Around) (outer : List Env) (s : Shared) (H : Hp) (vs : List V) (Q : VK) (E : XK), Room k (A.deeper (envOfC qual scope s.heap.objs.size f cdv)) → sp vs H Q E →
      ∃ t, PSs (cxOf CX P w K mg base N qual scope f cdv A outer s H E) body t ∧ t { nx := fun _ H' => Q .non H', rt := Q } (start N vs) H) :
    FnOk P w K mg base CX (k + 1) f (PySem.W.fnOf name qual params body scope dV kV doc pm an cdv ct) ps sp := by
  refine ⟨len, fun A outer s H args us vs Q E hr e0 hb r hsp => ?_⟩
  have hl := len _ _ _ _ hsp
  have KX : K.In s.heap := e0.mod.kin.keeps fun b o e => (e0.bs b o e).1
  have lim : s.heap.NoLimit := e0.mod.nolimit.keeps fun b o e => (e0.bs b o e).1
  have hkind : ∀ y ∈ ps.zip us, scope.names.lookup y.1 = some .local ∨ (scope.names.lookup y.1 = some .cell ∧ ((cellsFrom (s.heap.objs.size + 1) scope.names []).lookup y.1).isSome = true) := fun ⟨n, v⟩ hy => by
    rcases S.par n (List.of_mem_zip hy).1 with q | q
    · exact .inl q
    · exact .inr ⟨q, PySem.W.cellsFrom_some _ _ _ (.inl q)⟩
  refine codeAny_call_function hr.depth (KX _ _ lk) rfl S.co S.gen rfl (PySem.W.codeRec_of KX hcd) (hb _ _ _ _ ?_)
  refine wpAny_newFunctionEnv_cells S.kind hkind fun env he s1 x => ?_
  subst he
  refine ⟨lim.keeps x.toInCall.keep, codeAny_func ?_⟩
  obtain ⟨t, ht, hq⟩ := hbody A outer s H vs Q E (hr.deeper _) hsp
  have I : Inv (cxOf CX P w K mg base N qual scope f cdv A outer s H E) [] (start N vs) H s1 := inv_start S hr.hd e0 hl r x
  refine wpAny_mono (ht [] s1 (start N vs) H _ I hq) (fun fl s' hs => ?_) fun e s' hs => hs
  have fin : ∀ {σ' : St} {H' : Hp} {v : V} {u : Value}, Inv (cxOf CX P w K mg base N qual scope f cdv A outer s H E) [] σ' H' s' → RelV v u → Q v H' → CE outer P w H s Q u s' :=
    fun {σ' H' v u} J rv q => ⟨v, H', J.os, J.bare, J.base, J.hok, rv, q⟩
  cases fl with
  | ret u =>
    obtain ⟨v, σ', H', J, rv, q⟩ := hs
    exact fin J rv q
  | next =>
    obtain ⟨σ', H', J, q⟩ := hs
    exact fin (v := V.non) (u := Value.none) J rfl q
  | brk =>
    obtain ⟨_, _, _, q⟩ := hs
    exact False.elim q
  | cont =>
    obtain ⟨_, _, _, q⟩ := hs
    exact False.elim q
end L2
namespace L2
open PySem PySem.Spec PyProof.Rows
section
variable {X : Cx} {x : Str} {p pos : Pos} {e : Expr} {es : List Expr} {t : TA} {id T : String} {r : List V → Hp → VK → Prop}
noncomputable def tCB (r : List V → Hp → VK → Prop) (t : TA) : TE := fun σ H Q => t σ H fun vs H1 => r vs H1 Q
theorem pe_callB (hc : CallR X (.builtin id) r) (hg : Gl X x) (hm : X.mg x = none) (hv : bootBuiltins x = some (.builtin id)) (ha : PA X (e :: es) t) (hn : x ≠ "__name__" := by decide) (hdb : (x == ("__debug__" : Str)) = false := by decide)
    (he : starEach (e :: es) X.env = (false, eval e X.env) :: starEach es X.env := by rfl) (hpl : (backTo pos (starEach es X.env)).any (·.1) = false := by rfl) : PE X (.Call (.Name x p) (e :: es) [] pos) (tCB r t) := by
  intro pins s σ H Q I h
  refine wpAny_Call_Name_kw (ld_blt I hg hm hv ?_ hn hdb)
  exact PyProof.Rows.callWith_builtin1 (thn (ha pos pins s σ H _ I h) fun us s1 ⟨vs, H1, I1, r1, q1⟩ => hc pins s1 σ H1 vs us Q I1 r1 q1) he hpl
theorem pe_callTy (hc : CallR X (.type T) r) (hg : Gl X x) (hm : X.mg x = none) (hv : bootBuiltins x = some (.type T)) (ha : PA X (e :: es) t) (hn : x ≠ "__name__" := by decide) (hdb : (x == ("__debug__" : Str)) = false := by decide)
    (he : starEach (e :: es) X.env = (false, eval e X.env) :: starEach es X.env := by rfl) (hpl : (backTo pos (starEach es X.env)).any (·.1) = false := by rfl) : PE X (.Call (.Name x p) (e :: es) [] pos) (tCB r t) := by
  intro pins s σ H Q I h
  refine wpAny_Call_Name_kw (ld_blt I hg hm hv ?_ hn hdb)
  exact PyProof.Rows.callWith_type1 (thn (ha pos pins s σ H _ I h) fun us s1 ⟨vs, H1, I1, r1, q1⟩ => hc pins s1 σ H1 vs us Q I1 r1 q1) he hpl
end
end L2
namespace HT
open PySem PyProof.Rows
section
open PySem.SeqAt
open PySem.AutoSeq1 (wpAny_loadPart')
open PySem.MeetsSeq PySem.MeetsSeq2 PySem.MeetsSeq3
end
section
variable {prog : Program} {w : World} {A : Around} {E : Value → Shared → Prop} {s : Shared}
theorem cat_tup {t b : Addr} {vs ws : List Value} {Q : Value → Shared → Prop} (ht : IsTup s.heap t vs.toArray) (hb : IsTup s.heap b ws.toArray) (hv : vs ≠ [])
    (h1 : ws = [] → Q (.ref t) s) (h2 : ws ≠ [] → Q (.ref s.heap.objs.size) { s with heap := s.heap.push { cls := .type "tuple", data := .seq (vs ++ ws).toArray } })
    (hsz : vs.length + ws.length ≤ sizeLine) : wpAny (model prog w) A (binaryOp .Add (.ref t) (.ref b)) Q E s := by
  obtain ⟨⟨cls, dd, data, sl⟩, ho, hc, n, hd⟩ := id ht
  obtain ⟨⟨cls2, dd2, data2, sl2⟩, ho2, hc2, n2, hd2⟩ := id hb
  simp only at hc hd hc2 hd2
  subst hc hd hc2 hd2
  have e : vs.toArray ++ ws.toArray = (vs ++ ws).toArray := by simp
  by_cases hw : ws = []
  · exact concat_meets ⟨_, ho, rfl⟩ ⟨_, ho2, rfl⟩ noFill_tuple_add seq_tuple_add PySem.F.slot_tuple_add PySem.F.entry_tuple_add (PySem.F.args_tuple_add_2 _ _)
      (tuple_addW1 t b vs.toArray ws.toArray n n2 dd dd2 sl sl2 (by simpa using hv) (by simp [hw])) ⟨ho, ho2, h1 hw⟩
  · refine concat_meets ⟨_, ho, rfl⟩ ⟨_, ho2, rfl⟩ noFill_tuple_add seq_tuple_add PySem.F.slot_tuple_add PySem.F.entry_tuple_add (PySem.F.args_tuple_add_2 _ _)
      (tuple_addW2 t b vs.toArray ws.toArray n n2 dd dd2 sl sl2 (by simpa using hv) (by simpa using hw) (by rw [List.size_toArray, List.size_toArray]; exact hsz)) ⟨ho, ho2, ?_⟩
    rw [e]
    exact h2 hw
noncomputable def sIx (n d : Nat) : Option Int → Nat
  | none => d
  | some v => if v < 0 then (v + (n : Int)).toNat else min v.toNat n
end
end HT
namespace L2
open PySem PySem.Spec PyProof.Rows
noncomputable abbrev TO := St → Hp → (Option Int → Hp → Prop) → Prop
noncomputable def PO (X : Cx) (e : Option Expr) (t : TO) : Prop :=
  ∀ (pins : List (Addr × Obj)) (s : Shared) (σ : St) (H : Hp) (Q : Option Int → Hp → Prop), Inv X pins σ H s → t σ H Q →
    wpAny (model X.prog X.w) X.A (evalPart e X.env) (fun u s' => ∃ o H', Inv X pins σ H' s' ∧ IsPart u o ∧ Q o H') X.xe s
noncomputable def tNoPart : TO := fun _ H Q => Q none H
noncomputable def tPart (t : TE) : TO := fun σ H Q => t σ H fun x H1 => ∃ i, x = .int i ∧ Q (some i) H1
theorem intsAre_of {ns : List Int} : ∀ {us : List Value}, Vals (ns.map V.int) us → IntsAre us ns := by
  induction ns with
  | nil => intro us r; rw [List.map_nil] at r; cases r; exact .nil
  | cons n ns ih =>
    intro us r
    rw [List.map_cons] at r
    cases r with
    | cons r1 r2 =>
      obtain ⟨t, e⟩ := r1
      subst e
      exact .cons n t (ih r2)
section
variable {X : Cx} {e : Expr} {te : TE} {lo hi : Option Expr} {tl th : TO} {pos p2 : Pos}
theorem po_none : PO X none tNoPart := by
  intro pins s σ H Q I h
  rw [evalPart_none]
  exact wpAny_pure ⟨none, H, I, .none, h⟩
theorem po_some (h : PE X e te) : PO X (some e) (tPart te) := by
  intro pins s σ H Q I hw
  rw [evalPart_some]
  refine thn (h pins s σ H _ I hw) fun u s1 ⟨x, H1, I1, r1, q1⟩ => ?_
  obtain ⟨i, rfl, q⟩ := q1
  obtain ⟨t, rfl⟩ := r1
  exact ⟨some i, H1, I1, .int i t, q⟩
noncomputable def SlR (X : Cx) (r : V → Option Int → Option Int → Hp → VK → Prop) : Prop :=
  ∀ (pins : List (Addr × Obj)) (s : Shared) (σ : St) (H : Hp) (x : V) (v vl vu : Value) (lo hi : Option Int) (sl : Addr) (Q : VK), Inv X pins σ H s → RelV x v → s.heap.IsSliceOf sl vl vu .none → IsPart vl lo → IsPart vu hi → r x lo hi H Q →
    ∃ T id, typeLookup (.type T) "__getitem__" = pure (some (.builtin id)) ∧ s.TypeIs v T ∧ wpAny (model X.prog X.w) X.A (getItem v (.ref sl)) (EP X pins σ Q) X.xe s
noncomputable def tSl (r : V → Option Int → Option Int → Hp → VK → Prop) (te : TE) (tl th : TO) : TE := fun σ H Q => te σ H fun x H1 => tl σ H1 fun l H2 => th σ H2 fun u H3 => r x l u H3 Q
theorem pe_slice {r : V → Option Int → Option Int → Hp → VK → Prop} (hr : SlR X r) (he : PE X e te) (hl : PO X lo tl) (hu : PO X hi th) : PE X (.Subscript e (.Slice lo hi none p2) pos) (tSl r te tl th) := by
  intro pins s σ H Q I h
  refine Subscript_ (thn (he pins s σ H _ I h) fun v s1 ⟨x, H1, I1, r1, q1⟩ => ?_)
  refine wpAny_Slice (thn (hl pins s1 σ H1 _ I1 q1) fun vl s2 ⟨l, H2, I2, pl, q2⟩ => thn (hu pins s2 σ H2 _ I2 q2) fun vu s3 ⟨u, H3, I3, pu, q3⟩ => ?_)
  rw [evalPart_none]
  refine wpAny_pure ?_
  have I4 : Inv X pins σ H3 { s3 with heap := s3.heap.push { cls := .type "slice", data := .fields #[vl, vu, .none] } } := I3.kept (t' := s3.toks) fun b ob q => Heap.get?_push_of_some _ q
  obtain ⟨T, id, hT, ht, hg⟩ := hr pins { s3 with heap := s3.heap.push { cls := .type "slice", data := .fields #[vl, vu, .none] } } σ H3 x v vl vu l u s3.heap.objs.size Q I4 r1 (Heap.IsSliceOf.new ..) pl pu q3
  show wpAny (model X.prog X.w) X.A (subscriptTail e (.Slice lo hi none p2) v (.ref s3.heap.objs.size)) (EP X pins σ Q) X.xe { s3 with heap := s3.heap.push { cls := .type "slice", data := .fields #[vl, vu, .none] } }
  exact tail_any (ops := [.ref s3.heap.objs.size, v]) ht hT hg (by with_unfolding_all rfl)
noncomputable def cutV (xs : List V) (lo hi : Option Int) : List V := (xs.drop (HT.sIx xs.length 0 lo)).take (HT.sIx xs.length xs.length hi - HT.sIx xs.length 0 lo)
theorem cutV_length (xs : List V) (lo hi : Option Int) : (cutV xs lo hi).length ≤ xs.length := by
  unfold cutV
  rw [List.length_take, List.length_drop]
  (first | lia | omega)
noncomputable def rCatT (K : PySem.W.Frag) : R2 := fun x y H Q => ∃ a b xs ys, x = .ref a ∧ y = .ref b ∧ SqT K H a xs ∧ SqT K H b ys ∧ xs ≠ [] ∧ xs.length + ys.length ≤ sizeLine ∧
  (ys = [] → Q (.ref a) H) ∧ (ys ≠ [] → ∀ p, H p = none → Q (.ref p) (upd H p (.tup (xs ++ ys))))
theorem Vals.nil_iff {xs : List V} {us : List Value} (r : Vals xs us) : us = [] ↔ xs = [] := by
  cases r with
  | nil => simp
  | cons _ _ => simp
theorem op_catT : OpR X (binaryOp .Add) (rCatT X.K) := by
  intro pins s σ H x y v u Q I rx ry h
  obtain ⟨a, b, xs, ys, rfl, rfl, ha, hb, hx, hz, q1, q2⟩ := h
  cases rx
  cases ry
  obtain ⟨its, r1, p1, _⟩ := I.tuple ha
  obtain ⟨its2, r2, p2, _⟩ := I.tuple hb
  refine HT.cat_tup p1 p2 (fun z => hx (r1.nil_iff.mp z)) (fun z => ⟨.ref a, H, I, rfl, q1 (r2.nil_iff.mp z)⟩) (fun z => ?_) (by rw [← r1.length, ← r2.length]; exact hz)
  refine ⟨.ref s.heap.objs.size, _, I.laid (t' := s.toks) (o := .tup (xs ++ ys)) (fun b ob q => Heap.get?_push_of_some _ q) (Nat.le_refl _) ?_, rfl, q2 (fun w => z (r2.nil_iff.mpr w)) _ (I.hok.fresh (Nat.le_refl _))⟩
  exact ⟨by rw [List.length_append]; exact hz, _, r1.append r2, TupP.new _ _⟩
end
end L2
namespace L2
open PySem PySem.Spec PyProof.Rows
noncomputable def ixN (n : Nat) (i : Int) : Option Nat := if 0 ≤ i then (if i < n then some i.toNat else none) else if -(n : Int) ≤ i then some (i + n).toNat else none
noncomputable def atI {α : Type} (xs : List α) (i : Int) : Option α := (ixN xs.length i).bind fun j => xs[j]?
theorem ixN_seq {n : Nat} {i : Int} {j : Nat} (h : ixN n i = some j) : seqIndex? i n = some j ∧ j < n ∧ -(n : Int) ≤ i ∧ i < n := by
  unfold ixN at h
  by_cases h0 : 0 ≤ i
  · rw [if_pos h0] at h
    by_cases h1 : i < n
    · rw [if_pos h1] at h
      have e : i.toNat = j := Option.some.inj h
      exact ⟨by rw [seqIndex_of h0 h1, e], by (first | lia | omega), by (first | lia | omega), h1⟩
    · rw [if_neg h1] at h; cases h
  · rw [if_neg h0] at h
    by_cases h1 : -(n : Int) ≤ i
    · rw [if_pos h1] at h
      have e : (i + n).toNat = j := Option.some.inj h
      exact ⟨by rw [seqIndex_neg (by (first | lia | omega)) h1, e], by (first | lia | omega), h1, by (first | lia | omega)⟩
    · rw [if_neg h1] at h; cases h
theorem atI_get {α : Type} {xs : List α} {i : Int} {v : α} (h : atI xs i = some v) : ∃ j, seqIndex? i xs.length = some j ∧ xs[j]? = some v ∧ j < xs.length ∧ -(xs.length : Int) ≤ i ∧ i < xs.length := by
  unfold atI at h
  cases e : ixN xs.length i with
  | none => rw [e] at h; cases h
  | some j =>
    rw [e] at h
    obtain ⟨h1, h2, h3, h4⟩ := ixN_seq e
    exact ⟨j, h1, h, h2, h3, h4⟩
theorem atI_nat {α : Type} {xs : List α} {j : Nat} {v : α} (h : xs[j]? = some v) : atI xs (j : Int) = some v := by
  have hj : j < xs.length := (List.getElem?_eq_some_iff.mp h).1
  have e : ixN xs.length (j : Int) = some j := by
    unfold ixN
    rw [if_pos (by (first | lia | omega)), if_pos (by (first | lia | omega))]; simp
  unfold atI; rw [e]; exact h
noncomputable def PlainIx (b : Expr) : Prop := ∀ o i, subscripted b false o i = operate [o, i] (getItem o i)
noncomputable def IxR (X : Cx) (r : R2) : Prop :=
  ∀ (value slice : Expr) (pins : List (Addr × Obj)) (s : Shared) (σ : St) (H : Hp) (x y : V) (v u : Value) (Q : VK), Inv X pins σ H s → RelV x v → RelV y u → r x y H Q →
    subscripted slice false v u = operate [v, u] (getItem v u) → wpAny (model X.prog X.w) X.A (subscriptTail value slice v u) (EP X pins σ Q) X.xe s
noncomputable def MtR (X : Cx) (id : String) (r : V → List V → Hp → VK → Prop) : Prop :=
  ∀ (pins : List (Addr × Obj)) (s : Shared) (σ : St) (H : Hp) (x : V) (xs : List V) (v : Value) (us : List Value) (Q : VK), Inv X pins σ H s → RelV x v → Vals xs us → r x xs H Q →
    wpAny (model X.prog X.w) X.A (call (.builtin id) (v :: us)) (EP X pins σ Q) X.xe s
section
variable {X : Cx} {a b : Expr} {ta tb : TE} {pos : Pos}
theorem pe_ix {r : R2} (hr : IxR X r) (ha : PE X a ta) (hb : PE X b tb) (hs : PlainIx b) : PE X (.Subscript a b pos) (tOp r ta tb) := by
  intro pins s σ H Q I h
  exact Subscript_ (binT ha hb I h fun v u s2 x y H2 I2 rx ry q => hr a b pins s2 σ H2 x y v u Q I2 rx ry q (hs _ _))
noncomputable def rIxL (K : PySem.W.Frag) : R2 := fun x y H Q => ∃ p xs i v, x = .ref p ∧ y = .int i ∧ SqL K H p xs ∧ atI xs i = some v ∧ Q v H
noncomputable def rIxT (K : PySem.W.Frag) : R2 := fun x y H Q => ∃ p xs i v, x = .ref p ∧ y = .int i ∧ SqT K H p xs ∧ atI xs i = some v ∧ Q v H
theorem ix_list : IxR X (rIxL X.K) := by
  intro value slice pins s σ H x y v u Q I rx ry h hs
  obtain ⟨p, xs, i, z, rfl, rfl, hq, he, q⟩ := h
  cases rx
  obtain ⟨t, rfl⟩ := ry
  obtain ⟨its, r, pl, hz⟩ := I.list hq
  obtain ⟨j, h1, h2, h3, h4, h5⟩ := atI_get he
  obtain ⟨w, ew, rw'⟩ := r.get h2
  have hl := r.length
  have hn := line63
  have fin : EP X pins σ Q w s := ⟨z, H, I, rw', q⟩
  by_cases h0 : 0 ≤ i
  · have hj : i.toNat = j := by
      rw [seqIndex_of h0 h5] at h1
      exact Option.some.inj h1
    exact item_listR pl.isList h0 (by (first | lia | omega)) (by rw [hj]; simpa using ew) fin hs
  · have hj : (i + (its.toArray.size : Int)).toNat = j := by
      rw [seqIndex_neg (by (first | lia | omega)) h4] at h1
      rw [List.size_toArray, ← hl]
      exact Option.some.inj h1
    exact subscriptTail_builtinR (x := w) pl.isList.typeIs slot_list_getitem.lookup
      (wpAny_getItem_list_neg (Q := fun r s' => r = w ∧ EP X pins σ Q r s') pl.isList (by (first | lia | omega)) (by rw [List.size_toArray] <;> (first | lia | omega)) (by (first | lia | omega)) (by rw [hj]; simpa using ew) ⟨rfl, fin⟩) hs
theorem ix_tup : IxR X (rIxT X.K) := by
  intro value slice pins s σ H x y v u Q I rx ry h hs
  obtain ⟨p, xs, i, z, rfl, rfl, hq, he, q⟩ := h
  cases rx
  obtain ⟨t, rfl⟩ := ry
  obtain ⟨its, r, pl, hz⟩ := I.tuple hq
  obtain ⟨j, h1, h2, h3, h4, h5⟩ := atI_get he
  obtain ⟨w, ew, rw'⟩ := r.get h2
  have hl := r.length
  have hn := line63
  have fin : EP X pins σ Q w s := ⟨z, H, I, rw', q⟩
  exact subscriptTail_builtinR (x := w) pl.typeIs slot_tuple_getitem.lookup
    (getItem_tuple (j := j) (Q := fun r s' => r = w ∧ EP X pins σ Q r s') pl (by (first | lia | omega)) (by (first | lia | omega)) (by rw [List.size_toArray, ← hl]; exact h1) (by simpa using ew) ⟨rfl, fin⟩) hs
theorem slice_bounds (lo hi : Option Int) (n : Nat) : (sliceBounds lo hi none n).1 = ((HT.sIx n 0 lo : Nat) : Int) ∧ (sliceBounds lo hi none n).2.1 = ((HT.sIx n n hi : Nat) : Int) ∧ (sliceBounds lo hi none n).2.2 = 1 := by
  refine ⟨?_, ?_, rfl⟩
  · cases lo with
    | none => simp [sliceBounds, HT.sIx]
    | some i =>
      simp only [sliceBounds, HT.sIx, Option.getD_none, show (1 : Int) > 0 by decide, if_true]
      by_cases h : i < 0
      · simp only [h, if_true] <;> (first | lia | omega)
      · simp only [h, if_false] <;> (first | lia | omega)
  · cases hi with
    | none => simp [sliceBounds, HT.sIx]
    | some i =>
      simp only [sliceBounds, HT.sIx, Option.getD_none, show (1 : Int) > 0 by decide, if_true]
      by_cases h : i < 0
      · simp only [h, if_true] <;> (first | lia | omega)
      · simp only [h, if_false] <;> (first | lia | omega)
theorem slicePick_cut (its : List Value) (lo hi : Option Int) : slicePick its.toArray lo hi none = ((its.drop (HT.sIx its.length 0 lo)).take (HT.sIx its.length its.length hi - HT.sIx its.length 0 lo)).toArray := by
  obtain ⟨h1, h2, h3⟩ := slice_bounds lo hi its.toArray.size
  unfold slicePick
  rw [h1, h2, h3]
  simp only [sliceRange_one, pick_run, List.size_toArray] <;> rfl
noncomputable def rSlL (K : PySem.W.Frag) : V → Option Int → Option Int → Hp → VK → Prop := fun x lo hi H Q => ∃ a xs, x = .ref a ∧ SqL K H a xs ∧ ∀ p, H p = none → Q (.ref p) (upd H p (.lst (cutV xs lo hi)))
theorem sl_list : SlR X (rSlL X.K) := by
  intro pins s σ H x v vl vu lo hi sl Q I rx hs pl pu h
  obtain ⟨a, xs, rfl, hx, q⟩ := h
  cases rx
  obtain ⟨its, r, ht, hz⟩ := I.list hx
  have hlen := r.length
  refine ⟨"list", _, slot_list_getitem.lookup, ht.isList.typeIs, ?_⟩
  refine wpAny_getItem_list_slice ht.isList hs pl pu .none (by simp) ?_ (by rw [List.size_toArray] <;> (first | lia | omega))
  rw [slicePick_cut, ← hlen]
  refine ⟨.ref s.heap.objs.size, _, I.laid (t' := s.toks) (o := .lst (cutV xs lo hi)) (fun b ob q => Heap.get?_push_of_some _ q) (Nat.le_refl _) ?_, rfl, q _ (I.hok.fresh (Nat.le_refl _))⟩
  exact ⟨Nat.le_trans (cutV_length xs lo hi) hz, _, 0, (r.drop (HT.sIx xs.length 0 lo)).take (HT.sIx xs.length xs.length hi - HT.sIx xs.length 0 lo), Heap.get?_push_size _ rfl⟩
noncomputable def flatV : V → Bool
  | .non => true
  | .bl _ => true
  | .int _ => true
  | .str _ => true
  | _ => false
noncomputable def eqV : V → V → Bool
  | .non, .non => true
  | .bl a, .bl b => a == b
  | .bl a, .int b => (if a then 1 else 0) == b
  | .int a, .bl b => a == (if b then 1 else 0)
  | .int a, .int b => a == b
  | .str a, .str b => a == b
  | _, _ => false
theorem eqAt_V {A : Around} {s : Shared} {y x : V} {u v : Value} (ry : RelV y u) (rx : RelV x v) (fy : flatV y = true) (fx : flatV x = true) : SeqAt.EqAt A s u v (eqV y x) := by
  cases y with
  | non =>
    cases ry
    cases x with
    | non => cases rx; exact SeqAt.EqAt.same _
    | bl b => cases rx; exact SeqAt.EqAt.none_bool b
    | int b => obtain ⟨t, rfl⟩ := rx; exact SeqAt.EqAt.none_int b t
    | str b => obtain ⟨t, rfl⟩ := rx; exact SeqAt.EqAt.none_str b t
    | _ => exact absurd (show false = true from fx) Bool.false_ne_true
  | bl a =>
    cases ry
    cases x with
    | non => cases rx; exact SeqAt.EqAt.bool_none a
    | bl b => cases rx; exact SeqAt.EqAt.bool_bool a b
    | int b => obtain ⟨t, rfl⟩ := rx; exact SeqAt.EqAt.bool_int a b t
    | str b => obtain ⟨t, rfl⟩ := rx; exact SeqAt.EqAt.bool_str a b t
    | _ => exact absurd (show false = true from fx) Bool.false_ne_true
  | int a =>
    obtain ⟨t', rfl⟩ := ry
    cases x with
    | non => cases rx; exact SeqAt.EqAt.int_none a t'
    | bl b => cases rx; exact SeqAt.EqAt.int_bool a t' b
    | int b => obtain ⟨t, rfl⟩ := rx; exact SeqAt.EqAt.int_int a t' b t
    | str b => obtain ⟨t, rfl⟩ := rx; exact SeqAt.EqAt.int_str a t' b t
    | _ => exact absurd (show false = true from fx) Bool.false_ne_true
  | str a =>
    obtain ⟨t', rfl⟩ := ry
    cases x with
    | non => cases rx; exact SeqAt.EqAt.str_none a t'
    | bl b => cases rx; exact SeqAt.EqAt.str_bool a t' b
    | int b => obtain ⟨t, rfl⟩ := rx; exact SeqAt.EqAt.str_int a t' b t
    | str b => obtain ⟨t, rfl⟩ := rx; exact SeqAt.EqAt.str_str a t' b t
    | _ => exact absurd (show false = true from fx) Bool.false_ne_true
  | _ => exact absurd (show false = true from fy) Bool.false_ne_true
noncomputable def eqU (x : V) (u : Value) : Bool := match u with
  | .none => eqV .non x
  | .bool b => eqV (.bl b) x
  | .int i _ => eqV (.int i) x
  | .str z _ => eqV (.str z) x
  | _ => false
theorem eqU_of {x y : V} {u : Value} (r : RelV y u) (f : flatV y = true) : eqU x u = eqV y x := by
  cases y with
  | non => cases r; rfl
  | bl b => cases r; rfl
  | int i => obtain ⟨t, rfl⟩ := r; rfl
  | str z => obtain ⟨t, rfl⟩ := r; rfl
  | _ => exact absurd (show false = true from f) Bool.false_ne_true
theorem mem_eqAt {A : Around} {s : Shared} {x : V} {v : Value} (rx : RelV x v) (fx : flatV x = true) : ∀ {xs : List V} {us : List Value}, Vals xs us → xs.all flatV = true → ∀ u ∈ us, SeqAt.EqAt A s u v (eqU x u)
  | _, _, .nil, _ => fun u hu => by cases hu
  | y :: xs, u :: us, .cons r t, f => fun u' hu => by
    rw [List.all_cons, Bool.and_eq_true] at f
    rcases List.mem_cons.mp hu with rfl | hu
    · rw [eqU_of r f.1]; exact eqAt_V r rx f.1 fx
    · exact mem_eqAt rx fx t f.2 u' hu
theorem call_len_seq : CallR X (.builtin "len") (fun xs H Q => ∃ p ys, xs = [.ref p] ∧ (SqL X.K H p ys ∨ SqT X.K H p ys) ∧ Q (.int ys.length) H) := by
  intro pins s σ H xs us Q I r h
  obtain ⟨p, ys, rfl, hq, q⟩ := h
  obtain ⟨u, rfl, rx⟩ := vals1 r
  cases rx
  have hn := line63
  rcases hq with hq | hq
  · obtain ⟨its, r', pl, hz⟩ := I.list hq
    have hlen := r'.length
    exact Calls.call_len_list pl.isList (by simp only [List.size_toArray] <;> (first | lia | omega)) ⟨.int ys.length, H, I.tok _, ⟨s.toks + 1, by rw [List.size_toArray, hlen]⟩, q⟩
  · obtain ⟨its, r', pl, hz⟩ := I.tuple hq
    have hlen := r'.length
    exact len_tuple pl (by simp only [List.size_toArray] <;> (first | lia | omega)) ⟨.int ys.length, H, I.tok _, ⟨s.toks + 1, by rw [List.size_toArray, hlen]⟩, q⟩
theorem call_list_of : CallR X (.type "list") (fun xs H Q => ∃ p ys, xs = [.ref p] ∧ (SqL X.K H p ys ∨ SqT X.K H p ys) ∧ ∀ l, H l = none → Q (.ref l) (upd H l (.lst ys))) := by
  intro pins s σ H xs us Q I r h
  obtain ⟨p, ys, rfl, hq, q⟩ := h
  obtain ⟨u, rfl, rx⟩ := vals1 r
  cases rx
  have fin : ∀ (its : List Value), Vals ys its → ys.length ≤ sizeLine → ∀ (h' : Heap) (c' : Nat), (∀ b o', s.heap.get? b = some o' → h'.get? b = some o') →
      h'.get? s.heap.objs.size = some { cls := .type "list", dict := none, data := .seq its.toArray c', slots := #[] } → EP X pins σ Q (.ref s.heap.objs.size) { s with heap := h' } := fun its r' hz h' c' kp e =>
    ⟨.ref s.heap.objs.size, _, I.laid (t' := s.toks) kp (Nat.le_refl _) (show ObjOk X.prog X.w _ h' _ (.lst ys) from ⟨hz, its, c', r', e⟩), rfl, q _ (I.hok.fresh (Nat.le_refl _))⟩
  rcases hq with hq | hq
  · obtain ⟨its, r', pl, hz⟩ := I.list hq
    have hlen := r'.length
    obtain ⟨o, ho, hc, n, hd⟩ := pl.isList
    exact call_list_seq p (.inl rfl) ho hc hd (fun h' c' kp e => fin its r' hz h' c' kp e) (by simp only [List.size_toArray] <;> (first | lia | omega))
  · obtain ⟨its, r', pl, hz⟩ := I.tuple hq
    have hlen := r'.length
    obtain ⟨o, ho, hc, n, hd⟩ := pl
    exact call_list_seq p (.inr rfl) ho hc hd (fun h' c' kp e => fin its r' hz h' c' kp e) (by simp only [List.size_toArray] <;> (first | lia | omega))
theorem call_tuple_of : CallR X (.type "tuple") (fun xs H Q => ∃ p ys, xs = [.ref p] ∧ ((SqL X.K H p ys ∧ ∀ l, H l = none → Q (.ref l) (upd H l (.tup ys))) ∨ (SqT X.K H p ys ∧ Q (.ref p) H))) := by
  intro pins s σ H xs us Q I r h
  obtain ⟨p, ys, rfl, h⟩ := h
  obtain ⟨u, rfl, rx⟩ := vals1 r
  cases rx
  rcases h with ⟨hq, q⟩ | ⟨hq, q⟩
  · obtain ⟨its, r', pl, hz⟩ := I.list hq
    have hlen := r'.length
    refine call_tuple_list pl.isList (fun h' kp => ?_) (by simp only [List.size_toArray] <;> (first | lia | omega))
    have I1 : Inv X pins σ H { s with heap := h' } := I.kept (t' := s.toks) kp
    have I2 : Inv X pins σ (upd H h'.objs.size (.tup ys)) { s with heap := h'.push { cls := .type "tuple", data := .seq its.toArray } } :=
      I1.laid (t' := s.toks) (fun b o e => Heap.get?_push_of_some _ e) (Nat.le_refl _) (show ObjOk X.prog X.w _ _ _ (.tup ys) from ⟨hz, its, r', TupP.new _ _⟩)
    exact ⟨.ref h'.objs.size, _, I2, rfl, q _ (I1.hok.fresh (Nat.le_refl _))⟩
  · obtain ⟨its, r', pl, hz⟩ := I.tuple hq
    exact call_tuple_same pl ⟨.ref p, H, I, rfl, q⟩
noncomputable def tyV (K : PySem.W.Frag) (T : String) (x : V) (H : Hp) : Prop := match x with
  | .str _ => T = "str"
  | .int _ => T = "int"
  | .ref p => (T = "list" ∧ ∃ xs, SqL K H p xs) ∨ (T = "tuple" ∧ ∃ o, K.lookup p = some o ∧ o.cls = .type "tuple" ∧ o.dict = none) ∨
      (T = "dict" ∧ ((∃ kvs, H p = some (.dK kvs)) ∨ ∃ kvs, H p = some (.dT kvs))) ∨ (T = "set" ∧ ∃ S n, H p = some (.set S n))
  | _ => False
theorem tyV_is {pins : List (Addr × Obj)} {σ : St} {H : Hp} {s : Shared} {T : String} {x : V} {v : Value} (I : Inv X pins σ H s) (r : RelV x v) (ty : tyV X.K T x H) :
    s.TypeIs v T ∧ ∀ a, v = .ref a → ∃ ob, s.heap.get? a = some ob ∧ ob.dict = none := by
  cases x with
  | str z =>
    obtain ⟨t, rfl⟩ := r
    cases (show T = "str" from ty)
    exact ⟨typeIs_str s z t, fun _ e => nomatch e⟩
  | int i =>
    obtain ⟨t, rfl⟩ := r
    cases (show T = "int" from ty)
    exact ⟨typeIs_int s i t, fun _ e => nomatch e⟩
  | ref p =>
    cases r
    rcases ty with ⟨rfl, xs, hq⟩ | ⟨rfl, o, hk, hc, hd⟩ | ⟨rfl, hk⟩ | ⟨rfl, S, n, hk⟩
    · obtain ⟨its, _, pl, _⟩ := I.list hq
      refine ⟨pl.isList.typeIs, fun a e => ?_⟩
      cases e
      obtain ⟨o, n, e, c, hd, _⟩ := pl
      exact ⟨o, e, hd⟩
    · refine ⟨⟨o, I.kIn p o hk, hc⟩, fun a e => ?_⟩
      cases e
      exact ⟨o, I.kIn _ o hk, hd⟩
    · have z : ∃ o, s.heap.get? p = some o ∧ o.ExactDict := by
        rcases hk with ⟨kvs, hk⟩ | ⟨kvs, hk⟩
        · obtain ⟨_, _, _, _, o, _, _, e, ex, _⟩ := I.hok p _ hk
          exact ⟨o, e, ex⟩
        · obtain ⟨_, _, _, _, o, _, _, e, ex, _⟩ := I.hok p _ hk
          exact ⟨o, e, ex⟩
      obtain ⟨o, e, ex⟩ := z
      refine ⟨⟨o, e, ex.1⟩, fun a e2 => ?_⟩
      cases e2
      exact ⟨o, e, ex.2.1⟩
    · obtain ⟨o, _, _, _, e, ex, _⟩ := I.hok p _ hk
      refine ⟨⟨o, e, ex.1⟩, fun a e2 => ?_⟩
      cases e2
      exact ⟨o, e, ex.2.1⟩
  | _ => exact False.elim ty
noncomputable def tBM (K : PySem.W.Frag) (T : String) (r : V → List V → Hp → VK → Prop) (to : TE) (t : TA) : TE := fun σ H Q => to σ H fun x H1 => tyV K T x H1 ∧ t σ H1 fun xs H2 => r x xs H2 Q
variable {o e : Expr} {es : List Expr} {to : TE} {t : TA} {name : Str} {apos cpos : Pos} {T id : String} {r : V → List V → Hp → VK → Prop}
theorem pe_bm (pa : PlainAttrs T) (slot : Slot T name id) (hty : typeOf (.builtin id) = pure (.type "method_descriptor")) (hm : MtR X id r) (ho : PE X o to) (ha : PA X (e :: es) t)
    (hbase : attributeBase o name X.env (eval o X.env) = eval o X.env := by rfl)
    (hfew : ((backTo cpos (starEach (e :: es) X.env)).all (fun x => !x.1) && (backToKw cpos (keywordEach [] X.env)).all (fun x => x.1.isSome)
      && decide ((e :: es).length + ([] : List Keyword).length + (if ([] : List Keyword).isEmpty then 0 else 1) < 30)) = true := by rfl)
    (hline : (apos.endLine == cpos.line) = true := by rfl) (hs : starEach (e :: es) X.env = (false, eval e X.env) :: starEach es X.env := by rfl) (hplain : (backTo cpos (starEach es X.env)).any (·.1) = false := by rfl) :
    PE X (.Call (.Attribute o name apos) (e :: es) [] cpos) (tBM X.K T r to t) := by
  intro pins s σ H Q I h
  refine wpAny_Call_method_late hbase hfew hline rfl (thn (ho pins s σ H _ I h) fun v s1 ⟨x, H1, I1, r1, ty, q1⟩ => ?_)
  obtain ⟨h1, h2⟩ := tyV_is I1 r1 ty
  refine ⟨T, id, pa, slot, hty, h1, h2, ?_⟩
  have hA := ha cpos pins s1 σ H1 _ I1 q1
  rw [hs] at hA ⊢
  refine Calls.callWith_builtin (by show (false || (backTo cpos (starEach es X.env)).any (·.1)) = false; rw [hplain] <;> rfl) (Calls.evalArgs_plain ?_)
  exact thn hA fun us s2 ⟨vs, H2, I2, r2, q2⟩ => hm pins s2 σ H2 x vs v us Q I2 r1 r2 q2
end
end L2
namespace L2
open PySem PySem.Spec PyProof.Rows
noncomputable def MtM (X : Cx) (id : String) (r : V → List V → Hp → VK → Prop) : Prop :=
  ∀ (pins : List (Addr × Obj)) (s : Shared) (σ : St) (H : Hp) (x : V) (xs : List V) (v : Value) (us : List Value) (Q : VK), Inv X pins σ H s → RelV x v → Vals xs us → r x xs H Q →
    wpAny (model X.prog X.w) X.A (call (.builtin id) (v :: us)) (EP X pins σ Q) X.xe s
theorem Vals.one : ∀ {x : V} {us : List Value}, Vals [x] us → ∃ u, us = [u] ∧ RelV x u
  | _, _, .cons r .nil => ⟨_, rfl, r⟩
theorem Vals.two : ∀ {x y : V} {us : List Value}, Vals [x, y] us → ∃ u v, us = [u, v] ∧ RelV x u ∧ RelV y v
  | _, _, _, .cons r (.cons q .nil) => ⟨_, _, rfl, r, q⟩
theorem Vals.eraseIdx : ∀ {xs : List V} {us : List Value} (i : Nat), Vals xs us → Vals (xs.eraseIdx i) (us.eraseIdx i)
  | _, _, _, .nil => .nil
  | _, _, 0, .cons _ t => t
  | _, _, i + 1, .cons r t => .cons r (Vals.eraseIdx i t)
theorem Vals.rep {xs : List V} {us : List Value} (h : Vals xs us) : ∀ k : Nat, Vals (List.replicate k xs).flatten (List.replicate k us).flatten
  | 0 => .nil
  | k + 1 => by
    rw [List.replicate_succ, List.replicate_succ, List.flatten_cons, List.flatten_cons]
    exact Vals.append h (Vals.rep h k)
theorem len_erase {α : Type} : ∀ (l : List α) (i : Nat), (l.eraseIdx i).length ≤ l.length
  | [], _ => Nat.le_refl _
  | _ :: _, 0 => Nat.le_succ _
  | _ :: r, i + 1 => Nat.succ_le_succ (len_erase r i)
theorem foldl_rep (its : List Value) : ∀ (k : Nat) (acc : List Value),
    List.foldl (fun x1 x2 => x1 ++ x2) acc.toArray (List.replicate k its.toArray) = (acc ++ (List.replicate k its).flatten).toArray
  | 0, acc => by simp
  | k + 1, acc => by
    have e : acc.toArray ++ its.toArray = (acc ++ its).toArray := by simp
    have e2 : (acc ++ its) ++ (List.replicate k its).flatten = acc ++ (List.replicate (k + 1) its).flatten := by
      rw [List.replicate_succ, List.flatten_cons, List.append_assoc]
    rw [← e2, ← foldl_rep its k (acc ++ its), ← e, List.replicate_succ, List.foldl_cons]
section
variable {X : Cx} {pins : List (Addr × Obj)} {σ : St} {H : Hp} {s : Shared} {l b : Addr} {xs ys zs : List V}
theorem Inv.lset {its its' : List Value} {n : Nat} {f : Array Value → Array Value} {t' : Nat} (I : Inv X pins σ H s) (hH : H l = some (.lst xs))
    (e : s.heap.get? l = some { cls := .type "list", data := .seq its.toArray n }) (hf : f its.toArray = its'.toArray) (hv : Vals ys its') (hz : ys.length ≤ sizeLine) :
    Inv X pins σ (upd H l (.lst ys)) { s with heap := s.heap.update l (Obj.mapSeq f), toks := t' } := by
  have q := PySem.IsL.update e f
  rw [hf] at q
  refine I.write (x := l) (e := l) (by rw [hH]; exact trivial) (.inl rfl) (fun b' u hb hu => (Heap.get?_update_other s.heap (Obj.mapSeq f) (Ne.symm hb)).trans hu) ⟨_, q⟩ ?_
  exact ⟨hz, its', _, hv, q⟩
theorem Inv.lnew {its : List Value} {t' : Nat} (I : Inv X pins σ H s) (hv : Vals ys its) (hz : ys.length ≤ sizeLine) :
    Inv X pins σ (upd H s.heap.objs.size (.lst ys)) { s with heap := s.heap.push { cls := .type "list", data := .seq its.toArray }, toks := t' } :=
  I.laid (fun _ _ q => Heap.get?_push_of_some _ q) (Nat.le_refl _) ⟨hz, its, 0, hv, Heap.get?_push_size _ rfl⟩
theorem Inv.fresh (I : Inv X pins σ H s) : H s.heap.objs.size = none := I.hok.fresh (Nat.le_refl _)
theorem Inv.lstM (I : Inv X pins σ H s) (hH : H l = some (.lst xs)) : xs.length ≤ sizeLine ∧ ∃ (its : List Value) (n : Nat), Vals xs its ∧ xs.length = its.length ∧ s.heap.get? l = some { cls := .type "list", data := .seq its.toArray n } := by
  obtain ⟨z, its, n, r, e⟩ := I.hok l _ hH
  exact ⟨z, its, n, r, r.length, e⟩
theorem notLongL {n : Nat} (h : n ≤ sizeLine) : Builtin.List.listTooLong n = false := by
  unfold Builtin.List.listTooLong
  exact decide_eq_false (by (first | lia | omega))
end
section
variable {X : Cx}
noncomputable def rAppend : V → List V → Hp → VK → Prop := fun x vs H Q => ∃ l xs y, x = .ref l ∧ vs = [y] ∧ H l = some (.lst xs) ∧ xs.length < sizeLine ∧ Q .non (upd H l (.lst (xs ++ [y])))
theorem mt_append : MtM X "list.append" rAppend := by
  intro pins s σ H x vs v us Q I rx rv h
  obtain ⟨l, xs, y, rfl, rfl, hH, hz, q⟩ := h
  cases rx
  obtain ⟨u, rfl, ru⟩ := rv.one
  obtain ⟨z, its, n, r, hl, e⟩ := I.lstM hH
  refine call_meets F.slot_list_append ⟨_, e, rfl⟩ F.entry_list_append (F.args_list_append_2 _ _) (PySem.list_append l its.toArray n u (by rw [List.size_toArray]; (first | lia | omega))) ⟨e, ?_⟩
  refine ⟨.non, _, I.lset (its' := its ++ [u]) hH e (by simp) (r.append (.cons ru .nil)) ?_, rfl, q⟩
  rw [List.length_append, List.length_singleton]
  (first | lia | omega)
noncomputable def rExtend : V → List V → Hp → VK → Prop := fun x vs H Q => ∃ l b xs zs, x = .ref l ∧ vs = [.ref b] ∧ H l = some (.lst xs) ∧ H b = some (.lst zs) ∧ xs.length + zs.length ≤ sizeLine ∧ Q .non (upd H l (.lst (xs ++ zs)))
theorem mt_extend : MtM X "list.extend" rExtend := by
  intro pins s σ H x vs v us Q I rx rv h
  obtain ⟨l, b, xs, zs, rfl, rfl, hH, hB, hz, q⟩ := h
  cases rx
  obtain ⟨u, rfl, ru⟩ := rv.one
  cases ru
  obtain ⟨z, its, n, r, hl, e⟩ := I.lstM hH
  obtain ⟨z2, its2, n2, r2, hl2, e2⟩ := I.lstM hB
  have hsz : its.toArray.size + its2.toArray.size ≤ sizeLine := by rw [List.size_toArray, List.size_toArray]; (first | lia | omega)
  have hlong : ¬ (!its.toArray.isEmpty && Builtin.List.listTooLong (its.toArray.size + its2.toArray.size)) = true := by
    rw [notLongL hsz, Bool.and_false]
    exact Bool.false_ne_true
  refine call_meets F.slot_list_extend ⟨_, e, rfl⟩ F.entry_list_extend (F.args_list_extend_2 _ _)
    (AutoSeq1.list_extend_list_list_0 l its.toArray n b its2.toArray n2 hlong (by rw [List.size_toArray]; (first | lia | omega)) (by (first | lia | omega))) ⟨e, e2, ?_⟩
  refine ⟨.non, _, I.lset (its' := its ++ its2) hH e (by simp) (r.append r2) ?_, rfl, q⟩
  rw [List.length_append]
  (first | lia | omega)
noncomputable def rPopAt : V → List V → Hp → VK → Prop := fun x vs H Q => ∃ l xs i k y, x = .ref l ∧ vs = [.int i] ∧ H l = some (.lst xs) ∧ -(2 ^ 63) ≤ i ∧ i < 2 ^ 63 ∧ seqIndex? i xs.length = some k ∧ xs[k]? = some y ∧ Q y (upd H l (.lst (xs.eraseIdx k)))
theorem mt_popAt : MtM X "list.pop" rPopAt := by
  intro pins s σ H x vs v us Q I rx rv h
  obtain ⟨l, xs, i, k, y, rfl, rfl, hH, h1, h2, hk, hy, q⟩ := h
  cases rx
  obtain ⟨u, rfl, ru⟩ := rv.one
  obtain ⟨t, rfl⟩ := ru
  obtain ⟨z, its, n, r, hl, e⟩ := I.lstM hH
  obtain ⟨w, hw, rw'⟩ := r.get hy
  refine call_meets F.slot_list_pop ⟨_, e, rfl⟩ F.entry_list_pop (F.args_list_pop_2 _ _)
    (MeetsSeq.list_pop_at l its.toArray n i t k w (fitsIndex_both h1 h2) (by rw [List.size_toArray, ← hl]; exact hk) (by rw [← Array.getElem?_toList]; exact hw) (by rw [List.size_toArray]; (first | lia | omega))) ⟨e, ?_⟩
  refine ⟨y, _, I.lset (its' := its.eraseIdx k) hH e ?_ (r.eraseIdx k) ?_, rw', q⟩
  · show its.toArray.eraseIdxIfInBounds k = (its.eraseIdx k).toArray
    rw [List.eraseIdxIfInBounds_toArray]
  · have := len_erase xs k
    (first | lia | omega)
noncomputable def rCat : R2 := fun x y H Q => ∃ l b xs zs, x = .ref l ∧ y = .ref b ∧ H l = some (.lst xs) ∧ H b = some (.lst zs) ∧ xs.length + zs.length ≤ sizeLine ∧ ∀ p, H p = none → Q (.ref p) (upd H p (.lst (xs ++ zs)))
theorem op_cat : OpR X (binaryOp .Add) rCat := by
  intro pins s σ H x y v u Q I rx ry h
  obtain ⟨l, b, xs, zs, rfl, rfl, hH, hB, hz, q⟩ := h
  cases rx
  cases ry
  obtain ⟨z, its, n, r, hl, e⟩ := I.lstM hH
  obtain ⟨z2, its2, n2, r2, hl2, e2⟩ := I.lstM hB
  refine PySem.P.add_list e e2 ?_ (by rw [List.size_toArray, List.size_toArray]; (first | lia | omega))
  have ea : its.toArray ++ its2.toArray = (its ++ its2).toArray := by simp
  rw [ea]
  exact ⟨.ref _, _, I.lnew (t' := s.toks) (r.append r2) (by rw [List.length_append]; (first | lia | omega)), rfl, q _ I.fresh⟩
noncomputable def rRep : R2 := fun x y H Q => ∃ l k xs, x = .ref l ∧ y = .int k ∧ H l = some (.lst xs) ∧ -(2 ^ 63) ≤ k ∧ k < 2 ^ 63 ∧ xs.length * k.toNat ≤ sizeLine ∧
  ∀ p, H p = none → Q (.ref p) (upd H p (.lst (List.replicate k.toNat xs).flatten))
theorem len_rep {α : Type} (xs : List α) (k : Nat) : (List.replicate k xs).flatten.length = k * xs.length := by
  induction k with
  | zero => simp
  | succ k ih => rw [List.replicate_succ, List.flatten_cons, List.length_append, ih, Nat.succ_mul, Nat.add_comm]
theorem op_rep : OpR X (binaryOp .Mult) rRep := by
  intro pins s σ H x y v u Q I rx ry h
  obtain ⟨l, k, xs, rfl, rfl, hH, h1, h2, hz, q⟩ := h
  cases rx
  obtain ⟨t, rfl⟩ := ry
  obtain ⟨z, its, n, r, hl, e⟩ := I.lstM hH
  have hlen : its.toArray.size * k.toNat ≤ sizeLine := by rw [List.size_toArray, ← hl]; exact hz
  have hcap : ¬ its.toArray.size * k.toNat > (2 ^ 63 - 1) / 8 := by
    have : (sizeLine : Nat) ≤ (2 ^ 63 - 1) / 8 := by decide
    (first | lia | omega)
  have hfit : ¬ (!Builtin.List.listFitsIndex k) = true := by
    rw [fitsIndex_both h1 h2]
    exact Bool.false_ne_true
  have hlong : ¬ Builtin.List.listTooLong (its.toArray.size * k.toNat) = true := by
    rw [notLongL hlen]
    exact Bool.false_ne_true
  have hnew : List.foldl (fun x1 x2 => x1 ++ x2) #[] (List.replicate (if its.toArray.isEmpty = true then 0 else k.toNat) its.toArray) = (List.replicate k.toNat its).flatten.toArray := by
    have f0 : ∀ m : Nat, List.foldl (fun x1 x2 => x1 ++ x2) #[] (List.replicate m its.toArray) = (List.replicate m its).flatten.toArray := fun m => by
      have := foldl_rep its m []
      rw [List.nil_append] at this
      exact this
    rw [f0]
    cases its with
    | nil => simp
    | cons a r' => rw [if_neg (by simp)]
  refine wpAny_binaryOp_repeat_ref (T := "list") (U := "int") (by decide) ⟨_, e, rfl⟩ (fun s' => typeIs_int s' k t) noFill_list_mul F.fills_int_mul F.slot_int_rmul repeat_list F.slot_int_index.lookup
    (call_meets F.slot_int_rmul (typeIs_int s k t) F.entry_int_rmul (F.args_int_rmul_2 _ _) (int___rmul___int_list k t l its.toArray n)
      ⟨e, rfl, ⟨_, e, rfl⟩, call_meets F.slot_list_mul ⟨_, e, rfl⟩ F.entry_list_mul (F.args_list_mul_2 _ _) (AutoListH.list___mul___list_int_3 l its.toArray n k t hfit hcap hlong) ⟨e, ?_⟩⟩)
  rw [hnew]
  exact ⟨.ref _, _, I.lnew (t' := s.toks) (r.rep k.toNat) (by rw [len_rep, Nat.mul_comm]; exact hz), rfl, q _ I.fresh⟩
end
section
variable {prog : Program} {w : World} {A : Around} {E : Value → Shared → Prop} {s : Shared}
end
section
variable {X : Cx}
end
end L2
namespace L2
open PySem PySem.Spec PyProof.Rows
section
variable {κ : Type} [DecidableEq κ]
noncomputable def valV (kvs : List (κ × V)) (k : κ) : Option V := (kvs.find? fun kv => decide (kv.1 = k)).map (·.2)
noncomputable def putK (kvs : List (κ × V)) (k : κ) (v : V) : List (κ × V) :=
  if (kvs.any fun kv => decide (kv.1 = k)) = true then kvs.map (fun kv => if kv.1 = k then (kv.1, v) else kv) else kvs ++ [(k, v)]
theorem valV_pos {p : κ × V} {r : List (κ × V)} {k : κ} (e : p.1 = k) : valV (p :: r) k = some p.2 := by simp [valV, List.find?_cons, e]
theorem valV_neg {p : κ × V} {r : List (κ × V)} {k : κ} (e : ¬ p.1 = k) : valV (p :: r) k = valV r k := by simp [valV, List.find?_cons, e]
theorem valV_any (k : κ) : ∀ kvs : List (κ × V), (kvs.any fun kv => decide (kv.1 = k)) = (valV kvs k).isSome
  | [] => rfl
  | p :: r => by
    rw [List.any_cons]
    by_cases e : p.1 = k
    · simp only [valV_pos e, decide_eq_true e, Bool.true_or, Option.isSome_some]
    · rw [valV_neg e, decide_eq_false e, Bool.false_or]; exact valV_any k r
theorem length_putK (kvs : List (κ × V)) (k : κ) (v : V) : (putK kvs k v).length ≤ kvs.length + 1 := by
  unfold putK
  split
  · rw [List.length_map]; (first | lia | omega)
  · rw [List.length_append, List.length_cons, List.length_nil]; (first | lia | omega)
theorem putK_new {kvs : List (κ × V)} {k : κ} (v : V) (h : valV kvs k = none) : putK kvs k v = kvs ++ [(k, v)] := by
  unfold putK
  rw [valV_any, h]
  exact if_neg (by decide)
theorem RelO.isSome_eq {o : Option V} {u : Option Value} (r : RelO o u) : o.isSome = u.isSome := by
  cases o with
  | none => cases u with
    | none => rfl
    | some _ => exact (show False from r).elim
  | some _ => cases u with
    | none => exact (show False from r).elim
    | some _ => rfl
theorem KV.val {kvs : List (κ × V)} {vs : List (κ × Value)} (r : KV kvs vs) (k : κ) : RelO (valV kvs k) (valueAt vs k) := by
  unfold KV at r
  induction r with
  | nil => exact True.intro
  | @cons p q ps qs h t ih =>
    obtain ⟨h1, h2⟩ := h
    by_cases e : p.1 = k
    · have e' : q.1 = k := h1.symm.trans e
      have b : valueAt (q :: qs) k = some q.2 := by simp [valueAt, List.find?_cons, e']
      rw [valV_pos e, b]; exact h2
    · have e' : ¬ q.1 = k := fun z => e (h1.trans z)
      have b : valueAt (q :: qs) k = valueAt qs k := by simp [valueAt, List.find?_cons, e']
      rw [valV_neg e, b]; exact ih
theorem KV.any {kvs : List (κ × V)} {vs : List (κ × Value)} (r : KV kvs vs) (k : κ) : (kvs.any fun kv => decide (kv.1 = k)) = vs.any fun kv => decide (kv.1 = k) := by
  unfold KV at r
  induction r with
  | nil => rfl
  | cons h t ih => rw [List.any_cons, List.any_cons, ih, h.1]
theorem KV.repl {kvs : List (κ × V)} {vs : List (κ × Value)} (r : KV kvs vs) (k : κ) {y : V} {u : Value} (ry : RelV y u) :
    KV (kvs.map fun kv => if kv.1 = k then (kv.1, y) else kv) (vs.map fun kv => if kv.1 = k then (kv.1, u) else kv) := by
  unfold KV at r ⊢
  induction r with
  | nil => exact .nil
  | @cons p q ps qs h t ih =>
    rw [List.map_cons, List.map_cons]
    refine .cons ?_ ih
    obtain ⟨h1, h2⟩ := h
    by_cases e : p.1 = k
    · rw [if_pos e, if_pos (h1.symm.trans e)]; exact ⟨h1, ry⟩
    · rw [if_neg e, if_neg (fun z => e (h1.trans z))]; exact ⟨h1, h2⟩
theorem KV.put {kvs : List (κ × V)} {vs : List (κ × Value)} (r : KV kvs vs) (k : κ) {y : V} {u : Value} (ry : RelV y u) : KV (putK kvs k y) (stored vs k u) := by
  unfold putK stored
  rw [r.any k]
  by_cases e : (vs.any fun kv => decide (kv.1 = k)) = true
  · rw [if_pos e, if_pos e]; exact r.repl k ry
  · rw [if_neg e, if_neg e]; exact Paired.snoc r ⟨rfl, ry⟩
theorem KV.length {kvs : List (κ × V)} {vs : List (κ × Value)} (r : KV kvs vs) : kvs.length = vs.length := Paired.length r
end
theorem kV_is {P : Program} {w : World} {k : Key} {u : Value} (r : RelV (kV k) u) : (mixKind P w).is k u = true := by
  cases k with
  | inl i => obtain ⟨t, e⟩ := (show ∃ t, u = Value.int i t from r); subst e; exact mixKind_int P w i t
  | inr x => obtain ⟨t, e⟩ := (show ∃ t, u = Value.str x t from r); subst e; exact mixKind_str P w x t
theorem items_are {P : Program} {w : World} : ∀ {ks : List Key} {us : List Value}, Vals (ks.map kV) us → ItemsAre (mixKind P w) ks us
  | [], _, r => by rw [List.map_nil] at r; cases r; exact .nil
  | k :: ks, _, r => by
    rw [List.map_cons] at r
    cases r with
    | cons h t => exact .cons (kV_is h) (items_are t)
noncomputable abbrev KT (H : Hp) : List (List Key × V) → List (List Key × Addr × Value) → Prop := Paired fun p q => p.1 = q.1 ∧ H q.2.1 = some (.tup (p.1.map kV)) ∧ RelV p.2 q.2.2
theorem KT.val {H : Hp} {kvs : List (List Key × V)} {xs : List (List Key × Addr × Value)} (r : KT H kvs xs) (k : List Key) : RelO (valV kvs k) ((atKey xs k).map (·.2)) := by
  induction r with
  | nil => exact True.intro
  | @cons p q ps qs h t ih =>
    obtain ⟨h1, _, h2⟩ := h
    by_cases e : p.1 = k
    · have e' : q.1 = k := h1.symm.trans e
      have b : atKey (q :: qs) k = some q.2 := by simp [atKey, List.find?_cons, e']
      rw [valV_pos e, b]; exact h2
    · have e' : ¬ q.1 = k := fun z => e (h1.trans z)
      have b : atKey (q :: qs) k = atKey qs k := by simp [atKey, List.find?_cons, e']
      rw [valV_neg e, b]; exact ih
theorem KT.repl {H : Hp} {kvs : List (List Key × V)} {xs : List (List Key × Addr × Value)} (r : KT H kvs xs) (k : List Key) {y : V} {u : Value} (ry : RelV y u) :
    KT H (kvs.map fun kv => if kv.1 = k then (kv.1, y) else kv) (xs.map (putAt k u)) := by
  induction r with
  | nil => exact .nil
  | @cons p q ps qs h t ih =>
    rw [List.map_cons, List.map_cons]
    refine .cons ?_ ih
    obtain ⟨h1, h2, h3⟩ := h
    unfold putAt
    by_cases e : p.1 = k
    · rw [if_pos e, if_pos (h1.symm.trans e)]; exact ⟨h1, h2, ry⟩
    · rw [if_neg e, if_neg (fun z => e (h1.trans z))]; exact ⟨h1, h2, h3⟩
theorem KT.put {H : Hp} {kvs : List (List Key × V)} {xs : List (List Key × Addr × Value)} (r : KT H kvs xs) (k : List Key) {b : Addr} {y : V} {u : Value} (hb : H b = some (.tup (k.map kV))) (ry : RelV y u) :
    KT H (putK kvs k y) (storedH xs k b u) := by
  have e : (kvs.any fun kv => decide (kv.1 = k)) = (atKey xs k).isSome := by
    rw [valV_any, (r.val k).isSome_eq, Option.isSome_map]
  unfold putK storedH
  rw [e]
  by_cases q : (atKey xs k).isSome = true
  · rw [if_pos q, if_pos q]; exact r.repl k ry
  · rw [if_neg q, if_neg q]; exact Paired.snoc r ⟨rfl, hb, ry⟩
theorem KT.keeps {H H' : Hp} {kvs : List (List Key × V)} {xs : List (List Key × Addr × Value)} (r : KT H kvs xs) (ht : ∀ b ys, H b = some (.tup ys) → H' b = some (.tup ys)) : KT H' kvs xs :=
  Paired.mapP r fun _ _ z => ⟨z.1, ht _ _ z.2.1, z.2.2⟩
section
variable {P : Program} {w : World} {H : Hp} {h : Heap} {a : Addr}
theorem rd_of {u : HO} (ok : HOk P w H h) (e : Rd H a u) : ObjOk P w H h a u := e.ok ok
theorem dk_rd {kvs : List (Key × V)} (ok : HOk P w H h) (e : Rd H a (.dK kvs)) : kvs.length ≤ sizeLine ∧ (a == sysModules) = false ∧ ∃ vs, KV kvs vs ∧ h.DictOf (mixKind P w) a vs :=
  show ObjOk P w H h a (.dK kvs) from rd_of ok e
theorem dk_of {kvs : List (Key × V)} (ok : HOk P w H h) (e : H a = some (.dK kvs)) : kvs.length ≤ sizeLine ∧ (a == sysModules) = false ∧ ∃ vs, KV kvs vs ∧ h.DictOf (mixKind P w) a vs := dk_rd ok (.inl e)
theorem key_of {ks : List Key} (ok : HOk P w H h) (e : H a = some (.tup (ks.map kV))) : (tupleKind (mixKind P w)).is h ks a := by
  obtain ⟨_, its, r, o, h1, h2, _, n, h3⟩ := (show ObjOk P w H h a (.tup (ks.map kV)) from ok a _ e)
  exact ⟨o, its.toArray, n, h1, h2, h3, by simpa using items_are r⟩
theorem dt_rd {kvs : List (List Key × V)} (ok : HOk P w H h) (e : Rd H a (.dT kvs)) : kvs.length ≤ sizeLine ∧ (a == sysModules) = false ∧
    ∃ xs, KT H kvs xs ∧ h.DictOfH (tupleKind (mixKind P w)) a xs := by
  obtain ⟨z, y, xs, r, o, es, ep, h1, h2, h3, h4, h5⟩ := (show ObjOk P w H h a (.dT kvs) from rd_of ok e)
  refine ⟨z, y, xs, r, o, es, ep, h1, h2, h3, h4, fun x hx => ?_, h5⟩
  have all : ∀ {l : List (List Key × V)} {m : List (List Key × Addr × Value)}, KT H l m → ∀ x ∈ m, (tupleKind (mixKind P w)).is h x.1 x.2.1 := by
    intro l m q
    induction q with
    | nil => intro x hx; exact nomatch hx
    | @cons p q ps qs hq t ih =>
      intro x hx
      rcases List.mem_cons.mp hx with e | hx
      · subst e
        exact key_of ok (by rw [← hq.1]; exact hq.2.1)
      · exact ih x hx
  exact all r x hx
theorem dt_of {kvs : List (List Key × V)} (ok : HOk P w H h) (e : H a = some (.dT kvs)) : kvs.length ≤ sizeLine ∧ (a == sysModules) = false ∧
    ∃ xs, KT H kvs xs ∧ h.DictOfH (tupleKind (mixKind P w)) a xs := dt_rd ok (.inl e)
end
noncomputable def DGet (H : Hp) (a : Addr) (y : V) (r : Option V) : Prop :=
  (∃ kvs k, Rd H a (.dK kvs) ∧ y = kV k ∧ r = valV kvs k) ∨ ∃ kvs k b, Rd H a (.dT kvs) ∧ y = .ref b ∧ H b = some (.tup (k.map kV)) ∧ r = valV kvs k
noncomputable def DPut (H : Hp) (a : Addr) (y v : V) (H' : Hp) : Prop :=
  (∃ kvs k, H a = some (.dK kvs) ∧ y = kV k ∧ kvs.length < sizeLine ∧ H' = upd H a (.dK (putK kvs k v))) ∨
  ∃ kvs k b, H a = some (.dT kvs) ∧ y = .ref b ∧ H b = some (.tup (k.map kV)) ∧ kvs.length < sizeLine ∧ H' = upd H a (.dT (putK kvs k v))
theorem DGet.t {H : Hp} {a b : Addr} {kvs : List (List Key × V)} {k : List Key} (e : H a = some (.dT kvs)) (eb : H b = some (.tup (k.map kV))) : DGet H a (.ref b) (valV kvs k) := .inr ⟨kvs, k, b, .inl e, rfl, eb, rfl⟩
theorem DPut.t {H : Hp} {a b : Addr} {kvs : List (List Key × V)} {k : List Key} {v : V} (e : H a = some (.dT kvs)) (eb : H b = some (.tup (k.map kV))) (hl : kvs.length < sizeLine) :
    DPut H a (.ref b) v (upd H a (.dT (putK kvs k v))) := .inr ⟨kvs, k, b, e, rfl, eb, hl, rfl⟩
section
variable {X : Cx} {pins : List (Addr × Obj)} {σ : St} {H : Hp} {s : Shared} {a : Addr} {y v : V} {u r : Value} {o : Option V} {A : Around} {E : Value → Shared → Prop}
theorem Inv.big (I : Inv X pins σ H s) : sysModules < s.heap.objs.size := by
  have h : mainGlobals < s.heap.objs.size := (I.mod.glob.keeps I.bk).lt
  exact Nat.lt_trans (by decide) h
theorem d_in {Q : Value → Shared → Prop} (hu : A.units + 1 < cLine) (I : Inv X pins σ H s) (g : DGet H a y o) (ry : RelV y u) (h : ∀ s', Inv X pins σ H s' → Q (.bool o.isSome) s') :
    wpAny (model X.prog X.w) A (compareOp .In u (.ref a)) Q E s := by
  rcases g with ⟨kvs, k, e, ey, l⟩ | ⟨kvs, k, b, e, ey, eb, l⟩
  · subst ey
    obtain ⟨z, hd, vs, rel, dd⟩ := dk_rd I.hok e
    refine wpAny_in_of (kV_is ry) hd dd.mapOf ?_
    rw [← (rel.val k).isSome_eq, ← l]
    exact h _ (I.tok _)
  · subst ey
    cases (show u = Value.ref b from ry)
    obtain ⟨z, hd, xs, rel, dd⟩ := dt_rd I.hok e
    refine wpAny_in_heap (tupleKind_room_in1 hu) (key_of I.hok eb) hd dd ?_
    have q := (rel.val k).isSome_eq
    rw [Option.isSome_map] at q
    rw [← q, ← l]
    exact h _ (I.tok _)
theorem d_write {h' : Heap} {t' : Nat} {ob : HO} (I : Inv X pins σ H s) (mu : Mut (H a)) (hs : Heap.SameBut a s.heap h') (he : ∃ q, h'.get? a = some q) (new : ObjOk X.prog X.w (upd H a ob) h' a ob) :
    Inv X pins σ (upd H a ob) { s with heap := h', toks := t' } :=
  I.write (x := a) (e := a) mu (.inl rfl) (fun b q hb z => (hs.2 b hb).trans z) he new
theorem dk_new {P : Program} {w : World} {H' : Hp} {h' : Heap} {kvs : List (Key × V)} {vs : List (Key × Value)} (z : kvs.length ≤ sizeLine) (hd : (a == sysModules) = false) (rel : KV kvs vs) (dd : h'.DictOf (mixKind P w) a vs) :
    ObjOk P w H' h' a (.dK kvs) := ⟨z, hd, vs, rel, dd⟩
theorem d_setItem {H' : Hp} {Q : Unit → Shared → Prop} (hu : A.units + 1 < cLine) (I : Inv X pins σ H s) (g : DPut H a y v H') (ry : RelV y u) (rv : RelV v r) (h : ∀ s', Inv X pins σ H' s' → Q () s') :
    wpAny (model X.prog X.w) A (setItem (.ref a) u r) Q E s := by
  rcases g with ⟨kvs, k, e, ey, l, eH⟩ | ⟨kvs, k, b, e, ey, eb, l, eH⟩
  · subst ey eH
    obtain ⟨z, hd, vs, rel, dd⟩ := dk_of I.hok e
    have hz : vs.length ≤ sizeLine := by rw [← rel.length]; exact z
    have hl : (putK kvs k v).length ≤ sizeLine := by have := length_putK kvs k v; (first | lia | omega)
    refine wpAny_setItem_pairs (hsz := hz) (kV_is ry) dd fun h' dd' hs => h _ ?_
    have he : ∃ q, h'.get? a = some q := let ⟨q, _, _, hq, _⟩ := dd'; ⟨q, hq⟩
    exact d_write I (by rw [e]; exact True.intro) hs he (dk_new hl hd (rel.put k rv) dd')
  · subst ey eH
    cases (show u = Value.ref b from ry)
    obtain ⟨z, hd, xs, rel, dd⟩ := dt_of I.hok e
    have hz : xs.length ≤ sizeLine := by rw [← Paired.length rel]; exact z
    have hl : (putK kvs k v).length ≤ sizeLine := by have := length_putK kvs k v; (first | lia | omega)
    refine wpAny_setItem_heap (hsz := hz) (tupleKind_room_in1 hu) (key_of I.hok eb) dd fun h' dd' hs => h _ ?_
    obtain ⟨q, es, ep, hq, h2, h3, h4, _, h5⟩ := dd'
    refine d_write I (by rw [e]; exact True.intro) hs ⟨q, hq⟩ ⟨hl, hd, _, (rel.put k eb rv).keeps fun c ys ec => ?_, q, es, ep, hq, h2, h3, h4, h5⟩
    rw [upd_ne (ne_of ec e (fun z => nomatch z))]
    exact ec
end
section
variable {X : Cx} {pins : List (Addr × Obj)} {σ : St} {H : Hp} {s : Shared} {a : Addr} {kvs : List (Key × V)} {k : Key} {u : Value} {A : Around} {E : Value → Shared → Prop}
end
noncomputable def tDIn (ty td : TE) : TE := fun σ H Q => ty σ H fun y H1 => td σ H1 fun x H2 => ∃ a o, x = .ref a ∧ DGet H2 a y o ∧ Q (.bl o.isSome) H2
noncomputable def sDPut (td ty tv : TE) : TS := fun D σ H => tv σ H fun v H1 => td σ H1 fun x H2 => ty σ H2 fun y H3 => ∃ a H4, x = .ref a ∧ DPut H3 a y v H4 ∧ D.nx σ H4
section
variable {X : Cx} {o i e value : Expr} {pos pos' tpos : Pos} {td ty tv : TE}
theorem pc_din (hu : X.A.units + 1 < cLine) (hi : PE X i ty) (ho : PE X o td) : PC X .In i o (tDIn ty td) := by
  intro pins s σ H Q I h
  refine thn (hi pins s σ H _ I h) fun iv s1 ⟨y, H1, I1, ry, q1⟩ => thn (ho pins s1 σ H1 _ I1 q1) fun u s2 ⟨x, H2, I2, rx, a, ov, ex, g, q2⟩ => ?_
  subst ex
  obtain rfl : u = Value.ref a := rx
  exact d_in hu I2 g ry fun s3 I3 => ⟨.bl ov.isSome, H2, I3, rfl, q2⟩
theorem ps_dput (hu : X.A.units + 1 < cLine) (ho : PE X o td) (hi : PE X i ty) (hv : PE X value tv) (hs : swapsWith value (some (.Subscript o i pos')) pos.line X.env = pure false) :
    PS X (.Assign [.Subscript o i pos'] value pos) (sDPut td ty tv) := by
  intro pins s σ H D I h
  refine wpAny_Assign_Subscript (thn (hv pins s σ H _ I h) fun r s1 ⟨v, H1, I1, rv, q1⟩ => thn (ho pins s1 σ H1 _ I1 q1) fun u s2 ⟨x, H2, I2, rx, q2⟩ => thn (hi pins s2 σ H2 _ I2 q2) fun iv s3 ⟨y, H3, I3, ry, a, H4, ex, g, q3⟩ => ?_) hs
  subst ex
  obtain rfl : u = Value.ref a := rx
  exact d_setItem hu I3 g ry rv fun s4 I4 => ⟨σ, H4, I4, q3⟩
end
theorem dt_empty {P : Program} {w : World} {H : Hp} (h : Heap) (hb : sysModules < h.objs.size) : ObjOk P w H (h.push { cls := .type "dict", data := .dict #[] }) h.objs.size (.dT []) :=
  ⟨Nat.zero_le _, beq_eq_false_iff_ne.mpr (Ne.symm (Nat.ne_of_lt hb)), [], .nil, _, #[], 0, Heap.get?_push_size _ rfl, ⟨rfl, rfl, rfl⟩, rfl, rfl, List.nodup_nil⟩
noncomputable def tDNewT : TE := fun _ H Q => ∀ p, H p = none → Q (.ref p) (upd H p (.dT []))
section
variable {X : Cx} {pos : Pos}
theorem pe_dnewT : PE X (.Dict [] [] pos) tDNewT := fun pins s σ H Q I h =>
  wpAny_Dict_empty ⟨.ref s.heap.objs.size, _, I.laid (a := s.heap.objs.size) (o := .dT []) (t' := s.toks) (fun _ _ q => Heap.get?_push_of_some _ q) (Nat.le_refl _) (dt_empty s.heap I.big), rfl, h _ (I.hok.fresh (Nat.le_refl _))⟩
end
structure M1 (X : Cx) (o : Expr) (m : Str) (apos : Pos) (e : Expr) (cpos : Pos) : Prop where
  base : attributeBase o m X.env (eval o X.env) = eval o X.env
  few : ((backTo cpos (starEach [e] X.env)).all (fun x => !x.1) && (backToKw cpos (keywordEach [] X.env)).all (fun x => x.1.isSome)
    && decide (([e] : List Expr).length + ([] : List Keyword).length + (if ([] : List Keyword).isEmpty then 0 else 1) < 30)) = true
  line : (apos.endLine == cpos.line) = true
  trees : backTo cpos (starEach [e] X.env) = [(false, eval e X.env)]
structure M2 (X : Cx) (o : Expr) (m : Str) (apos : Pos) (e f : Expr) (cpos : Pos) : Prop where
  base : attributeBase o m X.env (eval o X.env) = eval o X.env
  few : ((backTo cpos (starEach [e, f] X.env)).all (fun x => !x.1) && (backToKw cpos (keywordEach [] X.env)).all (fun x => x.1.isSome)
    && decide (([e, f] : List Expr).length + ([] : List Keyword).length + (if ([] : List Keyword).isEmpty then 0 else 1) < 30)) = true
  line : (apos.endLine == cpos.line) = true
  trees : backTo cpos (starEach [e, f] X.env) = [(false, eval e X.env), (false, eval f X.env)]
section
variable {X : Cx} {pins : List (Addr × Obj)} {σ : St} {H : Hp} {s : Shared} {a : Addr} {y d : V} {u r : Value} {o : Option V} {A : Around} {E : Value → Shared → Prop}
end
section
variable {X : Cx} {o e f : Expr} {apos cpos : Pos} {td ty tx : TE}
end
section
variable {X : Cx} {pins : List (Addr × Obj)} {σ : St} {H : Hp} {s : Shared} {a : Addr} {kvs : List (Key × V)} {A : Around} {E : Value → Shared → Prop}
end
section
variable {X : Cx} {pins : List (Addr × Obj)} {σ : St} {H : Hp} {s : Shared} {a : Addr} {y : V} {u : Value} {A : Around} {E : Value → Shared → Prop}
end
end L2
namespace Att
open PySem PySem.W PySem.Calls PyProof.Rows
theorem ints_of_wellAll {P : Params} {h : Heap} : ∀ (ns : List Int) (vs : List Value), WellAll P h vs (ns.map WData.int) → IntsAre vs ns := by
  intro ns
  induction ns with
  | nil =>
    intro vs w
    rw [List.map_nil] at w
    cases w
    exact .nil
  | cons n ns ih =>
    intro vs w
    rw [List.map_cons] at w
    cases w with
    | cons a b =>
      cases a
      exact .cons _ _ (ih _ b)
theorem script_of {l : OpenLaw} {n : Nat} (hn : l.most = some n) {P : Params} {h : Heap} {args : List WData} {vals : List Value}
    (hpre : l.row.toRowW.claim.pre args = true) (hwl : WellAll P h vals args) :
    ∃ a vs ns, vals = [Value.ref a] ∧ args = [WData.list (ns.map WData.int)] ∧ h.get? a = some { cls := .type "list", data := .seq vs.toArray } ∧ IntsAre vs ns ∧ ns.length ≤ n := by
  have hsh : WShape.hasAll [] args [.list .int] = true := (pre_splitW hpre).1
  have hc : l.pre.holds [] { args := args } = true := (pre_splitW hpre).2
  obtain ⟨d, r, rfl, h1, h2⟩ := hasAllW_cons hsh
  obtain rfl := hasAllW_nil h2
  obtain ⟨xs, rfl, h3⟩ := hasW_list h1
  obtain ⟨ns, rfl⟩ := items_int h3
  have hlen : ns.length ≤ n := by
    unfold OpenLaw.pre at hc
    have h4 : (WTm.not (.lt (.lit (.int (n : Int))) (.len (.arg 0)))).holds [] { args := [.list (ns.map .int)] } = true := by
      have h4 := (holds_andW hc).1
      rw [hn] at h4
      exact h4
    have h5 := condW_of h4 (w_not (w_lt w_lit (w_len_list (w_arg rfl))))
    rw [List.length_map] at h5
    refine Nat.le_of_not_lt fun q => ?_
    have q' : (n : Int) < ((ns.length : Nat) : Int) := by (first | lia | omega)
    first
      | (rw [decide_eq_true q'] at h5; exact absurd h5 (by decide))
      | (simp at h5; (first | lia | omega))
  cases hwl with
  | cons w1 w2 =>
    cases w2
    cases w1 with
    | list ho hall => exact ⟨_, _, ns, rfl, rfl, ho, ints_of_wellAll ns _ hall, hlen⟩
theorem post_true (l : OpenLaw) (args : List WData) : l.row.toRowW.claim.post args (.bool true) args = true :=
  postW_of (r := l.row.toRowW) (X := (true == true))
    (show WShape.has [] (.bool true) .bool = true by first | rfl | decide | simp [WShape.has, WShape.arms, WShape.armsAll])
    (show (WTm.eq .res (.lit (.bool true))).value [] { args := args, res := some (.bool true), after := args } = some (.bool (true == true)) from w_eq_bool (w_res rfl) w_lit) rfl
theorem attach_call {l : OpenLaw} {n : Nat} {q : Program} {loose : List Str} {XP : (Str → Option Value) → Heap → Prop} {YP : World → Heap → Prop} {d : DefRec}
    (hn : l.most = some n) (hdf : d.params.defaults = [])
    (call : ∀ (w : World) (s₀ s₁ : Shared) (mg mb : Str → Option Value) (fa : Addr) (o : Obj) (pm cd doc : Value) (a : Addr) (vs : List Value) (ns : List Int),
      Ground q loose [] XP w s₀ mg mb s₁.heap → YP w s₁.heap →
      s₁.heap.get? fa = some o → o.data = .func (docDef d.name d.params d.body d.scope pm cd doc) → s₁.heap.CodeRec cd d.name → mg d.name = some (.ref fa) →
      s₁.heap.get? a = some { cls := .type "list", data := .seq vs.toArray } → IntsAre vs ns → ns.length ≤ n → s₁.gens = #[] →
      codeAny (model l.prog w) callerA (.call (.ref fa) ⟨[.ref a], []⟩) (fun r s' => r = .ok (.ret (.bool true)) ∧ OldK s₁.heap s'.heap ∧ s'.os = s₁.os ∧ AllBare s'.gens) s₁) :
    WalkO q loose XP YP l.row.toRowW d [] (fun f vs => PySem.call f vs) := by
  intro w s₀ s₁ mg mb G Y fa o pm cd doc dV kV ho hd hcd hD hmg hg args vals as hpre hlay hrd hwl hlo
  obtain rfl : dV = .none := Dflts.none hD hdf
  obtain rfl : kV = .none := Dflts.noKw hD
  obtain ⟨a, vs, ns, rfl, rfl, hobj, hints, hlen⟩ := script_of hn hpre hwl
  refine enter_call (codeAny_mono (call w s₀ s₁ mg mb fa o pm cd doc a vs ns G Y ho (fd_plain hd) hcd hmg hobj hints hlen hg) fun r s' hq => ?_)
  obtain ⟨rfl, h2, h3, h4⟩ := hq
  exact ⟨.inl ⟨.bool true, .bool true, [], rfl, fun _ => rfl, .bool true, post_true l _, fun _ => ⟨List.Pairwise.nil, fun _ hm => (nomatch hm)⟩⟩, h2, h3, h4⟩
section
variable {prog : Program} {w : World} {A : Around} {E : Value → Shared → Prop} {s : Shared} {K : Frag}
end
end Att
namespace L2
open PySem PySem.Spec PyProof.Rows
theorem vals_ints : ∀ {vs : List Value} {ns : List Int}, IntsAre vs ns → Vals (ns.map V.int) vs
  | _, _, .nil => .nil
  | _, _, .cons n t h => .cons ⟨t, rfl⟩ (vals_ints h)
noncomputable def Only (H : Hp) : Prop := ∀ b, H b = none ∨ ∃ o xs, H b = some (.frz o (.lst xs))
theorem law_call {P : Program} {w : World} {K : PySem.W.Frag} {mg mb : Str → Option Value} {CX : CXT} {k : Nat} {fa a : Addr} {fd : FuncData} {x : Str} {sp : Sp} {s₁ : Shared} {vs : List Value} {ns : List Int}
    (KX : K.In s₁.heap) (hns : s₁.heap.Ns mainGlobals mg) (hb : s₁.heap.Ns builtinsNs mb) (hbb : ∀ x : Str, x ≠ "__name__" → mb x = bootBuiltins x) (hlim : s₁.heap.NoLimit) (hg : s₁.gens = #[])
    (ha : s₁.heap.get? a = some { cls := .type "list", data := .seq vs.toArray }) (hi : IntsAre vs ns) (hl : ns.length ≤ sizeLine) (hr : Room k callerA)
    (F : ∀ base : Heap, K.In base → base.Ns mainGlobals mg → FnOk P w K mg base CX k fa fd [x] sp) (hbind : ∀ (s : Shared) (u : Value), BindsTo s fd ⟨[u], []⟩ [(x, u)])
    (hsp : ∀ H : Hp, Only H → SqL K H a (ns.map V.int) → sp [.ref a] H (fun v _ => v = .bl true) fun _ _ _ => False)
    (hCX : ∀ H e s', CX [] H s₁ (fun _ _ _ => False) e s' → False) :
    codeAny (model P w) callerA (.call (.ref fa) ⟨[.ref a], []⟩) (fun r s' => r = .ok (.ret (.bool true)) ∧ OldK s₁.heap s'.heap ∧ s'.os = s₁.os ∧ AllBare s'.gens) s₁ := by
  have rv := vals_ints hi
  have lenV := hi.length
  -- from an abstract heap in which nothing but the script may be tracked
  have core : ∀ H : Hp, Only H → SqL K H a (ns.map V.int) → HOk P w H s₁.heap → (∀ b, H b ≠ none → b = a) → (H a ≠ none → K.lookup a = none) →
      codeAny (model P w) callerA (.call (.ref fa) ⟨[.ref a], []⟩) (fun r s' => r = .ok (.ret (.bool true)) ∧ OldK s₁.heap s'.heap ∧ s'.os = s₁.os ∧ AllBare s'.gens) s₁ := by
    intro H hO hS hok hA hK
    have base_of : ∀ {b : Addr} {o : Obj}, s₁.heap.get? b = some o → H b = none → (hidT s₁.heap H).get? b = some o := fun e n => hidT_get e n
    have noA : ∀ {b : Addr} {o : Obj} {es : Array DictEntry} {ep : Nat}, s₁.heap.get? b = some o → o.data = .dict es ep → H b = none := fun {b o es ep} e d => by
      cases q : H b with
      | none => rfl
      | some u =>
        have e' : b = a := hA b (by rw [q]; simp)
        subst e'
        rw [ha] at e; cases e
        have d' : Data.seq vs.toArray _ = Data.dict es ep := d
        cases d'
    have nsK : ∀ {b : Addr} {m : Str → Option Value}, s₁.heap.Ns b m → (hidT s₁.heap H).Ns b m := fun {b m} ⟨o, es, ep, e, d, r⟩ => ⟨o, es, ep, base_of e (noA e d), d, r⟩
    have hKb : K.In (hidT s₁.heap H) := fun b o e => base_of (KX b o e) (by
      cases q : H b with
      | none => rfl
      | some u =>
        have e' : b = a := hA b (by rw [q]; simp)
        subst e'
        rw [hK (by rw [q]; simp)] at e; cases e)
    have hM : Mod K mg (hidT s₁.heap H) := ⟨hKb, nsK hns, ⟨mb, nsK hb, hbb⟩, let ⟨mc, h1, h2⟩ := hlim; ⟨mc, nsK h1, h2⟩⟩
    have e0 : Env0 P w K mg (hidT s₁.heap H) callerA [] s₁ H := ⟨rfl, hM, fun b o e => of_hidT e, Nat.le_of_eq (hidT_size _ _), trivial, fun b hb => absurd (show b ∈ ([] : List Addr) from hb) (by simp), hok, .of_eq hg⟩
    refine codeAny_mono ((F _ hKb (nsK hns)).run callerA [] s₁ H ⟨[.ref a], []⟩ [.ref a] [.ref a] _ _ hr e0 (hbind s₁ (.ref a)) (.cons rfl .nil) (hsp H hO hS)) fun r s' h => ?_
    cases r with
    | error e => exact (hCX H e s' h).elim
    | ok fl =>
      cases fl with
      | next => exact False.elim h
      | brk => exact False.elim h
      | cont => exact False.elim h
      | ret u =>
        obtain ⟨v, H', os, bare, un, hok', r', q⟩ := h
        have q' : v = .bl true := q
        subst q'
        obtain rfl : u = Value.bool true := r'
        refine ⟨rfl, OldK.of_keep fun b o e => ?_, os, bare⟩
        cases q : H b with
        | none => exact un.keep b o e q (by intro z; exact absurd (show b ∈ ([] : List Addr) from z) (by simp)) (by simp)
        | some u =>
          rcases hO b with z | ⟨ob, xs, z⟩
          · rw [q] at z; cases z
          · have z2 := un.frzs b ob _ z
            obtain ⟨e1, _⟩ := hok b _ z
            obtain ⟨e2, _⟩ := hok' b _ z2
            rw [e] at e1; cases e1
            exact e2
  cases hk : K.lookup a with
  | some o =>
    -- the script is one of the module's own objects
    have e := KX a o hk
    rw [ha] at e
    cases e
    refine core (fun _ => none) (fun _ => .inl rfl) (.inr ⟨_, vs.toArray, _, hk, rfl, rfl, rfl, by rw [List.size_toArray, lenV]; exact hl, by simpa using rv⟩) (fun b u z => by have z' : (none : Option HO) = some u := z; cases z') (fun b z => absurd rfl z) fun z => absurd rfl z
  | none =>
    refine core (fun b => if b = a then some (.frz { cls := .type "list", data := .seq vs.toArray } (.lst (ns.map V.int))) else none) (fun b => ?_) (.inl (.inr ⟨{ cls := .type "list", data := .seq vs.toArray }, if_pos rfl⟩)) (fun b u z => ?_) (fun b z => ?_) fun _ => hk
    · by_cases hb : b = a
      · exact .inr ⟨_, _, if_pos hb⟩
      · exact .inl (if_neg hb)
    · by_cases hb : b = a
      · have z' := (if_pos hb).symm.trans z
        cases z'
        subst hb
        exact ⟨ha, by rw [List.length_map]; exact hl, vs, _, rv, ha⟩
      · have z' := (if_neg hb).symm.trans z
        cases z'
    · by_cases hb : b = a
      · exact hb
      · exact absurd (if_neg hb) z
end L2
namespace L2
open PySem PySem.Spec PyProof.Rows
theorem walk_of {l : PySem.W.OpenLaw} {n k : Nat} {q : Program} {loose : List Str} {XP : (Str → Option Value) → Heap → Prop} {YP : World → Heap → Prop} {d : DefRec} {K : Params → PySem.W.Frag} {CX : World → CXT} {sp : World → Sp} {x : Str}
    (hn : l.most = some n) (hn2 : n ≤ sizeLine) (hdf : d.params.defaults = []) (hr : Room k callerA)
    (hY : ∀ (w : World) (h : Heap), YP w h → (K w.params).In h)
    (F : ∀ (w : World) (mg : Str → Option Value) (fa : Addr) (h : Heap), (K w.params).In h → h.Ns mainGlobals mg → mg d.name = some (.ref fa) →
      ∃ fd : FuncData, (∀ (s : Shared) (u : Value), BindsTo s fd ⟨[u], []⟩ [(x, u)]) ∧
        ∀ base : Heap, (K w.params).In base → base.Ns mainGlobals mg → FnOk l.prog w (K w.params) mg base (CX w) k fa fd [x] (sp w))
    (hsp : ∀ (w : World) (H : Hp) (a : Addr) (ns : List Int), ns.length ≤ n → Only H → SqL (K w.params) H a (ns.map V.int) → sp w [.ref a] H (fun v _ => v = .bl true) fun _ _ _ => False)
    (hCX : ∀ (w : World) (H : Hp) (s : Shared) (e : Value) (s' : Shared), CX w [] H s (fun _ _ _ => False) e s' → False) :
    PySem.W.WalkO q loose XP YP l.row.toRowW d [] (fun f vs => PySem.call f vs) := by
  refine Att.attach_call hn hdf fun w s₀ s₁ mg mb fa o pm cd doc a vs ns G Y ho hd hcd hmg hobj hints hlen hg => ?_
  have KX := hY w _ Y
  obtain ⟨fd, hb, hF⟩ := F w mg fa _ KX G.T.g hmg
  exact law_call KX G.T.g G.T.b G.T.builtins G.T.nolimit hg hobj hints (Nat.le_trans hlen hn2) hr hF hb (fun H hO hS => hsp w H a ns hlen hO hS) fun H e s' => hCX w H s₁ e s'
end L2
namespace L2
open PySem PySem.Spec PyProof.Rows
noncomputable def defArgs (s : Stmt) : Arguments := match s with
  | .FunctionDef _ a _ _ _ _ _ _ _ _ => a
  | _ => { posonlyargs := [], args := [], vararg := none, kwonlyargs := [], kw_defaults := [], kwarg := none, defaults := [] }
noncomputable def defBody (s : Stmt) : List Stmt := match s with
  | .FunctionDef _ _ b _ _ _ _ _ _ _ => b
  | _ => []
noncomputable def defScope (s : Stmt) : Scope := match s with
  | .FunctionDef _ _ _ _ _ _ sc _ _ _ => sc
  | _ => { kind := .function, names := [], isGenerator := false, isCoroutine := false }
noncomputable abbrev CX0 : CXT := fun _ _ _ _ _ _ => False
noncomputable abbrev E0 : XK := fun _ _ _ => False
theorem pass0 {X : Cx} : Passes CX0 X E0 := fun _ _ _ _ _ _ _ h => h.elim
structure Fun (K : PySem.W.Frag) (x qual : Str) (st : Stmt) (f : Addr) (fd : FuncData) : Prop where
  ex : ∃ (oc : Value) (od : Option Addr) (kV doc pm : Value) (an : Option Addr) (cdv ct : Value) (osl : Array (Option Value)),
    fd = PySem.W.fnOf x qual (defArgs st) (defBody st) (defScope st) .none kV doc pm an cdv ct ∧ K.lookup f = some ⟨oc, od, .func fd, osl⟩ ∧ PySem.W.codeIn K cdv qual = true
  kp : PySem.W.keepIn K (.ref f) = true
section
variable {P : Program} {w : World} {K : PySem.W.Frag} {mg : Str → Option Value} {base : Heap}
theorem Fun.ok {x qual : Str} {st : Stmt} {f : Addr} {fd : FuncData} {N ps : List Str} {k : Nat} {sp : Sp} (F : Fun K x qual st f fd) (S : FnScope N ps (defScope st)) (len : ∀ vs H Q E, sp vs H Q E → vs.length = ps.length)
    (hbody : ∀ (cdv : Value) (A : Around) (outer : List Env) (s : Shared) (H : Hp) (vs : List V) (Q : VK) (E : XK), Room k (A.deeper (envOfC qual (defScope st) s.heap.objs.size f cdv)) → sp vs H Q E →
      ∃ t, PSs (cxOf CX0 P w K mg base N qual (defScope st) f cdv A outer s H E).nox (defBody st) t ∧ t { nx := fun _ H' => Q .non H', rt := Q } (start N vs) H) : FnOk P w K mg base CX0 (k + 1) f fd ps sp := by
  obtain ⟨oc, od, kV, doc, pm, an, cdv, ct, osl, rfl, lk, hcd⟩ := F.ex
  refine fn_of lk hcd S len fun A outer s H vs Q E hr hsp => ?_
  obtain ⟨t, h, q⟩ := hbody cdv A outer s H vs Q E hr hsp
  exact ⟨t, h.nox, q⟩
theorem Fun.binds {x qual : Str} {st : Stmt} {f : Addr} {fd : FuncData} {ps : List Str} (F : Fun K x qual st f fd)
    (h : ∀ (kV doc pm : Value) (an : Option Addr) (cdv ct : Value) (us : List Value), us.length = ps.length → bindArgs (PySem.W.fnOf x qual (defArgs st) (defBody st) (defScope st) .none kV doc pm an cdv ct) ⟨us, []⟩ = pure (ps.zip us)) : Binds K fd ps [] := by
  obtain ⟨oc, od, kV, doc, pm, an, cdv, ct, osl, rfl, lk, hcd⟩ := F.ex
  exact .all (h kV doc pm an cdv ct)
theorem fun_mk {x qual : Str} {st : Stmt} {f : Addr} {oc : Value} {od an : Option Addr} {osl : Array (Option Value)} {kV doc pm cdv ct : Value} (l : K.lookup f = some ⟨oc, od, .func (PySem.W.fnOf x qual (defArgs st) (defBody st) (defScope st) .none kV doc pm an cdv ct), osl⟩)
    (c : PySem.W.codeIn K cdv qual = true) (k : PySem.W.keepIn K (.ref f) = true) : Fun K x qual st f (PySem.W.fnOf x qual (defArgs st) (defBody st) (defScope st) .none kV doc pm an cdv ct) := ⟨⟨oc, od, kV, doc, pm, an, cdv, ct, osl, rfl, l, c⟩, k⟩
end
theorem hu_of {A : Around} {k : Nat} (hr : Room k A) : A.units + 1 < cLine := Nat.lt_of_le_of_lt (Nat.add_le_add_left (by decide : 1 ≤ 64) _) hr.units
theorem small1000 {n : Nat} (h : n ≤ 1000) : n < sizeLine := Nat.lt_of_le_of_lt h (by decide)
section
variable {X : Cx}
theorem pv (i : Nat) {x : Str} {pos : Pos} (hN : X.N[i]? = some x := by rfl) (hv : Vis X.env.scope x := by first | exact Or.inl rfl | exact Or.inr (Or.inl rfl) | exact Or.inr (Or.inr rfl)) (hd : (x == ("__debug__" : Str)) = false := by decide)
    (hcd : (x == ("__classdict__" : Str)) = false := by decide) : PE X (.Name x pos) (tVar i) := pe_var hN hv hd hcd
end
theorem iteF {A B : Prop} (h : B) : if false = true then A else B := by
  rw [if_neg Bool.false_ne_true]
  exact h
theorem iteT {A B : Prop} (h : A) : if true = true then A else B := by
  rw [if_pos rfl]
  exact h
theorem ite2 {c A B : Prop} [Decidable c] (h1 : c → A) (h2 : ¬ c → B) : if c then A else B := by
  by_cases h : c
  · rw [if_pos h]
    exact h1 h
  · rw [if_neg h]
    exact h2 h
theorem iteNS {c A B : Prop} [Decidable c] (hc : c) (h : B) : if (!decide c) = true then A else B := by
  rw [decide_eq_true hc]
  exact iteF h
noncomputable def Same (H H' : Hp) : Prop := ∀ b o, H b = some o → H' b = some o
theorem Same.refl (H : Hp) : Same H H := fun _ _ h => h
theorem Same.trans {H H1 H2 : Hp} (a : Same H H1) (b : Same H1 H2) : Same H H2 := fun c o h => b c o (a c o h)
theorem Same.free {H H' : Hp} (e : Same H H') {l : Addr} (h : H' l = Option.none) : H l = Option.none := by
  cases q : H l with
  | none => rfl
  | some o =>
    rw [e l o q] at h
    cases h
theorem Same.seq {K : PySem.W.Frag} {H H' : Hp} {a : Addr} {xs : List V} (e : Same H H') (h : SqL K H a xs) : SqL K H' a xs := by
  rcases h with (h | ⟨o, h⟩) | h
  · exact .inl (.inl (e _ _ h))
  · exact .inl (.inr ⟨o, e _ _ h⟩)
  · exact .inr h
section
variable {κ : Type} [DecidableEq κ]
end
end L2
set_option maxHeartbeats 4000000
namespace L2
open PySem PySem.Spec PyProof.Rows
section
variable {prog : Program} {w : World} {A : Around} {R : Result → Shared → Prop} {s : Shared}
theorem compLoop_own {elt target iter : Expr} {ifs : List Expr} {scope : Scope} {pos : Pos} {it acc : Value} {env : Env} (I : Nat → Shared → Prop)
    (turn : ∀ n s, I n s → wpAny (model prog w) A (pyNext it) (fun r s₁ => match r with
      | none => R (.ok .next) s₁
      | some v => wpAny (model prog w) A (letOwnedTupleGo target it v) (fun _ s₁' => wpAny (model prog w) A (assign target env v) (fun _ s₂ =>
          wpAny (model prog w) A (forIn ifs true fun c r => if r = true then do let ok ← isTrue c env (eval c env); pure (ForInStep.yield ok) else pure (ForInStep.yield r)) (fun ok s₃ =>
            if ok = true then wpAny (model prog w) A (eval elt env) (fun x s₄ =>
              wpAny (model prog w) A (call (.builtin "list.append") [acc, x]) (fun _ s₅ => ∃ m, m < n ∧ I m s₅) (fun _ _ => False) s₄) (fun _ _ => False) s₃
            else ∃ m, m < n ∧ I m s₃) (fun _ _ => False) s₂) (fun _ _ => False) s₁') (fun _ _ => False) s₁) (fun _ _ => False) s)
    (n : Nat) (h : I n s) :
    codeAny (model prog w) A (.compLoop (.ListComp elt [⟨target, iter, ifs, 0⟩] scope pos) 0 it acc env) R s := by
  refine codeAny_loop rfl I (fun n s hI => ?_) n h
  show wpAny _ A ((compTurn (.ListComp elt [⟨target, iter, ifs, 0⟩] scope pos) 0 it acc env).onRaise (fun x => do noteFrame x env; theTreesLotGoes x)) _ _ s
  refine wpAny_noted ?_
  rw [compTurn_list]
  refine wpAny_bind (wpAny_standAt (wpAny_bind (wpAny_mono (turn n s hI) (fun r s₁ h₁ => ?_) fun _ _ h' => h'.elim)))
  cases r with
  | none => exact wpAny_pure h₁
  | some v =>
    refine wpAny_bind (wpAny_mono h₁ (fun _ s₁' h₁' => ?_) fun _ _ h' => h'.elim)
    refine wpAny_bind (wpAny_mono h₁' (fun _ s₂ h₂ => wpAny_bind (wpAny_mono h₂ (fun ok s₃ h₃ => ?_) fun _ _ h' => h'.elim)) fun _ _ h' => h'.elim)
    cases ok with
    | false => exact wpAny_pure ⟨rfl, h₃⟩
    | true =>
      exact wpAny_bind (wpAny_bind (wpAny_mono h₃ (fun x s₄ h₄ => wpAny_bind (wpAny_mono h₄ (fun _ s₅ h₅ => wpAny_pure (wpAny_pure ⟨rfl, h₅⟩)) fun _ _ h' => h'.elim)) fun _ _ h' => h'.elim))
end
theorem forIn_yields {α β : Type} {f : α → β → Sem (ForInStep β)} (g : β → α → β) : ∀ (l : List α) (c : β), (∀ x ∈ l, ∀ c, f x c = pure (.yield (g c x))) → forIn l c f = pure (l.foldl g c)
  | [], _, _ => rfl
  | x :: l, c, h => by
    rw [List.forIn_cons, h x List.mem_cons_self, pure_bind]
    exact forIn_yields g l (g c x) fun y hy => h y (List.mem_cons_of_mem _ hy)
noncomputable def clAdd (env : Env) (cs : List (Str × Addr)) (y : Str × NameKind) : List (Str × Addr) := if (y.2 == NameKind.free) = true then (y.1, (env.cells.lookup y.1).getD 0) :: cs else cs
noncomputable def clOf (scope : Scope) (env : Env) : List (Str × Addr) := scope.names.foldl (clAdd env) []
noncomputable def HasFree (scope : Scope) (env : Env) : Prop := ∀ y ∈ scope.names, y.2 = .free → ∃ c, env.cells.lookup y.1 = some c
theorem closure_ok {scope : Scope} {env : Env} (h : HasFree scope env) : closureFor scope env = pure (clOf scope env) := by
  simp only [closureFor]
  rw [forIn_yields (clAdd env) scope.names [] (fun x hx c => by
    obtain ⟨n, k⟩ := x
    by_cases hk : (k == NameKind.free) = true
    · obtain ⟨a, ha⟩ := h (n, k) hx (by simpa using hk)
      have ha' : env.cells.lookup n = some a := ha
      unfold clAdd cellOf
      simp only [hk, if_true, ha', Option.getD_some, pure_bind]
    · unfold clAdd
      have hk' : (k == NameKind.free) = false := by simpa using hk
      simp only [hk', Bool.false_eq_true, if_false])]
  rfl
theorem clFold_mem {env : Env} : ∀ (l : List (Str × NameKind)) (cs : List (Str × Addr)) (p : Str × Addr), (∀ y ∈ l, y.2 = .free → ∃ c, env.cells.lookup y.1 = some c) → (∀ q ∈ cs, env.cells.lookup q.1 = some q.2) → p ∈ l.foldl (clAdd env) cs → env.cells.lookup p.1 = some p.2
  | [], cs, p, _, hc, hp => hc p hp
  | y :: l, cs, p, h, hc, hp => by
    refine clFold_mem l (clAdd env cs y) p (fun z hz => h z (List.mem_cons_of_mem _ hz)) (fun q hq => ?_) hp
    unfold clAdd at hq
    by_cases hk : (y.2 == NameKind.free) = true
    · rw [if_pos hk] at hq
      rcases List.mem_cons.mp hq with e | hq
      · obtain ⟨c, hcc⟩ := h y List.mem_cons_self (by simpa using hk)
        subst e
        show env.cells.lookup y.1 = some ((env.cells.lookup y.1).getD 0)
        rw [hcc]; rfl
      · exact hc q hq
    · rw [if_neg hk] at hq
      exact hc q hq
theorem clFold_has {env : Env} {n : Str} : ∀ (l : List (Str × NameKind)) (cs : List (Str × Addr)), ((n, NameKind.free) ∈ l ∨ ∃ c, (n, c) ∈ cs) → ∃ c, (n, c) ∈ l.foldl (clAdd env) cs
  | [], cs, h => by
    rcases h with h | h
    · cases h
    · exact h
  | y :: l, cs, h => by
    refine clFold_has l (clAdd env cs y) ?_
    unfold clAdd
    rcases h with h | ⟨c, h⟩
    · rcases List.mem_cons.mp h with e | h
      · subst e
        exact .inr ⟨(env.cells.lookup n).getD 0, show (n, (env.cells.lookup n).getD 0) ∈ (n, (env.cells.lookup n).getD 0) :: cs from List.mem_cons_self⟩
      · exact .inl h
    · refine .inr ⟨c, ?_⟩
      split
      · exact List.mem_cons_of_mem _ h
      · exact h
theorem lookup_of_mem {β : Type} {n : Str} : ∀ {l : List (Str × β)}, (∃ c, (n, c) ∈ l) → ∃ c, l.lookup n = some c
  | [], ⟨_, h⟩ => by cases h
  | (m, d) :: l, ⟨c, h⟩ => by
    rw [List.lookup_cons]
    cases e : n == m with
    | true => exact ⟨d, rfl⟩
    | false =>
      rcases List.mem_cons.mp h with z | z
      · cases z; simp at e
      · exact lookup_of_mem ⟨c, z⟩
theorem clOf_sub {scope : Scope} {env : Env} (h : HasFree scope env) {n : Str} {c : Addr} (e : (clOf scope env).lookup n = some c) : env.cells.lookup n = some c :=
  clFold_mem scope.names [] (n, c) h (fun _ hq => by cases hq) (PySem.mem_of_lookup e)
theorem clOf_has {scope : Scope} {env : Env} {n : Str} (h : scope.names.lookup n = some .free) : ∃ c, (clOf scope env).lookup n = some c :=
  lookup_of_mem (clFold_has scope.names [] (.inl (PySem.mem_of_lookup h)))
theorem relabel_kind {env : Env} : ∀ {names : List (Str × NameKind)} {x : Str} {k : NameKind},
    (names.map fun (n, k) => if (k == NameKind.free && env.scope.kind == .function && env.kindOf n == some .cell) then (n, NameKind.cell) else (n, k)).lookup x = some k →
    names.lookup x = some k ∨ (names.lookup x = some .free ∧ k = .cell)
  | [], _, _, h => by simp at h
  | (n, j) :: r, x, k, h => by
    have ih := @relabel_kind env r x k
    rw [List.map_cons] at h
    cases hx : x == n with
    | true =>
      rw [List.lookup_cons, hx]
      by_cases hc : (j == NameKind.free && env.scope.kind == .function && env.kindOf n == some .cell) = true
      · simp only [hc, if_true, List.lookup_cons, hx] at h
        have hj : j = NameKind.free := by
          rw [Bool.and_eq_true, Bool.and_eq_true] at hc
          simpa using hc.1.1
        exact .inr ⟨by rw [hj], (Option.some.inj h).symm⟩
      · have hc' := Bool.eq_false_iff.mpr hc
        simp only [hc', Bool.false_eq_true, if_false, List.lookup_cons, hx] at h
        exact .inl h
    | false =>
      rw [List.lookup_cons, hx]
      by_cases hc : (j == NameKind.free && env.scope.kind == .function && env.kindOf n == some .cell) = true
      · simp only [hc, if_true, List.lookup_cons, hx] at h
        exact ih h
      · have hc' := Bool.eq_false_iff.mpr hc
        simp only [hc', Bool.false_eq_true, if_false, List.lookup_cons, hx] at h
        exact ih h
theorem relabel_free {env : Env} : ∀ {names : List (Str × NameKind)} {x : Str}, names.lookup x = some .free →
    (names.map fun (n, k) => if (k == NameKind.free && env.scope.kind == .function && env.kindOf n == some .cell) then (n, NameKind.cell) else (n, k)).lookup x = some .free ∨
    (names.map fun (n, k) => if (k == NameKind.free && env.scope.kind == .function && env.kindOf n == some .cell) then (n, NameKind.cell) else (n, k)).lookup x = some .cell
  | [], _, h => by simp at h
  | (n, j) :: r, x, h => by
    have ih := @relabel_free env r x
    rw [List.map_cons]
    cases hx : x == n with
    | true =>
      rw [List.lookup_cons, hx] at h
      have hj : j = NameKind.free := Option.some.inj h
      subst hj
      by_cases hc : (NameKind.free == NameKind.free && env.scope.kind == .function && env.kindOf n == some .cell) = true
      · simp only [hc, if_true, List.lookup_cons, hx]
        exact .inr trivial
      · have hc' := Bool.eq_false_iff.mpr hc
        simp only [hc', Bool.false_eq_true, if_false, List.lookup_cons, hx]
        exact .inl trivial
    | false =>
      rw [List.lookup_cons, hx] at h
      by_cases hc : (j == NameKind.free && env.scope.kind == .function && env.kindOf n == some .cell) = true
      · simp only [hc, if_true, List.lookup_cons, hx]
        exact ih h
      · have hc' := Bool.eq_false_iff.mpr hc
        simp only [hc', Bool.false_eq_true, if_false, List.lookup_cons, hx]
        exact ih h
noncomputable def cxC (X : Cx) (scope : Scope) (C : Addr) (N : List Str) (s0 : Shared) (H0 : Hp) (ex : List Addr) : Cx :=
  { X with N := N, s₀ := s0, H₀ := H0, env := compEnvC scope (clOf scope X.env) C X.env, outer := X.stack, stack := X.stack, ex := ex, fn := fun _ => false, pn := [], xe := fun _ _ => False }
noncomputable def sgC (n : Nat) (fs : List (Nat × Str)) (σ : St) : St := List.replicate n none ++ fs.map fun p => (σ[p.1]?).join
noncomputable def FsOk (N : List Str) (scope : Scope) : List (Nat × Str) → Prop
  | [] => True
  | (j, x) :: r => N[j]? = some x ∧ scope.names.lookup x = some .free ∧ FsOk N scope r
theorem FsOk.mem {N : List Str} {scope : Scope} : ∀ {fs : List (Nat × Str)}, FsOk N scope fs → ∀ p ∈ fs, N[p.1]? = some p.2 ∧ scope.names.lookup p.2 = some .free
  | [], _, _, h => by cases h
  | (j, x) :: r, ⟨h1, h2, h3⟩, p, hp => by
    rcases List.mem_cons.mp hp with e | hp
    · subst e; exact ⟨h1, h2⟩
    · exact FsOk.mem h3 p hp
structure CScope (X : Cx) (scope : Scope) (ts : List Str) (fs : List (Nat × Str)) : Prop where
  kind : scope.kind = .function
  nocell : ∀ y ∈ scope.names, y.2 ≠ .cell
  locs : ∀ y ∈ scope.names, y.2 = .local → scope.names.lookup y.1 = some .local
  frees : ∀ y ∈ scope.names, y.2 = .free → X.env.kindOf y.1 = some .cell ∨ X.env.kindOf y.1 = some .free
  fs : FsOk X.N scope fs
section
variable {X : Cx} {scope : Scope} {ts : List Str} {fs : List (Nat × Str)} {pins : List (Addr × Obj)} {σ : St} {H : Hp} {s : Shared}
theorem CScope.has (S : CScope X scope ts fs) (ok : X.Ok) : HasFree scope X.env := fun y hy hk => ok.has y.1 (S.frees y hy hk)
theorem fp_stack (I : Inv X pins σ H s) {b : Addr} (f : FpOk X pins H b) : b ∉ frs X.stack := fun z =>
  (List.mem_cons.mp (I.stkSub b z)).elim f.2.1 f.2.2.1
theorem ok_comp (S : CScope X scope ts fs) (I : Inv X pins σ H s) {fp : List Addr} (hf : ∀ b ∈ fp, FpOk X pins H b) (ho : ∀ b ∈ fp, b < s.heap.objs.size) {C : Addr} (hC : s.heap.objs.size ≤ C) (N : List Str) : (cxC X scope C N s H fp).Ok where
  mod := I.ok.mod
  kind := S.kind
  glob := I.ok.glob
  blt := I.ok.blt
  above := hC
  inj := fun x y c h1 h2 => I.ok.inj x y c (clOf_sub (S.has I.ok) h1) (clOf_sub (S.has I.ok) h2)
  has := fun x hx => by
    have hx' : (relabel scope X.env).names.lookup x = some .cell ∨ (relabel scope X.env).names.lookup x = some .free := hx
    rcases hx' with h | h
    · rcases relabel_kind h with h | ⟨h, _⟩
      · exact absurd rfl (S.nocell _ (PySem.mem_of_lookup h))
      · exact clOf_has h
    · rcases relabel_kind h with h | ⟨h, _⟩
      · exact clOf_has h
      · exact clOf_has h
  cab := fun x c h => absurd (show false = true from h) Bool.false_ne_true
  hd := I.ok.hd
  frames := I.ok.frames
  stk := .inl rfl
  exf := fun b hb => ⟨Nat.ne_of_lt (Nat.lt_of_lt_of_le (ho b hb) hC), fun x c e => (hf b hb).2.2.2.2.1 x c (clOf_sub (S.has I.ok) e)⟩
  bs := I.bs
  bsz := Nat.le_trans I.ok.bsz I.sz
  noex := fun b o e hb => by
    rcases (hf b hb).2.2.2.1 with z | z
    · exact I.ok.noex b o e z
    · exact absurd (Nat.lt_of_lt_of_le (Heap.lt_size e) (Nat.le_trans I.ok.bsz z)) (Nat.lt_irrefl _)
  exfs := fun b hb => fp_stack I (hf b hb)
  funs := I.stack
  frf := I.stkFree
theorem sgC_get {n : Nat} {σ : St} {i : Nat} {v : V} (h : (sgC n fs σ)[i]? = some (some v)) : n ≤ i ∧ ∃ p, fs[i - n]? = some p ∧ σ[p.1]? = some (some v) := by
  unfold sgC at h
  by_cases hi : i < n
  · rw [List.getElem?_append_left (by simpa using hi), List.getElem?_replicate, if_pos hi] at h
    cases h
  · have hi' : n ≤ i := Nat.le_of_not_lt hi
    rw [List.getElem?_append_right (by simpa using hi'), List.length_replicate, List.getElem?_map] at h
    refine ⟨hi', ?_⟩
    cases e : fs[i - n]? with
    | none => rw [e] at h; cases h
    | some p =>
      rw [e] at h
      refine ⟨p, rfl, ?_⟩
      have h' : (σ[p.1]?).join = some v := Option.some.inj h
      cases q : σ[p.1]? with
      | none => rw [q] at h'; cases h'
      | some z => rw [q] at h'; exact congrArg some h'
theorem inv_comp (S : CScope X scope ts fs) (I : Inv X pins σ H s) {fp : List Addr} (hf : ∀ b ∈ fp, FpOk X pins H b) (ho : ∀ b ∈ fp, b < s.heap.objs.size) {h₁ : Heap} {tk : Nat} {m : Str → Option Value}
    (hn : h₁.Ns s.heap.objs.size m) (k : ∀ b o, s.heap.get? b = some o → h₁.get? b = some o) :
    Inv (cxC X scope s.heap.objs.size (ts ++ fs.map (·.2)) s H fp) [] (sgC ts.length fs σ) H { s with heap := h₁, toks := tk } := by
  have hh := S.has I.ok
  refine ⟨ok_comp S I hf ho (Nat.le_refl _) _, rfl, I.bare, Un.kept k, ⟨m, hn, fun i x v h1 h2 h3 => ?_⟩, fun x c e => ?_, I.hok.fresh (Nat.le_refl _), fun x c e => ?_, fun p hp => absurd (show p ∈ ([] : List (Addr × Obj)) from hp) (by simp), I.hok.kept k, ?_⟩
  · obtain ⟨hi, p, hp, hv⟩ := sgC_get h2
    have h1' : (ts ++ fs.map (·.2))[i]? = some x := h1
    rw [List.getElem?_append_right hi, List.getElem?_map, hp] at h1'
    have hx : p.2 = x := Option.some.inj h1'
    obtain ⟨hN, hl⟩ := S.fs.mem p (List.mem_of_getElem? hp)
    rw [hx] at hN hl
    have hk : X.env.kindOf x = some .cell ∨ X.env.kindOf x = some .free := S.frees (x, .free) (PySem.mem_of_lookup hl) rfl
    obtain ⟨m0, _, hm0⟩ := I.loc
    obtain ⟨u, r, l⟩ := hm0 p.1 x v hN hv (.inr hk)
    refine ⟨u, r, ?_⟩
    rcases l with ⟨z, _⟩ | ⟨_, c, hc, hcell⟩
    · rcases hk with hk | hk <;> · rw [hk] at z; cases z
    · refine .inr ⟨(relabel_free hl).symm, c, ?_, ?_⟩
      · obtain ⟨c', hc'⟩ := clOf_has (env := X.env) hl
        have e := clOf_sub hh hc'
        rw [hc] at e
        cases e
        exact hc'
      · obtain ⟨o, ho, hd⟩ := hcell
        exact ⟨o, k _ _ ho, hd⟩
  · obtain ⟨v, o, ho, hd⟩ := I.cell x c (clOf_sub hh e)
    exact ⟨v, o, k _ _ ho, hd⟩
  · exact I.freeC x c (clOf_sub hh e)
  · show (sgC ts.length fs σ).length = (ts ++ fs.map (·.2)).length
    unfold sgC
    rw [List.length_append, List.length_append, List.length_replicate, List.length_map, List.length_map]
end
end L2
namespace L2
open PySem PySem.Spec PyProof.Rows
noncomputable def Wk (n : Nat) (σ σ2 : St) : Prop := σ2.length = σ.length ∧ σ2.drop n = σ.drop n
noncomputable def CompW (n : Nat) (fs : List (Nat × Str)) (J : It) (g : TG) (tc : TT) (te : TE) (σ : St) (H1 : Hp) (Q : VK) (l : Addr) : Prop :=
  ∃ W : Nat → Nat → List V → Hp → Prop, (∃ m, W 0 m [] (upd H1 l (.lst []))) ∧ ∀ i m acc H, W i m acc H → H l = some (.lst acc) ∧
    ((J.stop i H ∧ Q (.ref l) H) ∨ (acc.length < sizeLine ∧ J.go i H ∧ ∀ x H', J.yld i H x H' → g x (sgC n fs σ) H' fun σ2 H2 => Wk n (sgC n fs σ) σ2 ∧ tc σ2 H2 fun b H3 =>
      if b = true then te σ2 H3 fun y H4 => H4 l = some (.lst acc) ∧ ∃ m', m' < m ∧ W (i + 1) m' (acc ++ [y]) (upd H4 l (.lst (acc ++ [y]))) else ∃ m', m' < m ∧ W (i + 1) m' acc H3))
noncomputable def tComp (n : Nat) (fs : List (Nat × Str)) (wi : TI) (g : TG) (tc : TT) (te : TE) : TE := fun σ H Q => wi σ H fun J H1 => ∀ l, H1 l = none → CompW n fs J g tc te σ H1 Q l
noncomputable def PTs (X : Cx) (ifs : List Expr) (t : TT) : Prop :=
  ∀ (pins : List (Addr × Obj)) (s : Shared) (σ : St) (H : Hp) (Q : Bool → Hp → Prop), Inv X pins σ H s → t σ H Q →
    wpAny (model X.prog X.w) X.A (forIn ifs true fun c r => if r = true then do let ok ← isTrue c X.env (eval c X.env); pure (ForInStep.yield ok) else pure (ForInStep.yield r)) (TP X pins σ Q) X.xe s
noncomputable def tYes : TT := fun _ H Q => Q true H
theorem pts_nil {X : Cx} : PTs X [] tYes := fun _ _ _ H _ I h => wpAny_tests_nil ⟨H, I, h⟩
theorem pts_one {X : Cx} {c : Expr} {t : TT} (h : PT X c t) : PTs X [c] t := fun pins s σ H Q I hw => wpAny_tests_one (h pins s σ H Q I hw)
section
variable {X : Cx} {scope : Scope} {ts : List Str} {fs : List (Nat × Str)} {pins : List (Addr × Obj)} {σ : St} {elt target iter : Expr} {ifs : List Expr} {pos : Pos} {g : TG} {tc : TT} {te : TE} {wi : TI}
theorem wk_weak {X' : Cx} {pins : List (Addr × Obj)} {n : Nat} {σ σ2 : St} {H : Hp} {s : Shared} (I : Inv X' pins σ2 H s) (w : Wk n (sgC n fs σ) σ2) : Inv X' pins (sgC n fs σ) H s := by
  refine I.weak w.1.symm fun i v h => ?_
  obtain ⟨hi, _⟩ := sgC_get h
  have e : (σ2.drop n)[i - n]? = ((sgC n fs σ).drop n)[i - n]? := by rw [w.2]
  rw [List.getElem?_drop, List.getElem?_drop, Nat.add_sub_cancel' hi] at e
  rw [e]; exact h
theorem comp_core {H1 : Hp} {s2 : Shared} {it : Addr} {fp : List Addr} {tn : Nat → Heap → Prop} {J : It} {Q : VK} {E : Value → Shared → Prop} {RR : Value → Addr → Result → Shared → Prop} (hc : X.calm = true) (S : CScope X scope ts fs)
    (hg : ∀ C s0 H0 ex, PG (cxC X scope C (ts ++ fs.map (·.2)) s0 H0 ex) target g) (ht : ∀ C s0 H0 ex, PTs (cxC X scope C (ts ++ fs.map (·.2)) s0 H0 ex) ifs tc) (he : ∀ C s0 H0 ex, PE (cxC X scope C (ts ++ fs.map (·.2)) s0 H0 ex) elt te)
    (I : Inv X pins σ H1 s2) (T : Turn X.prog X.w X.K target J fp it tn) (t0 : tn 0 s2.heap) (hf : ∀ b ∈ fp, FpOk X pins H1 b)
    (R : ∀ l, H1 l = none → CompW ts.length fs J g tc te σ H1 Q l)
    (hRR : ∀ l C s' H' m, Inv X pins σ H' s' → Q (.ref l) H' → s'.heap.Ns C m → FpOk X pins H' C → RR (.ref l) C (.ok .next) s') :
    wpAny (model X.prog X.w) X.A (newList []) (fun acc s₃ => wpAny (model X.prog X.w) X.A (newFunctionEnv scope X.env.globals (clOf scope X.env) [] X.env.qual none .none (some X.env)) (fun cenv s₄ =>
      codeAny (model X.prog X.w) X.A (.compStart (.ListComp elt [⟨target, iter, ifs, 0⟩] scope pos) 0 (.ref it) acc { cenv with scope := relabel scope X.env }) (RR acc cenv.locals) s₄) E s₃) E s2 := by
  refine wpAny_newObj_type (wpAny_newFunctionEnv S.nocell (by intro y hy; simp at hy) (fun h₁ hns hsb => ?_) S.kind)
  dsimp only at hns hsb ⊢
  have ho2 : ∀ b ∈ fp, b < s2.heap.objs.size := fun b hb => by
    obtain ⟨o, e, _⟩ := T.obj _ _ t0 b hb
    exact Heap.lt_size e
  have I3 : Inv X pins σ (upd H1 s2.heap.objs.size (.lst [])) { s2 with heap := s2.heap.push { cls := .type "list", dict := none, data := .seq ([] : List Value).toArray }, toks := s2.toks } := I.lnew (its := []) (t' := s2.toks) .nil (Nat.zero_le _)
  obtain ⟨W, ⟨m0, w0⟩, step⟩ := R s2.heap.objs.size I.fresh
  have hf3 : ∀ b ∈ fp, FpOk X pins (upd H1 s2.heap.objs.size (.lst [])) b := fun b hb => ⟨by rw [upd_ne (Nat.ne_of_lt (ho2 b hb))]; exact (hf b hb).1, (hf b hb).2⟩
  have k : ∀ b o, (s2.heap.push { cls := .type "list", dict := none, data := .seq ([] : List Value).toArray }).get? b = some o → h₁.get? b = some o := fun b o e =>
    hsb.extBut b o (Nat.ne_of_lt (Heap.lt_size e)) (Heap.get?_push_of_some _ e)
  have ho3 : ∀ b ∈ fp, b < (s2.heap.push { cls := .type "list", dict := none, data := .seq ([] : List Value).toArray }).objs.size := fun b hb => by
    rw [Heap.size_push]; exact Nat.lt_succ_of_lt (ho2 b hb)
  have I4 := inv_comp (tk := s2.toks + ([] : List (Str × Value)).length) S I3 hf3 ho3 hns k
  have st4 : tn 0 h₁ := T.keep _ _ _ t0 fun b hb o e => k b o (Heap.get?_push_of_some _ e)
  generalize hX : cxC X scope (s2.heap.push { cls := .type "list", dict := none, data := .seq ([] : List Value).toArray }).objs.size (ts ++ fs.map (·.2)) { s2 with heap := s2.heap.push { cls := .type "list", dict := none, data := .seq ([] : List Value).toArray }, toks := s2.toks } (upd H1 s2.heap.objs.size (.lst [])) fp = X' at I4
  have fpk : ∀ {H' : Hp}, (∀ b ∈ fp, H' b = none) → ∀ b ∈ fp, FpOk X' [] H' b := fun {H'} hn b hb => by
    subst hX
    refine ⟨hn b hb, Nat.ne_of_lt (ho3 b hb), fp_stack I3 (hf3 b hb), .inl hb, fun x c e => (hf3 b hb).2.2.2.2.1 x c (clOf_sub (S.has I.ok) e), fun p hp => absurd (show p ∈ ([] : List (Addr × Obj)) from hp) (by simp)⟩
  have hP : X'.prog = X.prog := by subst hX; rfl
  have hW : X'.w = X.w := by subst hX; rfl
  have hK : X'.K = X.K := by subst hX; rfl
  have hcalm : X'.calm = true := by subst hX; exact hc
  have hA : X'.A = X.A := by subst hX; rfl
  have hEnv : X'.env = compEnvC scope (clOf scope X.env) (s2.heap.push { cls := .type "list", dict := none, data := .seq ([] : List Value).toArray }).objs.size X.env := by subst hX; rfl
  have hxe : X'.xe = fun _ _ => False := by subst hX; rfl
  have hg' : PG X' target g := by subst hX; exact hg _ _ _ _
  have ht' : PTs X' ifs tc := by subst hX; exact ht _ _ _ _
  have he' : PE X' elt te := by subst hX; exact he _ _ _ _
  have back : ∀ {H' : Hp} {s' : Shared}, Inv X' [] (sgC ts.length fs σ) H' s' → Inv X pins σ H' s' ∧ (∃ m, s'.heap.Ns X'.env.locals m) ∧ FpOk X pins H' X'.env.locals := fun {H' s'} J' => by
    subst hX
    refine ⟨I3.call' (ch := fp) J'.os J'.base J'.hok J'.bare fun b hb => ⟨(hf3 b hb).2.2.2.1, (hf3 b hb).2.1, (hf3 b hb).2.2.2.2.1, (hf3 b hb).2.2.2.2.2⟩, ?_, I3.fpOk (Nat.le_refl _) J'.free⟩
    obtain ⟨m, hn, _⟩ := J'.loc
    exact ⟨m, hn⟩
  clear hX
  have loop : codeAny (model X.prog X.w) X.A (.compLoop (.ListComp elt [⟨target, iter, ifs, 0⟩] scope pos) 0 (.ref it) (.ref s2.heap.objs.size) X'.env) (RR (.ref s2.heap.objs.size) X'.env.locals)
      { s2 with heap := h₁, toks := s2.toks + ([] : List (Str × Value)).length } := by
    refine compLoop_own (fun n s' => ∃ i acc H', Inv X' [] (sgC ts.length fs σ) H' s' ∧ tn i s'.heap ∧ (∀ b ∈ fp, H' b = none) ∧ W i n acc H') ?_ m0 ⟨0, [], _, I4, st4, fun b hb => (hf3 b hb).1, w0⟩
    rintro n s5 ⟨i, acc, H5, I5, st5, fr5, w5⟩
    obtain ⟨hl, alt⟩ := step i n acc H5 w5
    rw [← hP, ← hW, ← hK] at T
    rcases alt with ⟨stop, q⟩ | ⟨hz, go, stp⟩
    · have d := T.done X' rfl rfl rfl hcalm i [] s5 _ H5 (fun _ _ => False) I5 (fpk fr5) st5 stop
      rw [hP, hW, hA] at d
      refine thn d fun r s6 ⟨hr, I6⟩ => ?_
      subst hr
      obtain ⟨b1, ⟨m, b2⟩, b3⟩ := back I6
      exact hRR _ _ s6 H5 m b1 q b2 b3
    · have d := T.item X' rfl rfl rfl hcalm i [] s5 _ H5 (fun _ _ => False) I5 (fpk fr5) st5 go
      rw [hP, hW, hA] at d
      refine thn d fun r s6 ⟨u, hr, h6⟩ => ?_
      subst hr
      refine thn h6 fun _ s7 ⟨x, H7, I7, r7, y7, st7, fr7⟩ => ?_
      have I7' := I7.pinned (fpk fr7) (T.obj _ _ st7)
      have a := hg' _ s7 _ H7 x u _ I7' r7 (stp x H7 y7)
      rw [hP, hW, hA, hxe] at a
      refine thn a fun _ s8 ⟨σ8, H8, I8, wk, q8⟩ => ?_
      have b := ht' _ s8 σ8 H8 _ I8 q8
      rw [hP, hW, hA, hxe] at b
      have again : ∀ {s9 : Shared} {H9 : Hp} {acc' : List V}, Inv X' ([] ++ pinsAt fp s7.heap) σ8 H9 s9 → (∃ m', m' < n ∧ W (i + 1) m' acc' H9) → ∃ m, m < n ∧ ∃ i acc H', Inv X' [] (sgC ts.length fs σ) H' s9 ∧ tn i s9.heap ∧ (∀ b ∈ fp, H' b = none) ∧ W i m acc H' := fun {s9 H9 acc'} I9 ⟨m', hm, w9⟩ => by
        refine ⟨m', hm, i + 1, acc', H9, wk_weak I9.unpinned wk, T.keep _ _ _ st7 fun b hb o e => (I9.pin (b, o) (List.mem_append_right _ (List.mem_append_right _ (mem_pinsAt hb e)))).1, fun b hb => ?_, w9⟩
        obtain ⟨o, e, d⟩ := T.obj _ _ st7 b hb
        exact (I9.pin (b, o) (List.mem_append_right _ (List.mem_append_right _ (mem_pinsAt hb e)))).2.1
      refine thn b fun ok s9 ⟨H9, I9, q9⟩ => ?_
      cases ok with
      | false =>
        rw [if_neg Bool.false_ne_true] at q9 ⊢
        exact again I9 q9
      | true =>
        rw [if_pos rfl] at q9 ⊢
        have c := he' _ s9 σ8 H9 _ I9 q9
        rw [hP, hW, hA, hxe] at c
        refine thn c fun y s10 ⟨v, H10, I10, r10, hl10, q10⟩ => ?_
        have d := mt_append (X := X') _ s10 σ8 H10 (.ref s2.heap.objs.size) [v] (.ref s2.heap.objs.size) [y] (fun v' H' => H' = upd H10 s2.heap.objs.size (.lst (acc ++ [v]))) I10 rfl (.cons r10 .nil) ⟨_, acc, v, rfl, rfl, hl10, hz, rfl⟩
        rw [hP, hW, hA, hxe] at d
        refine thn d fun _ s11 ⟨_, H11, I11, _, e11⟩ => ?_
        subst e11
        exact again I11 q10
  rw [hEnv] at loop
  exact codeAny_compStart_list loop (T.self _ 0 _ _ _ st4 loop)
theorem pe_comp {gF : Addr → Shared → Hp → List Addr → TG} {tF : Addr → Shared → Hp → List Addr → TT} {eF : Addr → Shared → Hp → List Addr → TE} (hc : X.calm = true) (S : CScope X scope ts fs) (hi : PI X target iter wi)
    (hg : ∀ C s0 H0 ex, PG (cxC X scope C (ts ++ fs.map (·.2)) s0 H0 ex) target (gF C s0 H0 ex)) (ht : ∀ C s0 H0 ex, PTs (cxC X scope C (ts ++ fs.map (·.2)) s0 H0 ex) ifs (tF C s0 H0 ex)) (he : ∀ C s0 H0 ex, PE (cxC X scope C (ts ++ fs.map (·.2)) s0 H0 ex) elt (eF C s0 H0 ex))
    (eg : ∀ C s0 H0 ex, gF C s0 H0 ex = gF 0 X.s₀ X.H₀ [] := by intros; rfl) (et : ∀ C s0 H0 ex, tF C s0 H0 ex = tF 0 X.s₀ X.H₀ [] := by intros; rfl) (ee : ∀ C s0 H0 ex, eF C s0 H0 ex = eF 0 X.s₀ X.H₀ [] := by intros; rfl)
    (hs : ∀ x, foldedSetIterable iter X.env x = pure x := by intro _; rfl) : PE X (.ListComp elt [⟨target, iter, ifs, 0⟩] scope pos) (tComp ts.length fs wi (gF 0 X.s₀ X.H₀ []) (tF 0 X.s₀ X.H₀ []) (eF 0 X.s₀ X.H₀ [])) := by
  intro pins s σ H Q I h
  rw [eval_ListComp]
  refine wpAny_comprehension_free (use := none) rfl hs (closure_ok (S.has I.ok)) S.kind S.locs (thn (hi pins s σ H _ I h) fun v s1 h1 => thn h1 fun itv s2 h2 => ?_)
  obtain ⟨it, fp, tn, J, H2, e, I2, T, st2, f2, R⟩ := h2
  subst e
  refine comp_core (RR := fun acc C => compPost (model X.prog X.w) X.A X.xe none (EP X pins σ Q) acc C) hc S (fun C s0 H0 ex => by rw [← eg C s0 H0 ex]; exact hg C s0 H0 ex) (fun C s0 H0 ex => by rw [← et C s0 H0 ex]; exact ht C s0 H0 ex) (fun C s0 H0 ex => by rw [← ee C s0 H0 ex]; exact he C s0 H0 ex) I2 T st2 f2 R fun l C s' H' m I' q hn f => ?_
  refine ⟨m, hn, fun h' hs' => ⟨.ref l, H', ?_, rfl, q⟩⟩
  obtain ⟨f0, f1, f2, f3, f4, f5⟩ := f
  exact I'.turned (t' := s'.toks) (fun b o hb e => hs'.extBut b o hb e) f0 f1 f3 f4 f5
theorem ps_setC {gF : Addr → Shared → Hp → List Addr → TG} {tF : Addr → Shared → Hp → List Addr → TT} {eF : Addr → Shared → Hp → List Addr → TE} {i : Nat} {y : Str} {py spos : Pos} (hN : X.N.Nodup) (hy : X.N[i]? = some y) (hl : Loc X.env.scope y) (hc : X.calm = true) (S : CScope X scope ts fs) (hi : PI X target iter wi)
    (hg : ∀ C s0 H0 ex, PG (cxC X scope C (ts ++ fs.map (·.2)) s0 H0 ex) target (gF C s0 H0 ex)) (ht : ∀ C s0 H0 ex, PTs (cxC X scope C (ts ++ fs.map (·.2)) s0 H0 ex) ifs (tF C s0 H0 ex)) (he : ∀ C s0 H0 ex, PE (cxC X scope C (ts ++ fs.map (·.2)) s0 H0 ex) elt (eF C s0 H0 ex))
    (eg : ∀ C s0 H0 ex, gF C s0 H0 ex = gF 0 X.s₀ X.H₀ [] := by intros; rfl) (et : ∀ C s0 H0 ex, tF C s0 H0 ex = tF 0 X.s₀ X.H₀ [] := by intros; rfl) (ee : ∀ C s0 H0 ex, eF C s0 H0 ex = eF 0 X.s₀ X.H₀ [] := by intros; rfl)
    (hs : ∀ x, foldedSetIterable iter X.env x = pure x := by intro _; rfl) (hsw : swapsWith (.ListComp elt [⟨target, iter, ifs, 0⟩] scope pos) (some (.Name y py)) spos.line X.env = pure true := by rfl)
    (hf : X.fn y = true ∨ X.env.scope.names.lookup y = some .local := by first | exact .inl rfl | exact .inr rfl | assumption) :
    PS X (.Assign [.Name y py] (.ListComp elt [⟨target, iter, ifs, 0⟩] scope pos) spos) (tAsg (tComp ts.length fs wi (gF 0 X.s₀ X.H₀ []) (tF 0 X.s₀ X.H₀ []) (eF 0 X.s₀ X.H₀ [])) (gName i)) := by
  intro pins s σ H D I h
  rw [exec_Assign_Name_used _ _ _ _ hsw]
  refine wpAny_bind (wpAny_standAt (wpAny_bind ?_))
  show wpAny _ X.A (do let _ ← comprehension (.ListComp elt [⟨target, iter, ifs, 0⟩] scope pos) scope X.env _ (newList []) false (eval iter X.env) (some (assign (.Name y py) X.env))) _ _ s
  refine wpAny_bind (wpAny_mono (wpAny_comprehension_free (use := some (assign (.Name y py) X.env)) (Q := fun _ s' => SP X pins D .next s') rfl hs (closure_ok (S.has I.ok)) S.kind S.locs
    (thn (hi pins s σ H _ I h) fun v s1 h1 => thn h1 fun itv s2 h2 => ?_)) (fun _ s' hq => wpAny_pure (wpAny_pure hq)) fun _ _ e => e)
  obtain ⟨it, fp, tn, J, H2, e, I2, T, st2, f2, R⟩ := h2
  subst e
  refine comp_core (RR := fun acc C => compPost (model X.prog X.w) X.A X.xe (some (assign (.Name y py) X.env)) (fun _ s' => SP X pins D .next s') acc C) hc S (fun C s0 H0 ex => by rw [← eg C s0 H0 ex]; exact hg C s0 H0 ex) (fun C s0 H0 ex => by rw [← et C s0 H0 ex]; exact ht C s0 H0 ex) (fun C s0 H0 ex => by rw [← ee C s0 H0 ex]; exact he C s0 H0 ex) I2 T st2 f2 R fun l C s' H' m I' q hn f => ?_
  obtain ⟨f0, f1, f2, f3, f4, f5⟩ := f
  show wpAny _ X.A (assign (.Name y py) X.env (.ref l)) _ _ _
  refine wpAny_assign_Name (store_ok2 (v := .ref l) I' hN hy hl rfl (fun s'' I'' ⟨a, hsb, ha⟩ => ?_) hf)
  have hne : C ≠ a := by
    rcases ha with z | z
    · rw [z]; exact f1
    · exact fun e => f4 _ _ z e.symm
  refine ⟨m, hn.sameBut hsb hne, fun h' hs' => ⟨σ.set i (some (.ref l)), H', ?_, q⟩⟩
  exact I''.turned (t' := s''.toks) (fun b o hb e => hs'.extBut b o hb e) f0 f1 f3 f4 f5
end
end L2
namespace L2
open PySem PySem.Spec PyProof.Rows PySem.SeqAt
open AutoSeq1 (wpAny_loadPart')
open MeetsSeq MeetsSeq2 MeetsSeq3 SeqRoads2
theorem wpAny_forIn_rng {M : Model} {A : Around} {E : Value → Shared → Prop} {s : Shared} {β : Type} {n : Nat} {b : β} (f : Nat → β → Sem (ForInStep β)) (I : List Nat → β → Shared → Prop) (Q : β → Shared → Prop)
    (turn : ∀ x rest b s', I (x :: rest) b s' → wpAny M A (f x b) (fun r s'' => match r with | .yield b' => I rest b' s'' | .done b' => Q b' s'') E s')
    (fin : ∀ b s', I [] b s' → Q b s') (h : I (List.range n) b s) : wpAny M A (forIn [:n] b f) Q E s := by
  rw [Std.Legacy.Range.forIn_eq_forIn_range']
  refine wpAny_forIn_list f I Q turn fin _ b ?_
  have e : List.range' ([:n] : Std.Legacy.Range).start ([:n] : Std.Legacy.Range).size ([:n] : Std.Legacy.Range).step = List.range n := by
    show List.range' 0 ((n - 0 + 1 - 1) / 1) 1 = List.range n
    rw [List.range_eq_range']
    congr 1
    simp
  rw [e]; exact h
theorem tuple_indexAt (l : Addr) (items : Array Value) (n : Nat) (dd : Option Addr) (sl : Array (Option Value)) (x : Value) (e : Value → Bool) (j : Nat) (hj : j < items.size)
    (hit : e items[j] = true) (hno : ∀ m (hm : m < items.size), m < j → e items[m] = false) :
    Meets (Builtin.«tuple.index» ⟨[.ref l, x], []⟩)
      (fun A R s => s.heap.get? l = some { cls := .type "tuple", dict := dd, data := .seq items n, slots := sl } ∧ (∀ y, y ∈ items → EqAt A.in1 s y x (e y)) ∧ R (.ok (.ret (.int j s.toks))) { s with toks := s.toks + 1 }) :=
  .of_wp fun prog w A R s h => by
    obtain ⟨hp, g, d, tk, os⟩ := s; obtain ⟨hl, he, h⟩ := h
    unfold Builtin.«tuple.index»
    wp_walk using wpAny_loadPart' hl, wpAny_forIn_rng _ (fun rest b s' => ∃ i, i ≤ j ∧ rest = (List.range (min items.size items.size)).drop i ∧ b.1 = none ∧ s' = ⟨hp, g, d, tk, os⟩) _
    case turn =>
      rintro y rest b s' ⟨i, hi, hr, hb, rfl⟩
      have hil : i < items.size := Nat.lt_of_le_of_lt hi hj
      rw [Nat.min_self] at hr ⊢
      rw [List.drop_eq_getElem_cons (by simpa using hil)] at hr
      injection hr with h1 h2
      rw [List.getElem_range] at h1
      subst h1
      have hg : items[y]? = some items[y] := by simp [hil]
      rw [hg]
      dsimp only
      refine wpAny_bind (he _ (Array.getElem_mem hil) prog w _ _ ?_)
      by_cases hyj : y = j
      · subst hyj
        rw [hit, if_pos rfl]
        wp_walk
        exact ⟨_, rfl, h⟩
      · rw [hno y hil (by (first | lia | omega)), if_neg Bool.false_ne_true]
        exact wpAny_pure ⟨y + 1, by (first | lia | omega), h2, rfl, rfl⟩
    case fin =>
      rintro b s' ⟨i, hi, hr, hb, rfl⟩
      rw [Nat.min_self] at hr
      have : (List.drop i (List.range items.size)).length = 0 := by rw [← hr]; rfl
      rw [List.length_drop, List.length_range] at this
      (first | lia | omega)
    case h =>
      exact ⟨0, Nat.zero_le _, rfl, rfl, rfl⟩
theorem vals_isInt {ns : List Int} (k : Int) : ∀ {us : List Value}, Vals (ns.map V.int) us → ∀ (j : Nat) (h : j < us.length), eqU (.int k) us[j] = ((ns.getD j 0) == k) := by
  intro us r j h
  have hl := r.length
  rw [List.length_map] at hl
  have hj : j < ns.length := by (first | lia | omega)
  obtain ⟨u, hu, ru⟩ := r.get (i := j) (x := .int ns[j]) (by rw [List.getElem?_map, List.getElem?_eq_getElem hj]; rfl)
  have e : us[j] = u := by
    rw [List.getElem?_eq_getElem h] at hu
    exact Option.some.inj hu
  rw [e, eqU_of ru rfl]
  have e2 : ns.getD j 0 = ns[j] := by rw [List.getD_eq_getElem?_getD, List.getElem?_eq_getElem hj]; rfl
  rw [e2]
  rfl
theorem flat_ints (ns : List Int) : (ns.map V.int).all flatV = true := by
  induction ns with
  | nil => rfl
  | cons n ns ih => rw [List.map_cons, List.all_cons, ih]; rfl
section
variable {X : Cx} {pins : List (Addr × Obj)} {σ : St} {H : Hp} {s : Shared}
theorem mt_tindex : MtR X "tuple.index" (fun x vs H Q => ∃ (p : Addr) (ns : List Int) (k : Int), x = .ref p ∧ vs = [.int k] ∧ SqT X.K H p (ns.map V.int) ∧ k ∈ ns ∧ Q (.int (ns.idxOf k : Nat)) H) := by
  intro pins s σ H x vs v us Q I rx rv h
  obtain ⟨p, ns, k, rfl, rfl, hq, hk, q⟩ := h
  cases rx
  obtain ⟨u, rfl, ru⟩ := rv.one
  obtain ⟨t, rfl⟩ := ru
  obtain ⟨its, r, pl, hz⟩ := I.tuple hq
  obtain ⟨⟨cls, dd, data, sl⟩, ho, hc, n, hd⟩ := id pl
  simp only at hc hd
  subst hc hd
  have hlen := r.length
  rw [List.length_map] at hlen
  have hj : ns.idxOf k < ns.length := List.idxOf_lt_length_iff.mpr hk
  refine call_meets PySem.F.slot_tuple_index ⟨_, ho, rfl⟩ PySem.F.entry_tuple_index (PySem.F.args_tuple_index_2 _ _)
    (tuple_indexAt p its.toArray n dd sl (.int k t) (eqU (.int k)) (ns.idxOf k) (by rw [List.size_toArray]; (first | lia | omega)) ?_ ?_) ⟨ho, fun y hy => mem_eqAt (x := .int k) ⟨t, rfl⟩ rfl r (flat_ints ns) y (by simpa using hy), ?_⟩
  · rw [List.getElem_toArray, vals_isInt k r _ (by (first | lia | omega))]
    rw [List.getD_eq_getElem?_getD, List.getElem?_eq_getElem hj, Option.getD_some, List.getElem_idxOf]
    exact beq_self_eq_true k
  · intro m hm hlt
    rw [List.size_toArray] at hm
    rw [List.getElem_toArray, vals_isInt k r _ hm]
    have hm' : m < ns.length := by (first | lia | omega)
    rw [List.getD_eq_getElem?_getD, List.getElem?_eq_getElem hm', Option.getD_some]
    exact List.not_of_lt_findIdx (p := (· == k)) (show m < ns.findIdx (· == k) from hlt)
  · exact ⟨.int (ns.idxOf k : Nat), H, I.tok _, ⟨_, rfl⟩, q⟩
noncomputable def tyU (K : PySem.W.Frag) (T : String) (x : V) (H : Hp) : Prop := tyV K T x H ∨ (T = "tuple" ∧ ∃ p xs, x = .ref p ∧ H p = some (.tup xs))
theorem tyU_is {T : String} {x : V} {v : Value} (I : Inv X pins σ H s) (r : RelV x v) (ty : tyU X.K T x H) : s.TypeIs v T ∧ ∀ a, v = .ref a → ∃ ob, s.heap.get? a = some ob ∧ ob.dict = none := by
  rcases ty with ty | ⟨rfl, p, xs, rfl, hp⟩
  · exact tyV_is I r ty
  · cases r
    obtain ⟨_, its, _, o, e, c, d, _⟩ := I.hok p _ hp
    refine ⟨⟨o, e, c⟩, fun a z => ?_⟩
    cases z
    exact ⟨o, e, d⟩
variable {o e : Expr} {es : List Expr} {to : TE} {t : TA} {name : Str} {apos cpos : Pos} {T id : String} {r : V → List V → Hp → VK → Prop}
noncomputable def tBMU (K : PySem.W.Frag) (T : String) (r : V → List V → Hp → VK → Prop) (to : TE) (t : TA) : TE := fun σ H Q => to σ H fun x H1 => tyU K T x H1 ∧ t σ H1 fun xs H2 => r x xs H2 Q
theorem pe_bmU (pa : PlainAttrs T) (slot : Slot T name id) (hty : typeOf (.builtin id) = pure (.type "method_descriptor")) (hm : MtR X id r) (ho : PE X o to) (ha : PA X (e :: es) t)
    (hbase : attributeBase o name X.env (eval o X.env) = eval o X.env := by rfl)
    (hfew : ((backTo cpos (starEach (e :: es) X.env)).all (fun x => !x.1) && (backToKw cpos (keywordEach [] X.env)).all (fun x => x.1.isSome)
      && decide ((e :: es).length + ([] : List Keyword).length + (if ([] : List Keyword).isEmpty then 0 else 1) < 30)) = true := by rfl)
    (hline : (apos.endLine == cpos.line) = true := by rfl) (hs : starEach (e :: es) X.env = (false, eval e X.env) :: starEach es X.env := by rfl) (hplain : (backTo cpos (starEach es X.env)).any (·.1) = false := by rfl) :
    PE X (.Call (.Attribute o name apos) (e :: es) [] cpos) (tBMU X.K T r to t) := by
  intro pins s σ H Q I h
  refine wpAny_Call_method_late hbase hfew hline rfl (thn (ho pins s σ H _ I h) fun v s1 ⟨x, H1, I1, r1, ty, q1⟩ => ?_)
  obtain ⟨h1, h2⟩ := tyU_is I1 r1 ty
  refine ⟨T, id, pa, slot, hty, h1, h2, ?_⟩
  have hA := ha cpos pins s1 σ H1 _ I1 q1
  rw [hs] at hA ⊢
  refine Calls.callWith_builtin (by show (false || (backTo cpos (starEach es X.env)).any (·.1)) = false; rw [hplain] <;> rfl) (Calls.evalArgs_plain ?_)
  exact thn hA fun us s2 ⟨vs, H2, I2, r2, q2⟩ => hm pins s2 σ H2 x vs v us Q I2 r1 r2 q2
end
section
variable {prog : Program} {w : World} {A : Around} {E : Value → Shared → Prop} {s : Shared}
theorem collect_tup {l : Addr} {vs : List Value} {Q : List Value → Shared → Prop} (hl : IsTup s.heap l vs.toArray)
    (h : Q vs { s with heap := (s.heap.push (seqObj "list" #[] 0)).update s.heap.objs.size (Obj.mapSeq (· ++ vs.toArray)) }) (hsz : vs.length ≤ sizeLine) :
    wpAny (model prog w) A (collect (.ref l)) Q E s := by
  obtain ⟨o, ho, hc, n, hd⟩ := id hl
  unfold collect
  refine wpAny_bind (wpAny_runValue (codeAny_builtin entry_proto_collect' ?_))
  show wpAny _ _ (do again (.builtin "list.__iadd__" ⟨[← newList [], .ref l], []⟩)) _ _ s
  refine wpAny_bind (wpAny_newList (wpAny_pure ⟨Code.quiet_builtin _ (by decide +kernel), codeAny_builtin entry_list_iadd' ?_⟩))
  show wpAny _ _ (Builtin.List.listExtendWith (.ref s.heap.objs.size) (.ref l) (.ref s.heap.objs.size)) _ _ { s with heap := s.heap.push (seqObj "list" #[] 0) }
  unfold Builtin.List.listExtendWith
  have ho' : (s.heap.push (seqObj "list" #[] 0)).get? l = some o := Heap.get?_push_of_some _ ho
  refine wpAny_bind (wpAny_typeOf (T := "tuple") ⟨o, ho', hc⟩ ?_)
  have ht : (Value.type "tuple" == Value.type "tuple") = true := by rfl
  rw [if_pos (by rw [ht]; simp)]
  refine wpAny_bind (listItems_at ho' hd ?_)
  refine wpAny_bind (listItems_at (xs := #[]) (n := 0) (Heap.get?_push_size _ rfl) rfl ?_)
  rw [if_neg (by simp)]
  refine wpAny_bind (listUpdate_at (xs := #[]) (n := 0) (Heap.get?_push_size _ rfl) rfl ?_ (Nat.zero_le _) (by show (#[] ++ vs.toArray).size ≤ sizeLine + 1; simp only [Array.size_append, List.size_toArray, List.length_nil]; (first | lia | omega)))
  refine wpAny_pure ?_
  show wpAny (model prog w) A (do
      let o ← load s.heap.objs.size
      match o.data with
      | .seq xs _ => pure xs.toList
      | _ => unsupported "internal:collect") Q E { s with heap := (s.heap.push (seqObj "list" #[] 0)).update s.heap.objs.size (Obj.mapSeq (· ++ vs.toArray)) }
  refine wpAny_bind (wpAny_load (get?_update_seq (Heap.get?_push_size _ rfl) _) ?_)
  show wpAny _ _ (pure ((#[] : Array Value) ++ vs.toArray).toList) Q E _
  rw [show ((#[] : Array Value) ++ vs.toArray).toList = vs by simp]
  exact wpAny_pure h
theorem sorted_tup {l : Addr} {vs : List Value} {ns : List Int} {Q : Value → Shared → Prop} (hl : IsTup s.heap l vs.toArray) (hI : IntsAre vs ns) (h64 : vs.length < 64)
    (h : ∀ (out : Array Value) (ns' : List Int), IntsAre out.toList ns' → ns'.Perm ns → ns'.Pairwise (· ≤ ·) → Q (.ref (s.heap.objs.size + 1)) { s with heap := sortedAll s.heap vs out }) :
    wpAny (model prog w) A (call (.builtin "sorted") [.ref l]) Q E s := by
  refine Calls.call_function_entry kind_sorted plain_sorted entry_sorted (args_sorted1 _) ?_
  unfold Builtin.«sorted»
  refine wpAny_bind (m := checkCount "sorted" 1 1 _) (wpAny_pure ?_)
  refine wpAny_bind (collect_tup hl ?_ (by rw [sizeLine_eq]; (first | lia | omega)))
  refine wpAny_bind (wpAny_newList ?_)
  have hsz : ((s.heap.push (seqObj "list" #[] 0)).update s.heap.objs.size (Obj.mapSeq (· ++ vs.toArray))).objs.size = s.heap.objs.size + 1 := by
    rw [Heap.size_update, size_push']
  have hoL : (((s.heap.push (seqObj "list" #[] 0)).update s.heap.objs.size (Obj.mapSeq (· ++ vs.toArray))).push (seqObj "list" vs.toArray 0)).get? (s.heap.objs.size + 1) = some (seqObj "list" vs.toArray 0) := by
    rw [← hsz]; exact Heap.get?_push_size _ rfl
  show wpAny _ _ _ _ _ { s with heap := ((s.heap.push (seqObj "list" #[] 0)).update s.heap.objs.size (Obj.mapSeq (· ++ vs.toArray))).push (seqObj "list" vs.toArray 0) }
  rw [hsz]
  refine wpAny_bind (wpAny_holding (wpAny_call_entry slot_list_sort ⟨_, hoL, rfl⟩ entry_list_sort (list_sort_tree hoL hI h64 fun out ns' a1 a2 a3 => ⟨_, rfl, ?_⟩) (args_list_sort _)))
  exact wpAny_pure ⟨_, rfl, h out ns' a1 a2 a3⟩
end
section
variable {X : Cx}
theorem call_sorted : CallR X (.builtin "sorted") (fun xs H Q => ∃ (p : Addr) (ns : List Int), xs = [.ref p] ∧ (SqL X.K H p (ns.map V.int) ∨ SqT X.K H p (ns.map V.int)) ∧ ns.length < 64 ∧
    ∀ (l : Addr) (ns' : List Int), H l = none → ns'.Perm ns → ns'.Pairwise (· ≤ ·) → Q (.ref l) (upd H l (.lst (ns'.map V.int)))) := by
  intro pins s σ H xs us Q I r h
  obtain ⟨p, ns, rfl, hq, h64, q⟩ := h
  obtain ⟨u, rfl, ru⟩ := vals1 r
  cases ru
  have fin : ∀ (vs : List Value) (out : Array Value) (ns' : List Int), ns.length = vs.length → IntsAre out.toList ns' → ns'.Perm ns → ns'.Pairwise (· ≤ ·) → EP X pins σ Q (.ref (s.heap.objs.size + 1)) { s with heap := sortedAll s.heap vs out } := fun vs out ns' hl a1 a2 a3 => by
    obtain ⟨e, he⟩ := sortedAll_at s.heap vs out
    refine ⟨.ref (s.heap.objs.size + 1), _, I.laid (t' := s.toks) (o := .lst (ns'.map V.int)) (fun b ob z => sortedAll_old z) (Nat.le_succ _) ?_, rfl, q _ ns' (I.hok.fresh (Nat.le_succ _)) a2 a3⟩
    refine ⟨?_, out.toList, e, vals_ints a1, by simpa [seqObj] using he⟩
    rw [List.length_map, a2.length_eq, sizeLine_eq]
    (first | lia | omega)
  rcases hq with hq | hq
  · obtain ⟨its, r', pl, hz⟩ := I.list hq
    have hl := r'.length
    rw [List.length_map] at hl
    exact sorted_ints pl.isList (intsAre_of r') (by (first | lia | omega)) fun out ns' a1 a2 a3 => fin its out ns' hl a1 a2 a3
  · obtain ⟨its, r', pl, hz⟩ := I.tuple hq
    have hl := r'.length
    rw [List.length_map] at hl
    exact sorted_tup pl (intsAre_of r') (by (first | lia | omega)) fun out ns' a1 a2 a3 => fin its out ns' hl a1 a2 a3
theorem call_range : CallR X (.type "range") (fun xs H Q => ∃ n : Int, xs = [.int n] ∧ ∀ p, H p = none → Q (.ref p) (upd H p (.rng 0 n))) := by
  intro pins s σ H xs us Q I r h
  obtain ⟨n, rfl, q⟩ := h
  obtain ⟨u, rfl, t, rfl⟩ := vals1 r
  refine call_range_1 ?_
  refine ⟨.ref s.heap.objs.size, _, I.laid (o := .rng 0 n) (fun b ob z => Heap.get?_push_of_some _ z) (Nat.le_refl _) ?_, rfl, q _ (I.hok.fresh (Nat.le_refl _))⟩
  exact ⟨_, _, _, Heap.get?_push_size _ rfl⟩
theorem vals_of_get : ∀ {xs : List V} {us : List Value}, xs.length = us.length → (∀ (i : Nat) (x : V) (u : Value), xs[i]? = some x → us[i]? = some u → RelV x u) → Vals xs us
  | [], [], _, _ => .nil
  | [], _ :: _, h, _ => by simp at h
  | _ :: _, [], h, _ => by simp at h
  | x :: xs, u :: us, h, f => .cons (f 0 x u rfl rfl) (vals_of_get (by simpa using h) fun i y v h1 h2 => f (i + 1) y v (by simpa using h1) (by simpa using h2))
theorem items_rng {a : Int} (n : Nat) (acc : Array Value) (h : ItemsOf (fun i v => ∃ t, v = .int (a + i * 1) t) acc n) : Vals ((List.range n).map fun i => V.int (a + (i : Nat))) acc.toList := by
  refine vals_of_get (by rw [List.length_map, List.length_range, Array.length_toList, h.1]) fun i x u h1 h2 => ?_
  obtain ⟨t, e⟩ := h.2 i u (by simpa using h2)
  rw [List.getElem?_map] at h1
  cases q : (List.range n)[i]? with
  | none => rw [q] at h1; cases h1
  | some j =>
    rw [q] at h1
    have e1 : V.int (a + (j : Nat)) = x := Option.some.inj h1
    have e2 : j = i := by
      have := List.getElem?_eq_some_iff.mp q
      obtain ⟨_, z⟩ := this
      rw [List.getElem_range] at z
      exact z.symm
    subst e1 e2
    exact ⟨t, by rw [e, Int.mul_one]⟩
theorem call_list_rng (hc : X.calm = true) : CallR X (.type "list") (fun xs H Q => ∃ (p : Addr) (lo hi : Int), xs = [.ref p] ∧ H p = some (.rng lo hi) ∧ (-(2 ^ 62) ≤ lo ∧ lo < 2 ^ 62 ∧ -(2 ^ 62) ≤ hi ∧ hi < 2 ^ 62) ∧ (hi - lo).toNat ≤ 1000 ∧
    ∀ l, H l = none → Q (.ref l) (upd H l (.lst ((List.range (hi - lo).toNat).map fun i => V.int (lo + (i : Nat)))))) := by
  intro pins s σ H xs us Q I r h
  obtain ⟨p, lo, hi, rfl, hp, ⟨h1, h2, h3, h4⟩, hz, q⟩ := h
  obtain ⟨u, rfl, ru⟩ := vals1 r
  cases ru
  obtain ⟨t, u, v, e⟩ := I.hok p _ hp
  refine call_list_range (n := (hi - lo).toNat) (I.ok.hd hc) e (small_one h1 h2 h3 h4) (by rw [rangeSize_one]; split <;> (first | lia | omega)) (by (first | lia | omega)) fun h' tk acc' c' k' hS hacc => ?_
  refine ⟨.ref s.heap.objs.size, _, I.laid (o := .lst ((List.range (hi - lo).toNat).map fun i => V.int (lo + (i : Nat)))) k' (Nat.le_refl _) ?_, rfl, q _ (I.hok.fresh (Nat.le_refl _))⟩
  refine ⟨?_, acc'.toList, c', items_rng _ _ hacc, by simpa using hS⟩
  rw [List.length_map, List.length_range, sizeLine_eq]
  (first | lia | omega)
end
inductive Isi (K : PySem.W.Frag) (H : Hp) : V → String → Bool → Prop
  | int_int (i : Int) : Isi K H (.int i) "int" true
  | int_bool (i : Int) : Isi K H (.int i) "bool" false
  | bool_bool (b : Bool) : Isi K H (.bl b) "bool" true
  | list_list {p : Addr} {xs : List V} : SqL K H p xs → Isi K H (.ref p) "list" true
  | tup_tup {p : Addr} {xs : List V} : SqT K H p xs → Isi K H (.ref p) "tuple" true
section
variable {X : Cx}
theorem call_isi : CallR X (.builtin "isinstance") (fun xs H Q => ∃ x T b, xs = [x, .ty T] ∧ Isi X.K H x T b ∧ Q (.bl b) H) := by
  intro pins s σ H xs us Q I r h
  obtain ⟨x, T, b, rfl, hi, q⟩ := h
  obtain ⟨u, v, rfl, ru, rv⟩ := r.two
  cases rv
  cases hi with
  | int_int i => obtain ⟨t, rfl⟩ := ru; exact PySem.IsiPair.int_int ⟨.bl true, H, I, rfl, q⟩
  | int_bool i => obtain ⟨t, rfl⟩ := ru; exact PySem.IsiPair.int_bool ⟨.bl false, H, I.tok _, rfl, q⟩
  | bool_bool b => cases ru; exact PySem.IsiPair.bool_bool ⟨.bl true, H, I, rfl, q⟩
  | list_list hq =>
    cases ru
    obtain ⟨its, r', pl, hz⟩ := I.list hq
    obtain ⟨o, n, e, c, _⟩ := pl
    exact PySem.IsiPair.list_list e c ⟨.bl true, H, I, rfl, q⟩
  | tup_tup hq =>
    cases ru
    obtain ⟨its, r', pl, hz⟩ := I.tuple hq
    obtain ⟨o, e, c, _⟩ := pl
    exact PySem.IsiPair.tuple_tuple e c ⟨.bl true, H, I, rfl, q⟩
end
noncomputable abbrev Den (α : Type) := Hp → α → V → Prop
noncomputable def dInt : Den Int := fun _ i v => v = .int i
noncomputable def EqOk (X : Cx) {α : Type} [DecidableEq α] (D : Den α) (d : Nat) : Prop :=
  ∀ (A : Around) (pins : List (Addr × Obj)) (s : Shared) (σ : St) (H : Hp) (a b : α) (x y : V) (u v : Value), A.units + d < cLine → Inv X pins σ H s → D H a x → D H b y → RelV x u → RelV y v → EqAt A s u v (decide (a = b))
theorem eq_int_ok {X : Cx} : EqOk X dInt 0 := by
  intro A pins s σ H a b x y u v _ I ha hb ru rv
  subst ha hb
  obtain ⟨t, rfl⟩ := ru
  obtain ⟨t', rfl⟩ := rv
  have h := EqAt.int_int (A := A) (s := s) a t b t'
  rw [show decide (a = b) = (a == b) by rw [Bool.eq_iff_iff]; simp]
  exact h
theorem all_range_eq {α : Type} [DecidableEq α] {as bs : List α} (hl : as.length = bs.length) : ((List.range as.length).all fun j => decide (as[j]? = bs[j]?)) = decide (as = bs) := by
  rw [Bool.eq_iff_iff]
  simp only [List.all_eq_true, List.mem_range, decide_eq_true_eq]
  constructor
  · intro h
    refine List.ext_getElem? fun i => ?_
    by_cases hi : i < as.length
    · exact h i hi
    · rw [List.getElem?_eq_none (by (first | lia | omega)), List.getElem?_eq_none (by (first | lia | omega))]
  · intro h j _
    rw [h]
theorem paired_get {α : Type} {P : α → V → Prop} : ∀ {as : List α} {xs : List V} {i : Nat} {x : V}, Paired P as xs → xs[i]? = some x → ∃ a, as[i]? = some a ∧ P a x
  | _, _, _, _, .nil, e => by simp at e
  | _, _, 0, _, .cons r _, e => by simp at e; subst e; exact ⟨_, rfl, r⟩
  | _, _, i + 1, x, .cons _ t, e => by
    obtain ⟨u, h1, h2⟩ := paired_get (i := i) (x := x) t (by simpa using e)
    exact ⟨u, by simpa using h1, h2⟩
section
variable {X : Cx} {α : Type} [DecidableEq α] {D : Den α} {d : Nat}
theorem items_eqAt {A : Around} {pins : List (Addr × Obj)} {s : Shared} {σ : St} {H : Hp} {as bs : List α} {xs ys : List V} {us vs : List Value} (h : EqOk X D d) (hu : A.units + (d + 1) < cLine) (I : Inv X pins σ H s) (pa : Paired (D H) as xs) (pb : Paired (D H) bs ys) (ru : Vals xs us) (rv : Vals ys vs)
    (j : Nat) (h1 : j < us.toArray.size) (h2 : j < vs.toArray.size) : EqAt A.in1 s us.toArray[j] vs.toArray[j] (decide (as[j]? = bs[j]?)) := by
  rw [List.size_toArray] at h1 h2
  rw [List.getElem_toArray, List.getElem_toArray]
  have k1 : j < xs.length := by rw [ru.length]; exact h1
  have k2 : j < ys.length := by rw [rv.length]; exact h2
  have g1 : xs[j]? = some xs[j] := List.getElem?_eq_getElem k1
  have g2 : ys[j]? = some ys[j] := List.getElem?_eq_getElem k2
  obtain ⟨a, ea, da⟩ := paired_get pa g1
  obtain ⟨b, eb, db⟩ := paired_get pb g2
  obtain ⟨u, eu, hu'⟩ := ru.get g1
  obtain ⟨v, ev, hv'⟩ := rv.get g2
  rw [List.getElem?_eq_getElem h1] at eu
  rw [List.getElem?_eq_getElem h2] at ev
  cases eu
  cases ev
  rw [ea, eb, show decide (some a = some b) = decide (a = b) by simp]
  exact h A.in1 pins s σ H a b _ _ _ _ (by show A.units + 1 + d < cLine; (first | lia | omega)) I da db hu' hv'
noncomputable def dTupOf (K : PySem.W.Frag) (D : Den α) : Den (List α) := fun H as v => ∃ p xs, v = .ref p ∧ SqT K H p xs ∧ Paired (D H) as xs
theorem paired_inj (hi : ∀ H a b x, D H a x → D H b x → a = b) {H : Hp} : ∀ {as bs : List α} {xs : List V}, Paired (D H) as xs → Paired (D H) bs xs → as = bs
  | _, _, _, .nil, .nil => rfl
  | _, _, _, .cons r t, .cons r' t' => by rw [hi H _ _ _ r r', paired_inj hi t t']
theorem eq_tup_ok (h : EqOk X D d) (hi : ∀ H a b x, D H a x → D H b x → a = b) : EqOk X (dTupOf X.K D) (d + 1) := by
  intro A pins s σ H as bs x y u v hu I ⟨p, xs, ex, hp, pa⟩ ⟨q, ys, ey, hq, pb⟩ ru rv
  subst ex ey
  cases ru
  cases rv
  by_cases hpq : p = q
  · subst hpq
    have e := I.tuple_inj hp hq
    subst e
    rw [decide_eq_true (paired_inj hi pa pb)]
    exact EqAt.same _
  · obtain ⟨us, r1, t1, _⟩ := I.tuple hp
    obtain ⟨vs, r2, t2, _⟩ := I.tuple hq
    have l1 := r1.length
    have l2 := r2.length
    have l3 := Paired.length pa
    have l4 := Paired.length pb
    have key := RcAt.tuples (A := A) (s := s) (e := fun j => decide (as[j]? = bs[j]?)) t1 t2 (by (first | lia | omega)) (items_eqAt h hu I pa pb r1 r2)
    refine EqAt.of_refs hpq ?_
    rw [List.size_toArray, List.size_toArray] at key
    have e : ((List.range (min us.length vs.length)).all (fun j => decide (as[j]? = bs[j]?)) && us.length == vs.length) = decide (as = bs) := by
      by_cases hl : as.length = bs.length
      · rw [show min us.length vs.length = as.length by (first | lia | omega), show (us.length == vs.length) = true by rw [beq_iff_eq]; (first | lia | omega), Bool.and_true]
        exact all_range_eq hl
      · rw [show (us.length == vs.length) = false by rw [beq_eq_false_iff_ne]; (first | lia | omega), Bool.and_false, decide_eq_false (fun e => hl (by rw [e]))]
    rw [e] at key
    exact key
theorem op_eqL (h : EqOk X D d) (hu : X.A.units + (d + 1) < cLine) : OpR X (compareOp .Eq) (fun x y H Q => ∃ p q xs ys as bs, x = .ref p ∧ y = .ref q ∧ SqL X.K H p xs ∧ SqL X.K H q ys ∧ Paired (D H) as xs ∧ Paired (D H) bs ys ∧ Q (.bl (decide (as = bs))) H) := by
  intro pins s σ H x y v u Q I rx ry ⟨p, q, xs, ys, as, bs, ex, ey, hp, hq, pa, pb, k⟩
  subst ex ey
  cases rx
  cases ry
  obtain ⟨us, r1, t1, _⟩ := I.list hp
  obtain ⟨vs, r2, t2, _⟩ := I.list hq
  have l1 := r1.length
  have l2 := r2.length
  have l3 := Paired.length pa
  have l4 := Paired.length pb
  by_cases hl : as.length = bs.length
  · refine eq_listAt (e := fun j => decide (as[j]? = bs[j]?)) t1.isList t2.isList (by rw [List.size_toArray, List.size_toArray]; (first | lia | omega)) (by (first | lia | omega)) (items_eqAt h hu I pa pb r1 r2) ⟨.bl _, H, I, rfl, ?_⟩
    rw [List.size_toArray, show us.length = as.length by (first | lia | omega), all_range_eq hl]
    exact k
  · refine eq_list_lengthsAt t1.isList t2.isList (by rw [List.size_toArray, List.size_toArray, bne_iff_ne]; (first | lia | omega)) (by (first | lia | omega)) ⟨.bl false, H, I, rfl, ?_⟩
    rw [decide_eq_false (fun e => hl (by rw [e]))] at k
    exact k
theorem op_neL (h : EqOk X D d) (hu : X.A.units + (d + 1) < cLine) : OpR X (compareOp .NotEq) (fun x y H Q => ∃ p q xs ys as bs, x = .ref p ∧ y = .ref q ∧ SqL X.K H p xs ∧ SqL X.K H q ys ∧ Paired (D H) as xs ∧ Paired (D H) bs ys ∧ Q (.bl (!decide (as = bs))) H) := by
  intro pins s σ H x y v u Q I rx ry ⟨p, q, xs, ys, as, bs, ex, ey, hp, hq, pa, pb, k⟩
  subst ex ey
  cases rx
  cases ry
  obtain ⟨us, r1, t1, _⟩ := I.list hp
  obtain ⟨vs, r2, t2, _⟩ := I.list hq
  have l1 := r1.length
  have l2 := r2.length
  have l3 := Paired.length pa
  have l4 := Paired.length pb
  by_cases hl : as.length = bs.length
  · have z := RcNeAt.lists (A := X.A) (s := s) (e := fun j => decide (as[j]? = bs[j]?)) t1.isList t2.isList (by rw [List.size_toArray, List.size_toArray]; (first | lia | omega)) (by (first | lia | omega)) (items_eqAt h hu I pa pb r1 r2)
    rw [List.size_toArray, show us.length = as.length by (first | lia | omega), all_range_eq hl] at z
    exact z X.prog X.w X.xe _ ⟨.bl _, H, I, rfl, k⟩
  · have z := RcNeAt.lists_lengths (A := X.A) (s := s) t1.isList t2.isList (by rw [List.size_toArray, List.size_toArray, bne_iff_ne]; (first | lia | omega)) (by (first | lia | omega))
    rw [decide_eq_false (fun e => hl (by rw [e]))] at k
    exact z X.prog X.w X.xe _ ⟨.bl true, H, I, rfl, k⟩
theorem any_known {H : Hp} {a : α} {bs : List α} {ys : List V} {us : List Value} (hi : ∀ H a b x, D H a x → D H b x → a = b) (pb : Paired (D H) bs ys) (ru : Vals ys us) : ∃ e : Value → Bool, (∀ (i : Nat) (u : Value) (b : α), us[i]? = some u → bs[i]? = some b → e u = decide (b = a)) ∧ us.any e = decide (a ∈ bs) := by
  classical
  have hl := ru.length
  have hl2 := Paired.length pb
  refine ⟨fun u => decide (∃ i : Nat, us[i]? = some u ∧ bs[i]? = some a), fun i u b h1 h2 => ?_, ?_⟩
  · have iff : (∃ i : Nat, us[i]? = some u ∧ bs[i]? = some a) ↔ b = a := by
      constructor
      · rintro ⟨j, e1, e2⟩
        have k1 : i < ys.length := by rw [hl]; exact (List.getElem?_eq_some_iff.mp h1).1
        have k2 : j < ys.length := by rw [hl]; exact (List.getElem?_eq_some_iff.mp e1).1
        have g1 : ys[i]? = some ys[i] := List.getElem?_eq_getElem k1
        have g2 : ys[j]? = some ys[j] := List.getElem?_eq_getElem k2
        obtain ⟨b1, q1, d1⟩ := paired_get pb g1
        obtain ⟨b2, q2, d2⟩ := paired_get pb g2
        obtain ⟨u1, w1, r1⟩ := ru.get g1
        obtain ⟨u2, w2, r2⟩ := ru.get g2
        rw [h1] at w1; cases w1
        rw [e1] at w2; cases w2
        rw [h2] at q1; cases q1
        rw [e2] at q2; cases q2
        rw [r1.inj r2] at d1
        exact hi H _ _ _ d1 d2
      · intro e
        subst e
        exact ⟨i, h1, h2⟩
    by_cases hb : b = a
    · rw [decide_eq_true hb]; exact decide_eq_true (iff.mpr hb)
    · rw [decide_eq_false hb]; exact decide_eq_false fun z => hb (iff.mp z)
  · rw [Bool.eq_iff_iff, List.any_eq_true, decide_eq_true_eq]
    constructor
    · rintro ⟨u, _, h⟩
      obtain ⟨i, _, h⟩ := of_decide_eq_true h
      exact List.mem_of_getElem? h
    · intro h
      obtain ⟨i, hi'⟩ := List.getElem?_of_mem h
      have k : i < us.length := by rw [← hl, ← hl2]; exact (List.getElem?_eq_some_iff.mp hi').1
      exact ⟨us[i], List.getElem_mem k, decide_eq_true ⟨i, List.getElem?_eq_getElem k, hi'⟩⟩
theorem in_items {A : Around} {pins : List (Addr × Obj)} {s : Shared} {σ : St} {H : Hp} {a : α} {bs : List α} {x : V} {ys : List V} {v : Value} {us : List Value} (h : EqOk X D d) (hu : A.units + (d + 1) < cLine) (I : Inv X pins σ H s) (da : D H a x) (pb : Paired (D H) bs ys) (rx : RelV x v) (ru : Vals ys us)
    {e : Value → Bool} (he : ∀ (i : Nat) (u : Value) (b : α), us[i]? = some u → bs[i]? = some b → e u = decide (b = a)) : ∀ y, y ∈ us.toArray → EqAt A.in1 s y v (e y) := by
  intro y hy
  obtain ⟨i, hi⟩ := List.getElem?_of_mem (show y ∈ us by simpa using hy)
  have k : i < ys.length := by rw [ru.length]; exact (List.getElem?_eq_some_iff.mp hi).1
  have g : ys[i]? = some ys[i] := List.getElem?_eq_getElem k
  obtain ⟨b, q, db⟩ := paired_get pb g
  obtain ⟨u, w, r⟩ := ru.get g
  rw [hi] at w; cases w
  rw [he i _ b hi q]
  exact h A.in1 pins s σ H b a _ _ _ _ (by show A.units + 1 + d < cLine; (first | lia | omega)) I db da r rx
theorem op_inL (h : EqOk X D d) (hi : ∀ H a b x, D H a x → D H b x → a = b) (hu : X.A.units + (d + 1) < cLine) : OpR X (compareOp .In) (fun x y H Q => ∃ q ys a bs, y = .ref q ∧ (SqL X.K H q ys ∨ SqT X.K H q ys) ∧ D H a x ∧ Paired (D H) bs ys ∧ Q (.bl (decide (a ∈ bs))) H) := by
  intro pins s σ H x y v u Q I rx ry ⟨q, ys, a, bs, ey, hq, da, pb, k⟩
  subst ey
  cases ry
  rcases hq with hq | hq
  · obtain ⟨us, r, pl, _⟩ := I.list hq
    obtain ⟨e, he, ha⟩ := any_known (a := a) hi pb r
    refine in_listAt e pl.isList (in_items h hu I da pb rx r he) ⟨.bl _, H, I, rfl, ?_⟩
    rw [show us.toArray.any e = us.any e by simp, ha]
    exact k
  · obtain ⟨us, r, pl, _⟩ := I.tuple hq
    obtain ⟨e, he, ha⟩ := any_known (a := a) hi pb r
    refine in_tupleAt e pl (in_items h hu I da pb rx r he) ⟨.bl _, H, I, rfl, ?_⟩
    rw [show us.toArray.any e = us.any e by simp, ha]
    exact k
theorem op_notInL (h : EqOk X D d) (hi : ∀ H a b x, D H a x → D H b x → a = b) (hu : X.A.units + (d + 1) < cLine) : OpR X (compareOp .NotIn) (fun x y H Q => ∃ q ys a bs, y = .ref q ∧ (SqL X.K H q ys ∨ SqT X.K H q ys) ∧ D H a x ∧ Paired (D H) bs ys ∧ Q (.bl (!decide (a ∈ bs))) H) := by
  intro pins s σ H x y v u Q I rx ry ⟨q, ys, a, bs, ey, hq, da, pb, k⟩
  subst ey
  cases ry
  rcases hq with hq | hq
  · obtain ⟨us, r, pl, _⟩ := I.list hq
    obtain ⟨e, he, ha⟩ := any_known (a := a) hi pb r
    refine notIn_listAt e pl.isList (in_items h hu I da pb rx r he) ⟨.bl _, H, I, rfl, ?_⟩
    rw [show us.toArray.any e = us.any e by simp, ha]
    exact k
  · obtain ⟨us, r, pl, _⟩ := I.tuple hq
    obtain ⟨e, he, ha⟩ := any_known (a := a) hi pb r
    refine notIn_tupleAt e pl (in_items h hu I da pb rx r he) ⟨.bl _, H, I, rfl, ?_⟩
    rw [show us.toArray.any e = us.any e by simp, ha]
    exact k
end
theorem dInt_inj : ∀ (H : Hp) (a b : Int) (x : V), dInt H a x → dInt H b x → a = b := fun _ _ _ _ h1 h2 => by
  have e := h1.symm.trans h2
  cases e
  rfl
theorem paired_ints {H : Hp} : ∀ (ns : List Int), Paired (dInt H) ns (ns.map V.int)
  | [] => .nil
  | _ :: r => .cons rfl (paired_ints r)
noncomputable def dT : Den (List Int) := fun H ns v => ∃ p, v = .ref p ∧ H p = some (.tup (ns.map V.int))
theorem map_int_inj : ∀ {as bs : List Int}, as.map V.int = bs.map V.int → as = bs
  | [], [], _ => rfl
  | [], _ :: _, h => by cases h
  | _ :: _, [], h => by cases h
  | a :: as, b :: bs, h => by
    rw [List.map_cons, List.map_cons] at h
    injection h with h1 h2
    injection h1 with h1
    rw [h1, map_int_inj h2]
theorem dT_inj : ∀ (H : Hp) (a b : List Int) (x : V), dT H a x → dT H b x → a = b := fun H a b x ⟨p, e, h⟩ ⟨q, e', h'⟩ => by
  subst e
  cases e'
  rw [h] at h'
  have z := Option.some.inj h'
  injection z with z
  exact map_int_inj z
theorem eq_dT_ok {X : Cx} : EqOk X dT 1 := by
  intro A pins s σ H a b x y u v hu I ⟨p, e, h⟩ ⟨q, e', h'⟩ ru rv
  exact eq_tup_ok (d := 0) eq_int_ok dInt_inj A pins s σ H a b x y u v hu I ⟨p, _, e, SqT.of h, paired_ints a⟩ ⟨q, _, e', SqT.of h', paired_ints b⟩ ru rv
section
variable {α : Type} {P : α → V → Prop}
theorem pd_append : ∀ {as bs : List α} {xs ys : List V}, Paired P as xs → Paired P bs ys → Paired P (as ++ bs) (xs ++ ys)
  | _, _, _, _, .nil, s => s
  | _, _, _, _, .cons r t, s => .cons r (pd_append t s)
theorem pd_take : ∀ {as : List α} {xs : List V} (n : Nat), Paired P as xs → Paired P (as.take n) (xs.take n)
  | _, _, 0, _ => by rw [List.take_zero, List.take_zero]; exact .nil
  | _, _, _ + 1, .nil => .nil
  | _, _, n + 1, .cons r t => .cons r (pd_take n t)
theorem pd_drop : ∀ {as : List α} {xs : List V} (n : Nat), Paired P as xs → Paired P (as.drop n) (xs.drop n)
  | _, _, 0, r => r
  | _, _, _ + 1, .nil => .nil
  | _, _, n + 1, .cons _ t => pd_drop n t
theorem pd_rep {as : List α} {xs : List V} (h : Paired P as xs) : ∀ k : Nat, Paired P (List.replicate k as).flatten (List.replicate k xs).flatten
  | 0 => .nil
  | k + 1 => by
    rw [List.replicate_succ, List.replicate_succ, List.flatten_cons, List.flatten_cons]
    exact pd_append h (pd_rep h k)
end
theorem pd_same {α : Type} {D : Den α} {H H' : Hp} (hm : ∀ a x, D H a x → D H' a x) {as : List α} {xs : List V} (h : Paired (D H) as xs) : Paired (D H') as xs := Paired.mapP h hm
theorem dT_same {H H' : Hp} (s : Same H H') : ∀ a x, dT H a x → dT H' a x := fun _ _ ⟨p, e, h⟩ => ⟨p, e, s _ _ h⟩
theorem same_upd {H : Hp} {l : Addr} {o : HO} (h : H l = none) : Same H (upd H l o) := fun b u e => by rw [upd_ne (ne_of_none e h)]; exact e
theorem same_upd' {H H' : Hp} {l : Addr} {o : HO} (s : Same H H') (h : H l = none) : Same H (upd H' l o) := fun b u e => by rw [upd_ne (ne_of_none e h)]; exact s b u e
noncomputable def Nx (N i : Nat) (P : Prop) : Prop := ∃ m', m' < N - i ∧ m' = N - (i + 1) ∧ i + 1 ≤ N ∧ P
theorem Nx.mk {N i : Nat} {P : Prop} (h : i < N) (p : P) : Nx N i P := ⟨_, by (first | lia | omega), rfl, h, p⟩
theorem comp_list' {K : PySem.W.Frag} {a : Addr} {xs : List V} {n : Nat} {fs : List (Nat × Str)} {g : TG} {tc : TT} {te : TE} {σ : St} {H1 : Hp} {Q : VK} {l : Addr} (Pv : Nat → List V → Hp → Prop) (h0 : Pv 0 [] (upd H1 l (.lst [])))
    (hl : ∀ i acc H, i ≤ xs.length → Pv i acc H → SqL K H a xs ∧ H l = some (.lst acc))
    (hs : ∀ i x acc H, xs[i]? = some x → i < xs.length → Pv i acc H → acc.length < sizeLine ∧ g x (sgC n fs σ) H fun σ2 H2 => Wk n (sgC n fs σ) σ2 ∧ tc σ2 H2 fun b H3 =>
      if b = true then te σ2 H3 fun y H4 => H4 l = some (.lst acc) ∧ Nx xs.length i (Pv (i + 1) (acc ++ [y]) (upd H4 l (.lst (acc ++ [y])))) else Nx xs.length i (Pv (i + 1) acc H3))
    (hd : ∀ acc H, Pv xs.length acc H → Q (.ref l) H) : CompW n fs (Itl K a) g tc te σ H1 Q l := by
  refine ⟨fun i m acc H => m = xs.length - i ∧ i ≤ xs.length ∧ Pv i acc H, ⟨_, rfl, Nat.zero_le _, h0⟩, ?_⟩
  rintro i m acc H ⟨rfl, hi, p⟩
  obtain ⟨q, hla⟩ := hl i acc H hi p
  refine ⟨hla, ?_⟩
  by_cases hlt : i < xs.length
  · have hx : xs[i]? = some xs[i] := List.getElem?_eq_getElem hlt
    refine .inr ⟨(hs i _ acc H hx hlt p).1, ⟨xs, xs[i], q, hx⟩, fun x H' y => ?_⟩
    obtain ⟨e, y⟩ := y
    subst e
    exact (hs i x acc _ (y xs q) hlt p).2
  · have e : i = xs.length := by (first | lia | omega)
    subst e
    exact .inl ⟨⟨xs, q, Nat.le_refl _⟩, hd acc H p⟩
theorem comp_range' {lo : Int} {m0 : Nat} {n : Nat} {fs : List (Nat × Str)} {g : TG} {tc : TT} {te : TE} {σ : St} {H1 : Hp} {Q : VK} {l : Addr} (Pv : Nat → List V → Hp → Prop) (h0 : Pv 0 [] (upd H1 l (.lst [])))
    (hl : ∀ i acc H, i ≤ m0 → Pv i acc H → H l = some (.lst acc))
    (hs : ∀ i acc H, i < m0 → Pv i acc H → acc.length < sizeLine ∧ g (.int (lo + i)) (sgC n fs σ) H fun σ2 H2 => Wk n (sgC n fs σ) σ2 ∧ tc σ2 H2 fun b H3 =>
      if b = true then te σ2 H3 fun y H4 => H4 l = some (.lst acc) ∧ Nx m0 i (Pv (i + 1) (acc ++ [y]) (upd H4 l (.lst (acc ++ [y])))) else Nx m0 i (Pv (i + 1) acc H3))
    (hd : ∀ acc H, Pv m0 acc H → Q (.ref l) H) : CompW n fs (Itr lo m0) g tc te σ H1 Q l := by
  refine ⟨fun i m acc H => m = m0 - i ∧ i ≤ m0 ∧ Pv i acc H, ⟨_, rfl, Nat.zero_le _, h0⟩, ?_⟩
  rintro i m acc H ⟨rfl, hi, p⟩
  refine ⟨hl i acc H hi p, ?_⟩
  by_cases hlt : i < m0
  · refine .inr ⟨(hs i acc H hlt p).1, hlt, fun x H' y => ?_⟩
    obtain ⟨e, y⟩ := y
    subst e y
    exact (hs i acc _ hlt p).2
  · have e : i = m0 := by (first | lia | omega)
    subst e
    exact .inl ⟨Nat.le_refl _, hd acc H p⟩
structure Def (K : PySem.W.Frag) (mg : Str → Option Value) (x : Str) (st : Stmt) (ps : List Str) where
  f : Addr
  fd : FuncData
  F : Fun K x x st f fd
  mgf : mg x = some (.ref f)
  b : Binds K fd ps []
noncomputable def scopeOk (names outer : List (Str × NameKind)) : Bool := names.all fun y => (y.2 != NameKind.cell) && (y.2 != NameKind.local || names.lookup y.1 == some .local) && (y.2 != NameKind.free || outer.lookup y.1 == some .cell || outer.lookup y.1 == some .free)
theorem CScope.mk' {X : Cx} {scope : Scope} {ts : List Str} {fs : List (Nat × Str)} (kind : scope.kind = .function) (c : scopeOk scope.names X.env.scope.names = true) (f : FsOk X.N scope fs) : CScope X scope ts fs := by
  have all : ∀ y ∈ scope.names, ((y.2 != NameKind.cell) && (y.2 != NameKind.local || scope.names.lookup y.1 == some .local) && (y.2 != NameKind.free || X.env.scope.names.lookup y.1 == some .cell || X.env.scope.names.lookup y.1 == some .free)) = true := List.all_eq_true.mp c
  refine ⟨kind, fun y hy z => ?_, fun y hy z => ?_, fun y hy z => ?_, f⟩
  · have h := all y hy
    rw [z] at h
    simp at h
  · have h := all y hy
    rw [z] at h
    simpa using h
  · have h := all y hy
    rw [z] at h
    simp at h
    exact h
end L2
namespace L2
open PySem PySem.Spec PyProof.Rows PySem.SeqAt
section
variable {X : Cx}
theorem call_allB (hc : X.calm = true) : CallR X (.builtin "all") (fun xs H Q => ∃ (p : Addr) (bs : List Bool), xs = [.ref p] ∧ SqL X.K H p (bs.map V.bl) ∧ Q (.bl (bs.all id)) H) := by
  intro pins s σ H xs us Q I r h
  obtain ⟨p, bs, rfl, hq, q⟩ := h
  obtain ⟨u, rfl, ru⟩ := vals1 r
  cases ru
  obtain ⟨its, r', pl, hz⟩ := I.list hq
  have hlen := r'.length
  rw [List.length_map] at hlen
  refine call_all_walk (wpAny_pyIter_list pl.isList ?_)
  have hplt : p < s.heap.objs.size := by
    obtain ⟨o, e, _⟩ := pl.isList
    exact Heap.lt_size e
  have I1 : Inv X pins σ H { s with heap := s.heap.push { cls := .type "list_iterator", data := .fields #[.ref p, rawInt 0] } } := I.kept (t' := s.toks) fun b o e => Heap.get?_push_of_some _ e
  refine ⟨s.heap.objs.size, _, _, _, _, _, fun i => bs.getD i false, rfl, Walks.list (A := X.A.in1) (show X.A.in1.handled = none from I.ok.hd hc) s.heap.objs.size p (Nat.ne_of_lt hplt) its.toArray, ⟨⟨_, Heap.get?_push_size _ rfl, rfl, rfl⟩, ?_⟩, ?_, fun h' tk hk => ?_⟩
  · obtain ⟨o, e, c⟩ := pl.isList
    exact ⟨o, Heap.get?_push_of_some _ e, c⟩
  · intro i v s' Q' E' hv hQ
    have hv' : its[i]? = some v := by simpa using hv
    have hi : i < its.length := (List.getElem?_eq_some_iff.mp hv').1
    obtain ⟨w, hw, rw'⟩ := r'.get (i := i) (x := .bl (bs.getD i false)) (by
      rw [List.getElem?_map, List.getElem?_eq_getElem (by (first | lia | omega)), List.getD_eq_getElem?_getD, List.getElem?_eq_getElem (by (first | lia | omega))]; rfl)
    rw [hv'] at hw
    cases hw
    cases rw'
    exact wpAny_truthy_bool hQ
  · have e : (List.range its.toArray.size).all (fun i => bs.getD i false) = bs.all id := by
      rw [List.size_toArray, ← hlen, Bool.eq_iff_iff, List.all_eq_true, List.all_eq_true]
      constructor
      · intro h x hx
        obtain ⟨i, hi⟩ := List.getElem?_of_mem hx
        have := h i (List.mem_range.mpr (List.getElem?_eq_some_iff.mp hi).1)
        rw [List.getD_eq_getElem?_getD, hi] at this
        exact this
      · intro h i hi
        have hi' := List.mem_range.mp hi
        rw [List.getD_eq_getElem?_getD, List.getElem?_eq_getElem hi']
        exact h _ (List.getElem_mem hi')
    rw [e]
    have f := I.fpOk (H' := H) (Nat.le_refl s.heap.objs.size) (I.hok.fresh (Nat.le_refl _))
    obtain ⟨f0, f1, f2, f3, f4, f5⟩ := f
    exact ⟨.bl _, H, I1.turned (t' := tk) (fun b o hb e => hk b o (by simpa using hb) e) f0 f1 f3 f4 f5, rfl, q⟩
end
end L2
namespace L2
open PySem PySem.Spec PyProof.Rows
theorem iteP {c A B : Prop} [Decidable c] (hc : c) (h : A) : if decide c = true then A else B := by
  rw [decide_eq_true hc]
  exact iteT h
theorem iteN {c A B : Prop} [Decidable c] (hc : ¬ c) (h : B) : if decide c = true then A else B := by
  rw [decide_eq_false hc]
  exact iteF h
theorem iteNN {c A B : Prop} [Decidable c] (hc : ¬ c) (h : A) : if (!decide c) = true then A else B := by
  rw [decide_eq_false hc]
  exact iteT h
theorem iteS {c A B : Prop} {i : Decidable c} (hc : c) (h : B) : if (!@decide c i) = true then A else B := by
  rw [@decide_eq_true c i hc]
  exact iteF h
theorem of_dec {c : Prop} {i : Decidable c} (h : @decide c i = true) : c := @of_decide_eq_true c i h
theorem sz1 {x : V} : ([x] : List V).length ≤ sizeLine := by show 1 ≤ sizeLine; rw [sizeLine_eq]; decide
theorem sz2 {x y : V} : ([x, y] : List V).length ≤ sizeLine := by show 2 ≤ sizeLine; rw [sizeLine_eq]; decide
theorem cat_tup0 {prog : Program} {w : World} {A : Around} {E : Value → Shared → Prop} {s : Shared} {t b : Addr} {ws : List Value} {Q : Value → Shared → Prop} (ht : IsTup s.heap t ([] : List Value).toArray) (hb : IsTup s.heap b ws.toArray) (h : Q (.ref b) s) :
    wpAny (model prog w) A (binaryOp .Add (.ref t) (.ref b)) Q E s := by
  obtain ⟨⟨cls, dd, data, sl⟩, ho, hc, n, hd⟩ := id ht
  obtain ⟨⟨cls2, dd2, data2, sl2⟩, ho2, hc2, n2, hd2⟩ := id hb
  simp only at hc hd hc2 hd2
  subst hc hd hc2 hd2
  exact concat_meets ⟨_, ho, rfl⟩ ⟨_, ho2, rfl⟩ noFill_tuple_add seq_tuple_add PySem.F.slot_tuple_add PySem.F.entry_tuple_add (PySem.F.args_tuple_add_2 _ _)
    (tuple_addW0 t b ([] : List Value).toArray ws.toArray n n2 dd dd2 sl sl2 (by simp)) ⟨ho, ho2, h⟩
section
variable {X : Cx}
theorem op_catU : OpR X (binaryOp .Add) (fun x y H Q => ∃ a b xs ys, x = .ref a ∧ y = .ref b ∧ SqT X.K H a xs ∧ H b = some (.tup ys) ∧ ys ≠ [] ∧ xs.length + ys.length ≤ sizeLine ∧ ∀ p H', Same H H' → H' p = some (.tup (xs ++ ys)) → Q (.ref p) H') := by
  intro pins s σ H x y v u Q I rx ry h
  obtain ⟨a, b, xs, ys, rfl, rfl, ha, hb, hy, hz, q⟩ := h
  by_cases hx : xs = []
  · subst hx
    cases rx
    cases ry
    obtain ⟨its, r1, p1, _⟩ := I.tuple ha
    obtain ⟨its2, r2, p2, _⟩ := I.tuple (SqT.of hb)
    have e : its = [] := r1.nil_iff.mpr rfl
    subst e
    exact cat_tup0 p1 p2 ⟨.ref b, H, I, rfl, q b H (Same.refl H) (by rw [List.nil_append]; exact hb)⟩
  · exact op_catT pins s σ H (.ref a) (.ref b) v u Q I rx ry ⟨a, b, xs, ys, rfl, rfl, ha, SqT.of hb, hx, hz, fun z => absurd z hy, fun _ p hp => q p _ (same_upd hp) upd_same⟩
end
theorem comp_tup' {K : PySem.W.Frag} {a : Addr} {xs : List V} {n : Nat} {fs : List (Nat × Str)} {g : TG} {tc : TT} {te : TE} {σ : St} {H1 : Hp} {Q : VK} {l : Addr} (Pv : Nat → List V → Hp → Prop) (h0 : Pv 0 [] (upd H1 l (.lst [])))
    (hl : ∀ i acc H, i ≤ xs.length → Pv i acc H → SqT K H a xs ∧ H l = some (.lst acc))
    (hs : ∀ i x acc H, xs[i]? = some x → i < xs.length → Pv i acc H → acc.length < sizeLine ∧ g x (sgC n fs σ) H fun σ2 H2 => Wk n (sgC n fs σ) σ2 ∧ tc σ2 H2 fun b H3 =>
      if b = true then te σ2 H3 fun y H4 => H4 l = some (.lst acc) ∧ Nx xs.length i (Pv (i + 1) (acc ++ [y]) (upd H4 l (.lst (acc ++ [y])))) else Nx xs.length i (Pv (i + 1) acc H3))
    (hd : ∀ acc H, Pv xs.length acc H → Q (.ref l) H) : CompW n fs (Itt K a) g tc te σ H1 Q l := by
  refine ⟨fun i m acc H => m = xs.length - i ∧ i ≤ xs.length ∧ Pv i acc H, ⟨_, rfl, Nat.zero_le _, h0⟩, ?_⟩
  rintro i m acc H ⟨rfl, hi, p⟩
  obtain ⟨q, hla⟩ := hl i acc H hi p
  refine ⟨hla, ?_⟩
  by_cases hlt : i < xs.length
  · have hx : xs[i]? = some xs[i] := List.getElem?_eq_getElem hlt
    refine .inr ⟨(hs i _ acc H hx hlt p).1, ⟨xs, xs[i], q, hx⟩, fun x H' y => ?_⟩
    obtain ⟨e, y⟩ := y
    subst e
    exact (hs i x acc _ (y xs q) hlt p).2
  · have e : i = xs.length := by (first | lia | omega)
    subst e
    exact .inl ⟨⟨xs, q, Nat.le_refl _⟩, hd acc H p⟩
noncomputable def tCut (t : TS) : TS := fun D σ H => ∃ P : St → Hp → Prop, t { D with nx := P } σ H ∧ ∀ σ' H', P σ' H' → D.nx σ' H'
theorem ps_cut {X : Cx} {st : Stmt} {t : TS} (h : PS X st t) : PS X st (tCut t) := by
  rintro pins s σ H D I ⟨P, hp, hk⟩
  refine thn (h pins s σ H _ I hp) fun f s' q => ?_
  cases f with
  | next => obtain ⟨σ', H', I', q⟩ := q; exact ⟨σ', H', I', hk _ _ q⟩
  | brk => exact q
  | cont => exact q
  | ret v => exact q
noncomputable def tCutT (t : TT) : TT := fun σ H Q => ∃ P : Bool → Hp → Prop, t σ H P ∧ ∀ b H', P b H' → Q b H'
theorem pt_cut {X : Cx} {e : Expr} {t : TT} (h : PT X e t) : PT X e (tCutT t) := by
  rintro pins s σ H Q I ⟨P, hp, hk⟩
  exact thn (h pins s σ H _ I hp) fun b s' ⟨H', I', q⟩ => ⟨H', I', hk _ _ q⟩
end L2
namespace Srt
open PySem PySem.W PyProof.Rows
noncomputable def run {α : Type} (lt : Nat → Nat → Bool) : KasT α → α
  | .ret a => a
  | .ask i j k => run lt (k (lt i j))
theorem run_bind {α β : Type} (lt : Nat → Nat → Bool) (f : α → KasT β) : ∀ t : KasT α, run lt (t.bind f) = run lt (f (run lt t))
  | .ret _ => rfl
  | .ask i j k => run_bind lt f (k (lt i j))
structure Ord (N : Nat) (lt : Nat → Nat → Bool) : Prop where
  tri : ∀ a b, a < N → b < N → a ≠ b → lt a b = true ∨ lt b a = true
  tr : ∀ a b c, a < N → b < N → c < N → lt a b = true → lt b c = true → lt a c = true
  asy : ∀ a b, a < N → b < N → lt a b = true → lt b a = false
structure Arr (N : Nat) (p : Array Nat) : Prop where
  size : p.size = N
  low : ∀ i, i < N → p.getD i 0 < N
  inj : ∀ i j, i < N → j < N → i ≠ j → p.getD i 0 ≠ p.getD j 0
noncomputable def Up (lt : Nat → Nat → Bool) (p : Array Nat) (m : Nat) : Prop := ∀ i j, i < j → j < m → lt (p.getD i 0) (p.getD j 0) = true
noncomputable def Dn (lt : Nat → Nat → Bool) (p : Array Nat) (m : Nat) : Prop := ∀ i j, i < j → j < m → lt (p.getD j 0) (p.getD i 0) = true
section
variable {N : Nat} {lt : Nat → Nat → Bool} {p : Array Nat}
theorem Ord.no (o : Ord N lt) (a : Arr N p) {i j : Nat} (hi : i < N) (hj : j < N) (h : i ≠ j) (e : ¬ lt (p.getD i 0) (p.getD j 0) = true) : lt (p.getD j 0) (p.getD i 0) = true :=
  (o.tri _ _ (a.low i hi) (a.low j hj) (a.inj i j hi hj h)).elim (fun z => absurd z e) id
theorem Up.snoc (o : Ord N lt) (a : Arr N p) {n : Nat} (h1 : 1 ≤ n) (hn : n < N) (u : Up lt p n) (e : lt (p.getD (n - 1) 0) (p.getD n 0) = true) : Up lt p (n + 1) := fun i j hij hj => by
  by_cases hjn : j < n
  · exact u i j hij hjn
  · have ej : j = n := by (first | lia | omega)
    subst ej
    by_cases hi : i = j - 1
    · rw [hi]; exact e
    · exact o.tr _ _ _ (a.low i (by (first | lia | omega))) (a.low (j - 1) (by (first | lia | omega))) (a.low j hn) (u i (j - 1) (by (first | lia | omega)) (by (first | lia | omega))) e
theorem Dn.snoc (o : Ord N lt) (a : Arr N p) {n : Nat} (h1 : 1 ≤ n) (hn : n < N) (u : Dn lt p n) (e : lt (p.getD n 0) (p.getD (n - 1) 0) = true) : Dn lt p (n + 1) := fun i j hij hj => by
  by_cases hjn : j < n
  · exact u i j hij hjn
  · have ej : j = n := by (first | lia | omega)
    subst ej
    by_cases hi : i = j - 1
    · rw [hi]; exact e
    · exact o.tr _ _ _ (a.low j hn) (a.low (j - 1) (by (first | lia | omega))) (a.low i (by (first | lia | omega))) e (u i (j - 1) (by (first | lia | omega)) (by (first | lia | omega)))
theorem asc (o : Ord N lt) (a : Arr N p) : ∀ (f n : Nat), 1 ≤ n → n + f = N → Up lt p n → n ≤ run lt (kas_asc p f n) ∧ run lt (kas_asc p f n) ≤ N ∧ Up lt p (run lt (kas_asc p f n)) ∧ (run lt (kas_asc p f n) < N → lt (p.getD (run lt (kas_asc p f n)) 0) (p.getD (run lt (kas_asc p f n) - 1) 0) = true)
  | 0, n, _, hf, u => ⟨Nat.le_refl n, (by show n ≤ N; (first | lia | omega)), u, fun h => (by have h' : n < N := h; (first | lia | omega))⟩
  | f + 1, n, h1, hf, u => by
    show n ≤ run lt (if lt (p.getD n 0) (p.getD (n - 1) 0) = true then .ret n else kas_asc p f (n + 1)) ∧ run lt (if lt (p.getD n 0) (p.getD (n - 1) 0) = true then .ret n else kas_asc p f (n + 1)) ≤ N ∧ Up lt p (run lt (if lt (p.getD n 0) (p.getD (n - 1) 0) = true then .ret n else kas_asc p f (n + 1))) ∧
      (run lt (if lt (p.getD n 0) (p.getD (n - 1) 0) = true then .ret n else kas_asc p f (n + 1)) < N → lt (p.getD (run lt (if lt (p.getD n 0) (p.getD (n - 1) 0) = true then .ret n else kas_asc p f (n + 1))) 0) (p.getD (run lt (if lt (p.getD n 0) (p.getD (n - 1) 0) = true then .ret n else kas_asc p f (n + 1)) - 1) 0) = true)
    by_cases e : lt (p.getD n 0) (p.getD (n - 1) 0) = true
    · rw [if_pos e]
      exact ⟨Nat.le_refl n, (by show n ≤ N; (first | lia | omega)), u, fun _ => e⟩
    · rw [if_neg e]
      obtain ⟨q1, q2, q3, q4⟩ := asc o a f (n + 1) (by (first | lia | omega)) (by (first | lia | omega)) (u.snoc o a h1 (by (first | lia | omega)) (o.no a (by (first | lia | omega)) (by (first | lia | omega)) (by (first | lia | omega)) e))
      exact ⟨by (first | lia | omega), q2, q3, q4⟩
theorem desc (o : Ord N lt) (a : Arr N p) : ∀ (f n : Nat), 1 ≤ n → n + f = N → Dn lt p n → ∃ m, run lt (kas_desc f p n 0) = (p, m, 0) ∧ n ≤ m ∧ m ≤ N ∧ Dn lt p m
  | 0, n, _, hf, u => ⟨n, rfl, Nat.le_refl n, by (first | lia | omega), u⟩
  | f + 1, n, h1, hf, u => by
    show ∃ m, run lt (if lt (p.getD n 0) (p.getD (n - 1) 0) = true then (if 0 > 0 then kas_desc f (kas_rev p (n - (0 + 1)) n) (n + 1) 0 else kas_desc f p (n + 1) 0)
      else .ask (p.getD (n - 1) 0) (p.getD n 0) fun d => if d = true then .ret (p, n, 0) else kas_desc f p (n + 1) (0 + 1)) = (p, m, 0) ∧ n ≤ m ∧ m ≤ N ∧ Dn lt p m
    by_cases e : lt (p.getD n 0) (p.getD (n - 1) 0) = true
    · rw [if_pos e, if_neg (by (first | lia | omega))]
      obtain ⟨m, q1, q2, q3, q4⟩ := desc o a f (n + 1) (by (first | lia | omega)) (by (first | lia | omega)) (u.snoc o a h1 (by (first | lia | omega)) e)
      exact ⟨m, q1, by (first | lia | omega), q3, q4⟩
    · rw [if_neg e]
      have e' := o.no a (i := n) (j := n - 1) (by (first | lia | omega)) (by (first | lia | omega)) (by (first | lia | omega)) e
      refine ⟨n, ?_, Nat.le_refl n, by (first | lia | omega), u⟩
      show run lt (if lt (p.getD (n - 1) 0) (p.getD n 0) = true then KasT.ret (p, n, 0) else kas_desc f p (n + 1) (0 + 1)) = (p, n, 0)
      rw [if_pos e']
      rfl
theorem getD_of {q : Array Nat} {i j : Nat} (h : q[i]? = p[j]?) : q.getD i 0 = p.getD j 0 := by
  rw [Array.getD_eq_getD_getElem?, Array.getD_eq_getD_getElem?, h]
theorem rev_get (a : Arr N p) {n : Nat} (hn : n ≤ N) (k : Nat) : (kas_rev p 0 n).getD k 0 = if k < n then p.getD (n - 1 - k) 0 else p.getD k 0 := by
  have h := getElem?_mirror_all (xs := p) (i := 0) (j := n) (by rw [a.size]; exact hn) k
  by_cases hk : k < n
  · rw [if_pos hk]
    rw [if_pos ⟨Nat.zero_le _, hk⟩] at h
    exact (getD_of h).trans (by congr 1; (first | lia | omega))
  · rw [if_neg hk]
    rw [if_neg (by (first | lia | omega))] at h
    exact getD_of h
theorem rev_arr (a : Arr N p) {n : Nat} (hn : n ≤ N) : Arr N (kas_rev p 0 n) := by
  refine ⟨(mirror_size ..).trans a.size, fun i hi => ?_, fun i j hi hj hij => ?_⟩
  · rw [rev_get a hn]
    split
    · exact a.low _ (by (first | lia | omega))
    · exact a.low _ hi
  · rw [rev_get a hn, rev_get a hn]
    split <;> split <;> exact a.inj _ _ (by (first | lia | omega)) (by (first | lia | omega)) (by (first | lia | omega))
theorem rev_up (a : Arr N p) {n : Nat} (hn : n ≤ N) (u : Dn lt p n) : Up lt (kas_rev p 0 n) n := fun i j hij hj => by
  rw [rev_get a hn, rev_get a hn, if_pos (by (first | lia | omega)), if_pos hj]
  exact u _ _ (by (first | lia | omega)) (by (first | lia | omega))
theorem count (o : Ord N lt) (a : Arr N p) (h2 : 2 ≤ N) : ∃ m q, run lt (kas_count N p) = (m, q) ∧ Arr N q ∧ 1 ≤ m ∧ m ≤ N ∧ Up lt q m := by
  unfold kas_count
  rw [run_bind]
  obtain ⟨q1, q2, q3, q4⟩ := asc o a (N - 1) 1 (Nat.le_refl _) (by (first | lia | omega)) (fun i j hij hj => by (first | lia | omega))
  generalize run lt (kas_asc p (N - 1) 1) = n at q1 q2 q3 q4
  by_cases e : (n == N) = true
  · rw [if_pos e]
    exact ⟨n, p, rfl, a, q1, q2, q3⟩
  · rw [if_neg e]
    have hne : n ≠ N := fun z => e (by rw [z]; exact beq_self_eq_true _)
    by_cases h1 : n > 1
    · rw [if_pos h1]
      refine ⟨n, p, ?_, a, q1, q2, q3⟩
      show run lt (if lt (p.getD 0 0) (p.getD (n - 1) 0) = true then .ret (n, p) else kas_descPart n N (kas_rev p 0 n)) = (n, p)
      rw [if_pos (q3 0 (n - 1) (by (first | lia | omega)) (by (first | lia | omega)))]
      rfl
    · rw [if_neg h1]
      have en : n = 1 := by (first | lia | omega)
      subst en
      have hd : Dn lt p 2 := fun i j hij hj => by
        have ei : i = 0 := by (first | lia | omega)
        have ej : j = 1 := by (first | lia | omega)
        subst ei ej
        exact q4 (by (first | lia | omega))
      unfold kas_descPart
      rw [run_bind]
      obtain ⟨m, r1, r2, r3, r4⟩ := desc o a (N - (1 + 1)) (1 + 1) (by (first | lia | omega)) (by (first | lia | omega)) hd
      rw [r1]
      show ∃ m' q, run lt (if (0 : Nat) > 0 then kas_tail3 m N (kas_rev p (m - (0 + 1)) m) else kas_tail3 m N p) = (m', q) ∧ Arr N q ∧ 1 ≤ m' ∧ m' ≤ N ∧ Up lt q m'
      rw [if_neg (by (first | lia | omega))]
      unfold kas_tail3
      rw [run_bind]
      obtain ⟨s1, s2, s3, _⟩ := asc o (rev_arr a r3) (N - m) m (by (first | lia | omega)) (by (first | lia | omega)) (rev_up a r3 r4)
      exact ⟨_, _, rfl, rev_arr a r3, by (first | lia | omega), s2, s3⟩
theorem place (o : Ord N lt) (a : Arr N p) {k : Nat} (hk : k < N) (u : Up lt p k) : ∀ (f l r : Nat), l ≤ r → r ≤ k → r - l ≤ f → (∀ i, i < l → lt (p.getD i 0) (p.getD k 0) = true) → (∀ i, r ≤ i → i < k → lt (p.getD k 0) (p.getD i 0) = true) →
    run lt (kas_place p k f l r) ≤ k ∧ (∀ i, i < run lt (kas_place p k f l r) → lt (p.getD i 0) (p.getD k 0) = true) ∧ ∀ i, run lt (kas_place p k f l r) ≤ i → i < k → lt (p.getD k 0) (p.getD i 0) = true
  | 0, l, r, hlr, hr, hf, h1, h2 => by
    have e : l = r := by (first | lia | omega)
    subst e
    exact ⟨hr, h1, h2⟩
  | f + 1, l, r, hlr, hr, hf, h1, h2 => by
    unfold kas_place
    by_cases e : l ≥ r
    · rw [if_pos e]
      have e' : l = r := by (first | lia | omega)
      subst e'
      exact ⟨hr, h1, h2⟩
    · rw [if_neg e]
      by_cases c : lt (p.getD k 0) (p.getD ((l + r) / 2) 0) = true
      · have ih := place o a hk u f l ((l + r) / 2) (by (first | lia | omega)) (by (first | lia | omega)) (by (first | lia | omega)) h1 (fun i hi hik => by
          by_cases z : i = (l + r) / 2
          · rw [z]; exact c
          · exact o.tr _ _ _ (a.low k hk) (a.low _ (by (first | lia | omega))) (a.low i (by (first | lia | omega))) c (u _ i (by (first | lia | omega)) hik))
        have e2 : run lt (KasT.ask (p.getD k 0) (p.getD ((l + r) / 2) 0) fun c => if c = true then kas_place p k f l ((l + r) / 2) else kas_place p k f ((l + r) / 2 + 1) r) = run lt (kas_place p k f l ((l + r) / 2)) := by
          show run lt (if lt (p.getD k 0) (p.getD ((l + r) / 2) 0) = true then kas_place p k f l ((l + r) / 2) else kas_place p k f ((l + r) / 2 + 1) r) = _
          rw [if_pos c]
        rw [e2]
        exact ih
      · have c' := o.no a (i := k) (j := (l + r) / 2) hk (by (first | lia | omega)) (by (first | lia | omega)) c
        have ih := place o a hk u f ((l + r) / 2 + 1) r (by (first | lia | omega)) hr (by (first | lia | omega)) (fun i hi => by
          by_cases z : i = (l + r) / 2
          · rw [z]; exact c'
          · exact o.tr _ _ _ (a.low i (by (first | lia | omega))) (a.low _ (by (first | lia | omega))) (a.low k hk) (u i _ (by (first | lia | omega)) (by (first | lia | omega))) c') h2
        have e2 : run lt (KasT.ask (p.getD k 0) (p.getD ((l + r) / 2) 0) fun c => if c = true then kas_place p k f l ((l + r) / 2) else kas_place p k f ((l + r) / 2 + 1) r) = run lt (kas_place p k f ((l + r) / 2 + 1) r) := by
          show run lt (if lt (p.getD k 0) (p.getD ((l + r) / 2) 0) = true then kas_place p k f l ((l + r) / 2) else kas_place p k f ((l + r) / 2 + 1) r) = _
          rw [if_neg c]
        rw [e2]
        exact ih
theorem bub_get (a : Arr N p) {k l : Nat} (hk : k < N) (hl : l ≤ k) (i : Nat) : (bubble p k (k - l)).getD i 0 = if i = l then p.getD k 0 else if l < i ∧ i ≤ k then p.getD (i - 1) 0 else p.getD i 0 := by
  have h := getElem?_bubble (xs := p) (src := k) (by rw [a.size]; exact hk) (k - l) (by (first | lia | omega)) i
  rw [show k - (k - l) = l by (first | lia | omega)] at h
  by_cases e1 : i = l
  · rw [if_pos e1] at h ⊢
    exact getD_of h
  · rw [if_neg e1] at h ⊢
    by_cases e2 : l < i ∧ i ≤ k
    · rw [if_pos e2] at h ⊢
      exact getD_of h
    · rw [if_neg e2] at h ⊢
      exact getD_of h
theorem bub_arr (a : Arr N p) {k l : Nat} (hk : k < N) (hl : l ≤ k) : Arr N (bubble p k (k - l)) := by
  refine ⟨(bubble_size ..).trans a.size, fun i hi => ?_, fun i j hi hj hij => ?_⟩
  · rw [bub_get a hk hl]
    split
    · exact a.low _ hk
    · split
      · exact a.low _ (by (first | lia | omega))
      · exact a.low _ hi
  · rw [bub_get a hk hl, bub_get a hk hl]
    repeat' split
    all_goals first | (exfalso; (first | lia | omega)) | exact a.inj _ _ (by (first | lia | omega)) (by (first | lia | omega)) (by (first | lia | omega))
theorem bin (o : Ord N lt) : ∀ (f : Nat) (p : Array Nat) (k : Nat), Arr N p → k + f = N → Up lt p k → ∃ q, run lt (kas_bin f p k) = q ∧ Arr N q ∧ Up lt q N
  | 0, p, k, a, hf, u => ⟨p, rfl, a, by rw [← hf]; exact u⟩
  | f + 1, p, k, a, hf, u => by
    unfold kas_bin
    rw [run_bind]
    obtain ⟨q1, q2, q3⟩ := place o a (k := k) (by (first | lia | omega)) u k 0 k (by (first | lia | omega)) (Nat.le_refl _) (by (first | lia | omega)) (fun i hi => by (first | lia | omega)) (fun i hi hik => by (first | lia | omega))
    generalize run lt (kas_place p k k 0 k) = l at q1 q2 q3
    refine bin o f _ (k + 1) (bub_arr a (by (first | lia | omega)) q1) (by (first | lia | omega)) fun i j hij hj => ?_
    rw [bub_get a (by (first | lia | omega)) q1, bub_get a (by (first | lia | omega)) q1]
    repeat' split
    all_goals first | (exfalso; (first | lia | omega)) | (exact q2 _ (by (first | lia | omega))) | (exact q3 _ (by (first | lia | omega)) (by (first | lia | omega))) | (exact u _ _ (by (first | lia | omega)) (by (first | lia | omega)))
end
theorem arr_range (N : Nat) : Arr N (List.toArray (List.range N)) := by
  have g : ∀ i, i < N → (List.toArray (List.range N)).getD i 0 = i := fun i hi => by
    rw [Array.getD_eq_getD_getElem?]
    simp [hi]
  refine ⟨by simp, fun i hi => by rw [g i hi]; exact hi, fun i j hi hj h => by rw [g i hi, g j hj]; exact h⟩
theorem sort_ok {N : Nat} {lt : Nat → Nat → Bool} (o : Ord N lt) (h2 : 2 ≤ N) : Arr N (run lt (kas_sort N)) ∧ Up lt (run lt (kas_sort N)) N := by
  unfold kas_sort
  rw [run_bind]
  obtain ⟨m, q, e, a, h1, hm, u⟩ := count o (arr_range N) h2
  rw [e]
  show Arr N (run lt (if m < N then kas_bin (N - max m 1) q (max m 1) else .ret q)) ∧ Up lt (run lt (if m < N then kas_bin (N - max m 1) q (max m 1) else .ret q)) N
  have em : max m 1 = m := by (first | lia | omega)
  rw [em]
  by_cases h : m < N
  · rw [if_pos h]
    obtain ⟨q', e', a', u'⟩ := bin o (N - m) q m a (by (first | lia | omega)) u
    rw [e']
    exact ⟨a', u'⟩
  · rw [if_neg h]
    have : m = N := by (first | lia | omega)
    subst this
    exact ⟨a, u⟩
end Srt
namespace Srt
open PySem PySem.W PyProof.Rows
noncomputable def Fair {α : Type} (N : Nat) (lt : Nat → Nat → Bool) : KasT α → Prop
  | .ret _ => True
  | .ask i j k => i < N ∧ j < N ∧ Fair N lt (k (lt i j))
theorem fair_bind {α β : Type} {N : Nat} {lt : Nat → Nat → Bool} {f : α → KasT β} : ∀ {t : KasT α}, Fair N lt t → Fair N lt (f (run lt t)) → Fair N lt (t.bind f)
  | .ret _, _, h => h
  | .ask i j k, ⟨h1, h2, h3⟩, h => ⟨h1, h2, fair_bind (t := k (lt i j)) h3 h⟩
theorem wp_run {α : Type} {N : Nat} {lt : Nat → Nat → Bool} {cmp : Nat → Nat → (Bool → Shared → Prop) → Shared → Prop} {s : Shared} (hc : ∀ i j C, i < N → j < N → C (lt i j) s → cmp i j C s) {Q : α → Shared → Prop} : ∀ {t : KasT α}, Fair N lt t → Q (run lt t) s → t.kasWp cmp Q s
  | .ret _, _, h => h
  | .ask i j k, ⟨h1, h2, h3⟩, h => hc i j _ h1 h2 (wp_run hc (t := k (lt i j)) h3 h)
noncomputable def Lo (N : Nat) (p : Array Nat) : Prop := ∀ i, p.getD i 0 < N
theorem Lo.perm {N : Nat} {p q : Array Nat} (h : Lo N p) (hN : 0 < N) (e : q.Perm p) : Lo N q := fun i => by
  by_cases hi : i < q.size
  · have hm : q[i] ∈ p := e.mem_iff.mp (Array.getElem_mem hi)
    obtain ⟨j, hj, ej⟩ := Array.mem_iff_getElem.mp hm
    have := h j
    simp only [Array.getD, hj, hi, dif_pos] at this ⊢
    rw [show q.getInternal i hi = q[i] from rfl, ← ej]
    exact this
  · simp only [Array.getD, hi, dif_neg, not_false_eq_true]
    exact hN
section
variable {N : Nat} {lt : Nat → Nat → Bool}
theorem fair_asc {p : Array Nat} (h : Lo N p) : ∀ f n, Fair N lt (kas_asc p f n)
  | 0, _ => trivial
  | f + 1, n => ⟨h _, h _, by
    by_cases e : lt (p.getD n 0) (p.getD (n - 1) 0) = true
    · dsimp only; rw [if_pos e]; trivial
    · dsimp only; rw [if_neg e]; exact fair_asc h f (n + 1)⟩
theorem desc_lo (hN : 0 < N) : ∀ f (p : Array Nat) n q, Lo N p → Fair N lt (kas_desc f p n q) ∧ Lo N (run lt (kas_desc f p n q)).1
  | 0, _, _, _, h => ⟨trivial, h⟩
  | f + 1, p, n, q, h => by
    by_cases e : lt (p.getD n 0) (p.getD (n - 1) 0) = true
    · by_cases hq : q > 0
      · have ih := desc_lo hN f (kas_rev p (n - (q + 1)) n) (n + 1) 0 (h.perm hN (mirror_perm ..))
        have er : run lt (kas_desc (f + 1) p n q) = run lt (kas_desc f (kas_rev p (n - (q + 1)) n) (n + 1) 0) := by
          show run lt (if lt (p.getD n 0) (p.getD (n - 1) 0) = true then (if q > 0 then kas_desc f (kas_rev p (n - (q + 1)) n) (n + 1) 0 else kas_desc f p (n + 1) 0) else _) = _
          rw [if_pos e, if_pos hq]
        refine ⟨⟨h _, h _, ?_⟩, by rw [er]; exact ih.2⟩
        dsimp only
        rw [if_pos e, if_pos hq]
        exact ih.1
      · have ih := desc_lo hN f p (n + 1) 0 h
        have er : run lt (kas_desc (f + 1) p n q) = run lt (kas_desc f p (n + 1) 0) := by
          show run lt (if lt (p.getD n 0) (p.getD (n - 1) 0) = true then (if q > 0 then kas_desc f (kas_rev p (n - (q + 1)) n) (n + 1) 0 else kas_desc f p (n + 1) 0) else _) = _
          rw [if_pos e, if_neg hq]
        refine ⟨⟨h _, h _, ?_⟩, by rw [er]; exact ih.2⟩
        dsimp only
        rw [if_pos e, if_neg hq]
        exact ih.1
    · by_cases d : lt (p.getD (n - 1) 0) (p.getD n 0) = true
      · have er : run lt (kas_desc (f + 1) p n q) = (p, n, q) := by
          show run lt (if lt (p.getD n 0) (p.getD (n - 1) 0) = true then _ else KasT.ask (p.getD (n - 1) 0) (p.getD n 0) fun d => if d = true then .ret (p, n, q) else kas_desc f p (n + 1) (q + 1)) = _
          rw [if_neg e]
          show run lt (if lt (p.getD (n - 1) 0) (p.getD n 0) = true then KasT.ret (p, n, q) else kas_desc f p (n + 1) (q + 1)) = _
          rw [if_pos d]
          rfl
        refine ⟨⟨h _, h _, ?_⟩, by rw [er]; exact h⟩
        dsimp only
        rw [if_neg e]
        refine ⟨h _, h _, ?_⟩
        dsimp only
        rw [if_pos d]
        trivial
      · have ih := desc_lo hN f p (n + 1) (q + 1) h
        have er : run lt (kas_desc (f + 1) p n q) = run lt (kas_desc f p (n + 1) (q + 1)) := by
          show run lt (if lt (p.getD n 0) (p.getD (n - 1) 0) = true then _ else KasT.ask (p.getD (n - 1) 0) (p.getD n 0) fun d => if d = true then .ret (p, n, q) else kas_desc f p (n + 1) (q + 1)) = _
          rw [if_neg e]
          show run lt (if lt (p.getD (n - 1) 0) (p.getD n 0) = true then KasT.ret (p, n, q) else kas_desc f p (n + 1) (q + 1)) = _
          rw [if_neg d]
        refine ⟨⟨h _, h _, ?_⟩, by rw [er]; exact ih.2⟩
        dsimp only
        rw [if_neg e]
        refine ⟨h _, h _, ?_⟩
        dsimp only
        rw [if_neg d]
        exact ih.1
theorem tail_lo (hN : 0 < N) {p : Array Nat} (h : Lo N p) (n m : Nat) : Fair N lt (kas_tail3 n m p) ∧ Lo N (run lt (kas_tail3 n m p)).2 := by
  have h' : Lo N (kas_rev p 0 n) := h.perm hN (mirror_perm ..)
  refine ⟨fair_bind (fair_asc h' _ _) trivial, ?_⟩
  unfold kas_tail3
  rw [run_bind]
  exact h'
theorem part_lo (hN : 0 < N) {p : Array Nat} (h : Lo N p) (n m : Nat) : Fair N lt (kas_descPart n m p) ∧ Lo N (run lt (kas_descPart n m p)).2 := by
  obtain ⟨d1, d2⟩ := desc_lo (lt := lt) hN (m - (n + 1)) p (n + 1) 0 h
  unfold kas_descPart
  rw [run_bind]
  generalize hr : run lt (kas_desc (m - (n + 1)) p (n + 1) 0) = r at d2
  by_cases e : r.2.2 > 0
  · obtain ⟨t1, t2⟩ := tail_lo (lt := lt) hN (d2.perm hN (mirror_perm r.1 (r.2.1 - (r.2.2 + 1)) r.2.1 ((r.2.1 - (r.2.1 - (r.2.2 + 1))) / 2))) r.2.1 m
    refine ⟨fair_bind d1 ?_, ?_⟩
    · rw [hr, if_pos e]; exact t1
    · rw [if_pos e]; exact t2
  · obtain ⟨t1, t2⟩ := tail_lo (lt := lt) hN d2 r.2.1 m
    refine ⟨fair_bind d1 ?_, ?_⟩
    · rw [hr, if_neg e]; exact t1
    · rw [if_neg e]; exact t2
theorem count_lo (hN : 0 < N) {p : Array Nat} (h : Lo N p) (m : Nat) : Fair N lt (kas_count m p) ∧ Lo N (run lt (kas_count m p)).2 := by
  have a1 := fair_asc (lt := lt) h (m - 1) 1
  unfold kas_count
  rw [run_bind]
  generalize hr : run lt (kas_asc p (m - 1) 1) = n
  by_cases e : (n == m) = true
  · refine ⟨fair_bind a1 ?_, ?_⟩
    · rw [hr, if_pos e]; trivial
    · rw [if_pos e]; exact h
  · by_cases h1 : n > 1
    · obtain ⟨t1, t2⟩ := part_lo (lt := lt) hN (h.perm hN (mirror_perm p 0 n ((n - 0) / 2))) n m
      by_cases c : lt (p.getD 0 0) (p.getD (n - 1) 0) = true
      · refine ⟨fair_bind a1 ?_, ?_⟩
        · rw [hr, if_neg e, if_pos h1]
          exact ⟨h _, h _, by dsimp only; rw [if_pos c]; trivial⟩
        · rw [if_neg e, if_pos h1]
          show Lo N (run lt (if lt (p.getD 0 0) (p.getD (n - 1) 0) = true then KasT.ret (n, p) else kas_descPart n m (kas_rev p 0 n))).2
          rw [if_pos c]
          exact h
      · refine ⟨fair_bind a1 ?_, ?_⟩
        · rw [hr, if_neg e, if_pos h1]
          exact ⟨h _, h _, by dsimp only; rw [if_neg c]; exact t1⟩
        · rw [if_neg e, if_pos h1]
          show Lo N (run lt (if lt (p.getD 0 0) (p.getD (n - 1) 0) = true then KasT.ret (n, p) else kas_descPart n m (kas_rev p 0 n))).2
          rw [if_neg c]
          exact t2
    · obtain ⟨t1, t2⟩ := part_lo (lt := lt) hN h n m
      refine ⟨fair_bind a1 ?_, ?_⟩
      · rw [hr, if_neg e, if_neg h1]; exact t1
      · rw [if_neg e, if_neg h1]; exact t2
theorem fair_place {p : Array Nat} (h : Lo N p) (k : Nat) : ∀ f l r, Fair N lt (kas_place p k f l r)
  | 0, _, _ => trivial
  | f + 1, l, r => by
    unfold kas_place
    by_cases e : l ≥ r
    · rw [if_pos e]; trivial
    · rw [if_neg e]
      refine ⟨h _, h _, ?_⟩
      by_cases c : lt (p.getD k 0) (p.getD ((l + r) / 2) 0) = true
      · dsimp only; rw [if_pos c]; exact fair_place h k f _ _
      · dsimp only; rw [if_neg c]; exact fair_place h k f _ _
theorem fair_bin (hN : 0 < N) : ∀ f (p : Array Nat) k, Lo N p → Fair N lt (kas_bin f p k)
  | 0, _, _, _ => trivial
  | f + 1, p, k, h => fair_bind (fair_place h k k 0 k) (fair_bin hN f _ _ (h.perm hN (bubble_perm ..)))
theorem fair_sort (hN : 0 < N) : Fair N lt (kas_sort N) := by
  have lo : Lo N (List.toArray (List.range N)) := fun i => by
    by_cases hi : i < N
    · exact (arr_range N).low i hi
    · rw [Array.getD_eq_getD_getElem?]
      simp [hi]
      exact hN
  obtain ⟨c1, c2⟩ := count_lo (lt := lt) hN lo N
  refine fair_bind c1 ?_
  split
  · exact fair_bin hN _ _ _ c2
  · trivial
end
end Srt
namespace L2
open PySem PySem.Spec PyProof.Rows
open PySem.W (KatLex kat_lt kat_cons kat_yes kat_no kat_nil kat_one kat_kind KatTups kat_run kat_snds kas_sort kas_ask kas_item)
noncomputable def lexB (b c : Int × Int) : Bool := if b.1 = c.1 then decide (b.2 < c.2) else decide (b.1 < c.1)
theorem lexB_iff {b c : Int × Int} : lexB b c = true ↔ b.1 < c.1 ∨ (b.1 = c.1 ∧ b.2 < c.2) := by
  unfold lexB
  by_cases e : b.1 = c.1
  · rw [if_pos e, decide_eq_true_eq]; (first | lia | omega)
  · rw [if_neg e, decide_eq_true_eq]; (first | lia | omega)
noncomputable def PairV (h : Heap) (b : Int × Int) (v : Value) : Prop := ∃ q o t u n, v = .ref q ∧ h.get? q = some o ∧ o.cls = .type "tuple" ∧ o.data = .seq #[.int b.1 t, .int b.2 u] n
section
variable {prog : Program} {w : World} {A : Around} {E : Value → Shared → Prop} {s : Shared}
theorem pair_lt {x y : Value} {b c : Int × Int} {Q : Bool → Shared → Prop} (hx : PairV s.heap b x) (hy : PairV s.heap c y) (h : Q (lexB b c) s) : wpAny (model prog w) A (keyLt' (tuples' true) x y) Q E s := by
  obtain ⟨q, o, t, u, n, rfl, ho, hc, hd⟩ := hx
  obtain ⟨q', o', t', u', n', rfl, ho', hc', hd'⟩ := hy
  refine kat_lt ho hd ho' hd' ?_
  show KatLex prog w A true _ Q [(.int b.1 t, .int c.1 t'), (.int b.2 u, .int c.2 u')] 0 s
  refine kat_cons (wpAny_eqBool_int ?_)
  unfold lexB at h
  by_cases e : b.1 = c.1
  · rw [if_pos e] at h
    rw [show (b.1 == c.1) = true from beq_iff_eq.mpr e]
    refine kat_yes (kat_cons (wpAny_eqBool_int ?_))
    by_cases e2 : b.2 = c.2
    · rw [show (b.2 == c.2) = true from beq_iff_eq.mpr e2]
      refine kat_yes (kat_nil ?_)
      rw [decide_eq_false (by (first | lia | omega))] at h
      exact h
    · rw [show (b.2 == c.2) = false from beq_eq_false_iff_ne.mpr e2]
      exact kat_no (kat_one _ _ (lt_int (show PySem.W.BoolBack Q (.bool (decide (b.2 < c.2))) s from h)))
  · rw [if_neg e] at h
    rw [show (b.1 == c.1) = false from beq_eq_false_iff_ne.mpr e]
    exact kat_no (oneLt_int h)
theorem pair_tups {h : Heap} : ∀ {W : List (Int × Int)} {vs : List Value}, Paired (PairV h) W vs → ∃ fs, KatTups h vs fs ∧ fs.length = vs.length ∧ ∀ f ∈ fs, ∃ i t, f = .int i t
  | _, _, .nil => ⟨[], trivial, rfl, fun _ z => by cases z⟩
  | _, _, .cons ⟨q, o, t, u, n, e, ho, hc, hd⟩ r => by
    obtain ⟨fs, k, hl, hf⟩ := pair_tups r
    refine ⟨_ :: fs, ⟨⟨q, o, _, n, e, ho, hc, hd, rfl⟩, k⟩, by rw [List.length_cons, List.length_cons, hl], fun f hf' => ?_⟩
    rcases List.mem_cons.mp hf' with rfl | z
    · exact ⟨_, _, rfl⟩
    · exact hf f z
noncomputable def ltW (W : List (Int × Int)) (i j : Nat) : Bool := lexB (W.getD i (0, 0)) (W.getD j (0, 0))
theorem ltW_ord {W : List (Int × Int)} (hn : W.Nodup) : Srt.Ord W.length (ltW W) := by
  refine ⟨fun a b ha hb hab => ?_, fun a b c _ _ _ h1 h2 => ?_, fun a b _ _ h => ?_⟩
  · have hne : W.getD a (0, 0) ≠ W.getD b (0, 0) := fun e => by
      rw [List.getD_eq_getElem?_getD, List.getD_eq_getElem?_getD, List.getElem?_eq_getElem ha, List.getElem?_eq_getElem hb] at e
      have e' : W[a] = W[b] := e
      exact hab ((List.getElem?_inj ha hn).mp (by rw [List.getElem?_eq_getElem ha, List.getElem?_eq_getElem hb, e']))
    unfold ltW
    generalize W.getD a (0, 0) = x at hne
    generalize W.getD b (0, 0) = y at hne
    rw [lexB_iff, lexB_iff]
    by_cases e1 : x.1 = y.1
    · have e2 : x.2 ≠ y.2 := fun e2 => hne (Prod.ext e1 e2)
      (first | lia | omega)
    · (first | lia | omega)
  · unfold ltW at h1 h2 ⊢
    rw [lexB_iff] at h1 h2 ⊢
    (first | lia | omega)
  · unfold ltW at h ⊢
    rw [lexB_iff] at h
    rw [Bool.eq_false_iff, ne_eq, lexB_iff]
    (first | lia | omega)
theorem pair_at {h : Heap} {W : List (Int × Int)} {vs : List Value} (r : Paired (PairV h) W vs) {i : Nat} (hi : i < W.length) : PairV h (W.getD i (0, 0)) (vs.getD i .none) := by
  induction r generalizing i with
  | nil => simp at hi
  | cons p _ ih =>
    cases i with
    | zero => exact p
    | succ i => exact ih (by simpa using hi)
theorem PairV.keep {h h' : Heap} (k : ∀ b o, h.get? b = some o → o.cls = .type "tuple" → h'.get? b = some o) (b : Int × Int) (v : Value) (x : PairV h b v) : PairV h' b v :=
  let ⟨q, o, t, u, n, e, ho, hc, hd⟩ := x
  ⟨q, o, t, u, n, e, k _ _ ho hc, hc, hd⟩
theorem sort_pairs {a : Addr} {vs : List Value} {n : Nat} {W : List (Int × Int)} {P : PySem.Fin → Shared → Prop} (ho : s.heap.get? a = some (seqObj "list" vs.toArray n)) (r : Paired (PairV s.heap) W vs) (hn : W.Nodup) (h64 : vs.length < 64)
    (h : ∀ p : Array Nat, Srt.Arr W.length p → Srt.Up (ltW W) p W.length → P (.done (.ret .none)) { s with heap := sortedHeap s.heap a vs (p.toList.map fun i => vs.getD i .none).toArray }) :
    wpAny (model prog w) A (Builtin.«list.sort» ⟨[.ref a], []⟩) P E s := by
  have hl : W.length = vs.length := Paired.length r
  have ha : a < s.heap.objs.size := Heap.lt_size ho
  obtain ⟨e1, ho1⟩ : ∃ e1, (s.heap.update a (Obj.mapSeq fun _ => (#[] : Array Value))).get? a = some (seqObj "list" #[] e1) := ⟨_, get?_update_seq ho fun _ => #[]⟩
  have keep : ∀ b o, s.heap.get? b = some o → o.cls = .type "tuple" → (((s.heap.update a (Obj.mapSeq fun _ => (#[] : Array Value))).push (seqObj "tuple" vs.toArray 0)).push (seqObj "list" #[] 0)).get? b = some o := fun b o e hc => by
    have hba : b ≠ a := fun z => by
      rw [z, ho] at e
      cases e
      exact absurd hc (by show ¬ Value.type "list" = Value.type "tuple"; intro z; injection z with z; exact absurd z (by decide))
    exact Heap.get?_push_of_some _ (Heap.get?_push_of_some _ (by rw [Heap.get?_update_ne _ _ _ _ hba]; exact e))
  have ho6 : (((s.heap.update a (Obj.mapSeq fun _ => (#[] : Array Value))).push (seqObj "tuple" vs.toArray 0)).push (seqObj "list" #[] 0)).get? a = some (seqObj "list" #[] e1) := Heap.get?_push_of_some _ (Heap.get?_push_of_some _ ho1)
  rw [list_sort_plain]
  refine wpAny_bind (listItems_at ho rfl ?_)
  refine wpAny_bind (listUpdate_at ho rfl ?_ (by rw [List.size_toArray, sizeLine_eq]; (first | lia | omega)) (Nat.zero_le _))
  refine wpAny_bind (seqEpoch_at ho1 rfl (wpAny_bind (wpAny_newTuple ?_ (by show vs.length ≤ _; rw [sizeLine_eq]; (first | lia | omega)))))
  refine wpAny_bind (wpAny_newList (wpAny_holding ?_) (Nat.zero_le _))
  show wpAny (model prog w) A _ P E { s with heap := ((s.heap.update a (Obj.mapSeq fun _ => (#[] : Array Value))).push (seqObj "tuple" vs.toArray 0)).push (seqObj "list" #[] 0) }
  dsimp only
  have fin : ∀ (st : SortSt) (p : Array Nat), failedOf st = none → (arrOf st).map (·.2) = (p.toList.map fun i => vs.getD i .none).toArray → Srt.Arr W.length p → Srt.Up (ltW W) p W.length →
      wpAny (model prog w) A (do
        let touched := (← seqEpoch a) != e1
        Builtin.List.listUpdate (.ref a) fun _ => (arrOf st).map (·.2)
        if let some e := failedOf st then rule "list.sort.comparison-raised"; throw e
        if touched then rule "list.sort.modified"; raiseError "ValueError" "list modified during sort"
        ret .none) P E { s with heap := ((s.heap.update a (Obj.mapSeq fun _ => (#[] : Array Value))).push (seqObj "tuple" vs.toArray 0)).push (seqObj "list" #[] 0) } := fun st p hf har hA hU => by
    refine wpAny_bind (seqEpoch_at ho6 rfl (wpAny_bind (listUpdate_at ho6 rfl ?_ (Nat.zero_le _) (by rw [har, List.size_toArray, List.length_map, Array.length_toList, hA.size, sizeLine_eq]; (first | lia | omega)))))
    rw [hf, har]
    simp only [bne_self_eq_false, Bool.false_eq_true, if_false]
    exact wpAny_pure (h p hA hU)
  by_cases h2 : vs.toArray.size < 2
  · rw [if_pos h2, if_pos h2]
    refine wpAny_bind (wpAny_pure ?_)
    rw [StateT.run_pure]
    refine wpAny_bind (wpAny_pure ?_)
    refine fin (SortSt.mk' general' (vs.toArray.zip vs.toArray) #[] 7 none) (List.toArray (List.range W.length)) rfl ?_ (Srt.arr_range _) fun i j hij hj => ?_
    · show (vs.toArray.zip vs.toArray).map (·.2) = _
      rw [List.size_toArray] at h2
      match vs, hl, h2 with
      | [], hl, _ => rw [hl]; simp
      | [v], hl, _ => rw [hl]; simp
      | _ :: _ :: _, _, h2 => simp at h2; (first | lia | omega)
    · rw [List.size_toArray] at h2
      (first | lia | omega)
  · rw [if_neg h2, if_neg h2]
    rw [List.size_toArray] at h2
    have r' := Paired.mapP r fun b v x => PairV.keep keep b v x
    obtain ⟨fs, kt, hfl, hf⟩ := pair_tups r'
    refine wpAny_bind (kat_kind (s := { s with heap := ((s.heap.update a (Obj.mapSeq fun _ => (#[] : Array Value))).push (seqObj "tuple" vs.toArray 0)).push (seqObj "list" #[] 0) }) (T := .type "int") kt (by (first | lia | omega)) (fun f hf' => ?_) rfl ?_)
    · obtain ⟨i, t, rfl⟩ := hf f hf'
      exact PySem.W.Looks.of_pure rfl
    have hO := ltW_ord hn
    obtain ⟨sA, sU⟩ := Srt.sort_ok hO (by (first | lia | omega))
    have go : (kas_sort vs.length).kasWp (kas_ask prog w A (tuples' ((Value.type "int") != Value.type "tuple")) vs) (fun p s' => s' = { s with heap := ((s.heap.update a (Obj.mapSeq fun _ => (#[] : Array Value))).push (seqObj "tuple" vs.toArray 0)).push (seqObj "list" #[] 0) } ∧ Srt.Arr W.length p ∧ Srt.Up (ltW W) p W.length)
        { s with heap := ((s.heap.update a (Obj.mapSeq fun _ => (#[] : Array Value))).push (seqObj "tuple" vs.toArray 0)).push (seqObj "list" #[] 0) } := by
      rw [← hl]
      refine Srt.wp_run (N := W.length) (lt := ltW W) (fun i j C hi hj hC => ?_) (Srt.fair_sort (by (first | lia | omega))) ⟨rfl, sA, sU⟩
      exact pair_lt (pair_at r' hi) (pair_at r' hj) hC
    refine wpAny_bind (wpAny_mono (kat_run (ks := vs) (vs := vs) (Q := fun st' s' => s' = { s with heap := ((s.heap.update a (Obj.mapSeq fun _ => (#[] : Array Value))).push (seqObj "tuple" vs.toArray 0)).push (seqObj "list" #[] 0) } ∧ ∃ p : Array Nat, failedOf st' = none ∧ (arrOf st').map (·.2) = (p.toList.map fun i => vs.getD i .none).toArray ∧ Srt.Arr W.length p ∧ Srt.Up (ltW W) p W.length)
      rfl (by (first | lia | omega)) h64 (fun p st' s' _ har hfl' hG => ⟨hG.1, p, hfl', kat_snds rfl har, hG.2.1, hG.2.2⟩) go) ?_ fun _ _ e => e)
    rintro ⟨⟨⟩, st'⟩ s' ⟨rfl, p, hf', har, pA, pU⟩
    exact fin st' p hf' har pA pU
end
end L2
namespace L2
open PySem PySem.Spec PyProof.Rows PySem.SeqAt
open AutoSeq1 (wpAny_loadPart')
section
variable {prog : Program} {w : World} {A : Around} {E : Value → Shared → Prop} {s : Shared}
end
section
variable {prog : Program} {w : World} {A : Around} {E : Value → Shared → Prop} {s : Shared}
end
section
variable {X : Cx} {a : Expr} {ta : TE} {p1 p2 c1 c2 : Pos}
end
end L2
namespace L2
open PySem PySem.Spec PyProof.Rows PySem.SeqAt
section
variable {X : Cx}
theorem op_catA : OpR X (binaryOp .Add) (fun x y H Q => ∃ a b xs ys, x = .ref a ∧ y = .ref b ∧ H a = some (.tup xs) ∧ H b = some (.tup ys) ∧ xs.length + ys.length ≤ sizeLine ∧ ∀ p H', Same H H' → H' p = some (.tup (xs ++ ys)) → Q (.ref p) H') := by
  intro pins s σ H x y v u Q I rx ry h
  obtain ⟨a, b, xs, ys, rfl, rfl, ha, hb, hz, q⟩ := h
  by_cases hy : ys = []
  · subst hy
    by_cases hx : xs = []
    · subst hx
      cases rx
      cases ry
      obtain ⟨its, r1, p1, _⟩ := I.tuple (SqT.of ha)
      obtain ⟨its2, r2, p2, _⟩ := I.tuple (SqT.of hb)
      have e : its = [] := r1.nil_iff.mpr rfl
      subst e
      exact cat_tup0 p1 p2 ⟨.ref b, H, I, rfl, q b H (Same.refl H) hb⟩
    · exact op_catT pins s σ H (.ref a) (.ref b) v u Q I rx ry ⟨a, b, xs, [], rfl, rfl, SqT.of ha, SqT.of hb, hx, hz, fun _ => q a H (Same.refl H) (by rw [List.append_nil]; exact ha), fun z => absurd rfl z⟩
  · exact op_catU pins s σ H (.ref a) (.ref b) v u Q I rx ry ⟨a, b, xs, ys, rfl, rfl, SqT.of ha, hb, hy, hz, q⟩
variable {α : Type} [DecidableEq α] {D : Den α} {d : Nat}
end
end L2
namespace L2
open PySem PySem.Spec PyProof.Rows PySem.SeqAt
section
variable {X : Cx} {α : Type} [DecidableEq α] {D : Den α} {d : Nat}
end
end L2
namespace L2
open PySem PySem.Spec PyProof.Rows
theorem decV (x z : Int) : decide (V.int x = V.int z) = decide (x = z) := by rw [Bool.eq_iff_iff]; simp
end L2
namespace L2
open PySem PySem.Spec PyProof.Rows
theorem Inv.turnedL {X : Cx} {pins : List (Addr × Obj)} {σ : List (Option V)} {H : Hp} {s : Shared} {h' : Heap} {t' : Nat} {ch : List Addr} (I : Inv X pins σ H s) (k : ∀ b o, b ∉ ch → s.heap.get? b = some o → h'.get? b = some o) (hf : ∀ b ∈ ch, FpOk X pins H b) :
    Inv X pins σ H { s with heap := h', toks := t' } := by
  have nit : ∀ b u, H b = some u → b ∉ ch := fun b u e z => by rw [(hf b z).1] at e; cases e
  refine I.step (g' := s.gens) (d' := s.drawn) (ch := ch) (fun b hb => ?_) (fun b o _ _ hc e _ => k b o hc e) (fun b o _ _ hc e _ => ⟨o.slots, k b o hc e⟩) (fun _ _ _ _ n => n)
    (fun b o hc e => ⟨o, k b o hc e⟩) (fun _ _ e => e) (fun _ _ _ e => e) (fun b ps e => ⟨#[], by rw [e]; simp⟩) (fun m hm => ?_) (fun b u e => ?_) I.bare
  · obtain ⟨f0, f1, f2, f3, f4, f5⟩ := hf b hb
    exact ⟨f3, f1, f4, f5⟩
  · obtain ⟨o, es, ep, ho, r⟩ := hm
    exact ⟨o, es, ep, k _ o (fun z => (hf _ z).2.1 rfl) ho, r⟩
  · refine (I.hok b u e).stay (fun c v hc q => k c v ?_ q) (fun _ q => q) fun _ _ q => q
    rcases hc with z | z
    · rw [z]; exact nit b u e
    · exact nit c _ z
noncomputable def Itz (K : PySem.W.Frag) (a b : Addr) : It :=
  ⟨fun i H => ∃ xs ys x y, SqL K H a xs ∧ SqL K H b ys ∧ xs[i]? = some x ∧ ys[i]? = some y,
    fun i H x H' => ∃ p u v, x = .ref p ∧ H p = none ∧ H' = upd H p (.tup [u, v]) ∧ ∀ xs ys, SqL K H a xs → SqL K H b ys → xs[i]? = some u ∧ ys[i]? = some v,
    fun i H => ∃ xs ys, SqL K H a xs ∧ SqL K H b ys ∧ (xs.length ≤ i ∨ ys.length ≤ i)⟩
noncomputable def tnZip (z TI TO i1 i2 l1 l2 : Addr) (i : Nat) (h : Heap) : Prop := IsZip h z TI TO .none ∧ IsPair h TI (.ref i1) (.ref i2) ∧ (∃ a b, IsPair h TO a b) ∧ h.IsListIter i1 l1 i ∧ h.IsListIter i2 l2 i
theorem turn_zip {P : Program} {w : World} {K : PySem.W.Frag} {elts : List Expr} {kt : Nat} {pos : Pos} (z TI TO i1 i2 a b : Addr) (D : ZipApart z TI TO i1 i2 a b) :
    Turn P w K (.Tuple elts kt pos) (Itz K a b) [z, TI, TO, i1, i2] z (tnZip z TI TO i1 i2 a b) where
  mem := by simp
  obj := fun i h st c hc => by
    obtain ⟨hz, hTI, ⟨u, v, hTO⟩, ⟨o1, e1, c1, d1⟩, ⟨o2, e2, c2, d2⟩⟩ := st
    simp only [List.mem_cons, List.not_mem_nil, or_false] at hc
    rcases hc with rfl | rfl | rfl | rfl | rfl
    · exact ⟨_, hz, fun v z => by
        have z' : Data.fields _ = Data.cell v := z
        cases z'⟩
    · exact ⟨_, hTI, fun v z => by
        have z' : Data.seq _ _ = Data.cell v := z
        cases z'⟩
    · exact ⟨_, hTO, fun v z => by
        have z' : Data.seq _ _ = Data.cell v := z
        cases z'⟩
    · exact ⟨o1, e1, fun v z => by rw [d1] at z; cases z⟩
    · exact ⟨o2, e2, fun v z => by rw [d2] at z; cases z⟩
  keep := fun i h h' st k => by
    obtain ⟨hz, hTI, ⟨u, v, hTO⟩, h1, h2⟩ := st
    exact ⟨k z (by simp) _ hz, k TI (by simp) _ hTI, ⟨u, v, k TO (by simp) _ hTO⟩, h1.at fun o e => k i1 (by simp) o e, h2.at fun o e => k i2 (by simp) o e⟩
  item := by
    intro X hP hw hK hc i pins s σ H E I hf st hg
    subst hP hw hK
    obtain ⟨xs, ys, x, y, hqx, hqy, hx, hy⟩ := hg
    obtain ⟨ita, ra, pa, za⟩ := I.list hqx
    obtain ⟨itb, rb, pb, zb⟩ := I.list hqy
    obtain ⟨u, hu, ru⟩ := ra.get hx
    obtain ⟨v, hv, rv⟩ := rb.get hy
    have lt : ∀ c ∈ [z, TI, TO, i1, i2], c < s.heap.objs.size := fun c hc => by
      obtain ⟨hz, hTI, ⟨u, v, hTO⟩, ⟨o1, e1, c1, d1⟩, ⟨o2, e2, c2, d2⟩⟩ := st
      simp only [List.mem_cons, List.not_mem_nil, or_false] at hc
      rcases hc with rfl | rfl | rfl | rfl | rfl
      · exact Heap.lt_size hz
      · exact Heap.lt_size hTI
      · exact Heap.lt_size hTO
      · exact Heap.lt_size e1
      · exact Heap.lt_size e2
    obtain ⟨hz, hTI, ⟨u0, v0, hTO⟩, h1, h2⟩ := st
    refine wpAny_pyNext_zip_item D hz hTI hTO h1 h2 pa.isList pb.isList (x := u) (y := v) (by simpa using hu) (by simpa using hv) fun h' z1 z2 z3 z4 z5 z6 z7 => ?_
    refine ⟨_, rfl, wpAny_letOwnedTupleGo_zip (s := { s with heap := h' }) z1 fun h'' y1 y2 => ?_⟩
    have up : ∀ c o, c ≠ z → h'.get? c = some o → h''.get? c = some o := fun c o hn e => y2.extBut _ _ hn e
    have nT : s.heap.objs.size ∉ [z, TI, TO, i1, i2] := fun m => Nat.lt_irrefl _ (lt _ m)
    have fT : H s.heap.objs.size = none := I.hok.fresh (Nat.le_refl _)
    have I1 : Inv X pins σ (upd H s.heap.objs.size (.tup [x, y])) { s with heap := s.heap.push { cls := .type "tuple", data := .seq #[u, v] }, toks := s.toks } :=
      I.laid (t' := s.toks) (o := .tup [x, y]) (fun b ob q => Heap.get?_push_of_some _ q) (Nat.le_refl _) ⟨sz2, [u, v], .cons ru (.cons rv .nil), TupP.new _ _⟩
    have hf1 : ∀ c ∈ [z, TI, TO, i1, i2], FpOk X pins (upd H s.heap.objs.size (.tup [x, y])) c := fun c hc => ⟨by rw [upd_ne (Nat.ne_of_lt (lt c hc))]; exact (hf c hc).1, (hf c hc).2⟩
    have I2 : Inv X pins σ (upd H s.heap.objs.size (.tup [x, y])) { s with heap := h'', toks := s.toks } := by
      refine I1.turnedL (h' := h'') (t' := s.toks) (fun c o hn e => ?_) hf1
      have hcz : c ≠ z := fun q => hn (by simp [q])
      have hcTO : c ≠ TO := fun q => hn (by simp [q])
      have hc1 : c ≠ i1 := fun q => hn (by simp [q])
      have hc2 : c ≠ i2 := fun q => hn (by simp [q])
      rcases Heap.get?_push_cases e with ⟨q1, q2⟩ | q
      · rw [q1, q2]
        exact up _ _ (fun q => hcz (q1.trans q)) z5
      · exact up _ _ hcz (z7 c o hcz hcTO hc1 hc2 q)
    refine ⟨.ref s.heap.objs.size, _, I2, rfl, ⟨_, x, y, rfl, fT, rfl, fun xs' ys' q1 q2 => ?_⟩, ?_, fun c hc => (hf1 c hc).1⟩
    · rw [I.list_inj q1 hqx, I.list_inj q2 hqy]
      exact ⟨hx, hy⟩
    · have nTI : TI ≠ z := D.TIz
      exact ⟨y1, up _ _ D.TIz (z7 TI _ D.TIz D.TITO D.TIi1 D.TIi2 hTI), ⟨u, v, up _ _ D.TOz z2⟩, z3.at fun o e => up _ _ D.i1z e, z4.at fun o e => up _ _ D.i2z e⟩
  done := by
    intro X hP hw hK hc i pins s σ H E I hf st hg
    subst hP hw hK
    obtain ⟨xs, ys, hqx, hqy, hlen⟩ := hg
    obtain ⟨ita, ra, pa, za⟩ := I.list hqx
    obtain ⟨itb, rb, pb, zb⟩ := I.list hqy
    have la := ra.length
    have lb := rb.length
    obtain ⟨hz, hTI, ⟨u0, v0, hTO⟩, h1, h2⟩ := st
    refine wpAny_pyNext_zip_end (I.ok.hd hc) D hz hTI hTO h1 h2 pa.isList pb.isList ?_ fun h' kk => ⟨rfl, I.turnedL (ch := [z, TI, TO, i1, i2]) (t' := s.toks) (fun c o hn e => kk c o (fun q => hn (by simp [q])) (fun q => hn (by simp [q])) (fun q => hn (by simp [q])) (fun q => hn (by simp [q])) e) hf⟩
    rcases hlen with q | q
    · exact .inl (by simp; (first | lia | omega))
    · exact .inr (by simp; (first | lia | omega))
  self := fun _ _ _ _ _ st h => wpAny_pyIter_zip st.1 h
section
variable {X : Cx}
noncomputable def iZip (K : PySem.W.Frag) (ta : TA) : TI := fun σ H R => ta σ H fun vs H1 => ∃ a b, vs = [.ref a, .ref b] ∧ (∃ xs, SqL K H1 a xs) ∧ (∃ ys, SqL K H1 b ys) ∧ R (Itz K a b) H1
theorem pi_zip {elts : List Expr} {kt : Nat} {pos' : Pos} {a b : Expr} {ta : TA} {p pos : Pos} (hg : Gl X "zip") (hm : X.mg "zip" = none) (ha : PA X [a, b] ta) (hs : starEach [a, b] X.env = [(false, eval a X.env), (false, eval b X.env)] := by rfl) (hs2 : starEach [b] X.env = [(false, eval b X.env)] := by rfl) :
    PI X (.Tuple elts kt pos') (.Call (.Name "zip" p) [a, b] [] pos) (iZip X.K ta) := by
  intro pins s σ H R I h
  refine Call_ (ld_blt I hg hm boot_zip (PyProof.Rows.callWith_type1 (thn (ha pos pins s σ H _ I h) fun us s1 ⟨vs, H1, I1, r1, q1⟩ => ?_) (by rw [hs, hs2]) (by rw [hs2]; rfl)))
  obtain ⟨l1, l2, e, ⟨xs, hx⟩, ⟨ys, hy⟩, q⟩ := q1
  subst e
  cases r1 with
  | cons r rr =>
    cases rr with
    | cons r' rr =>
      cases rr
      cases r
      cases r'
      obtain ⟨ita, ra, pa, za⟩ := I1.list hx
      obtain ⟨itb, rb, pb, zb⟩ := I1.list hy
      refine call_zip_2 pa.isList pb.isList fun h' z1 z2 z3 z4 z5 z6 z7 => ?_
      have a1 : l1 < s1.heap.objs.size := by obtain ⟨_, e, _⟩ := pa.isList; exact Heap.lt_size e
      have a2 : l2 < s1.heap.objs.size := by obtain ⟨_, e, _⟩ := pb.isList; exact Heap.lt_size e
      refine wpAny_pyIter_zip (s := { s1 with heap := h' }) z1 ?_
      refine ⟨_, _, _, _, H1, rfl, I1.kept (t' := s1.toks) z7, turn_zip _ _ _ _ _ l1 l2 (zipApart_new a1 a2), ⟨z1, z2, ⟨_, _, z3⟩, z4, z5⟩, fun c hc => ?_, q⟩
      have hge : s1.heap.objs.size ≤ c := by
        simp only [List.mem_cons, List.not_mem_nil, or_false] at hc
        rcases hc with rfl | rfl | rfl | rfl | rfl <;> (first | lia | omega)
      exact I1.fpOk hge (I1.hok.fresh hge)
end
theorem for_zip {K : PySem.W.Frag} {a b : Addr} {xs ys : List V} {g : TG} {tb : TS} {D : Ends} {σ : St} {H : Hp} (hlen : xs.length = ys.length) (Pv : Nat → St → Hp → Prop) (h0 : Pv 0 σ H) (hl : ∀ i σ H, i ≤ xs.length → Pv i σ H → SqL K H a xs ∧ SqL K H b ys)
    (hs : ∀ i x y p σ H, xs[i]? = some x → ys[i]? = some y → H p = none → Pv i σ H → g (.ref p) σ (upd H p (.tup [x, y])) fun σ2 H2 => tb { D with nx := Pv (i + 1), ct := Pv (i + 1), bk := D.nx } σ2 H2) (hd : ∀ σ H, Pv xs.length σ H → D.nx σ H) :
    ∃ W : Nat → Nat → St → Hp → Prop, (∃ m, W 0 m σ H) ∧ ∀ i m σ H, W i m σ H →
      ((Itz K a b).stop i H ∧ D.nx σ H) ∨ ((Itz K a b).go i H ∧ ∃ N : St → Hp → Prop, (∀ σ' H', N σ' H' → ∃ m', m' < m ∧ W (i + 1) m' σ' H') ∧ ∀ x H', (Itz K a b).yld i H x H' → g x σ H' fun σ2 H2 => tb { D with nx := N, ct := N, bk := D.nx } σ2 H2) := by
  refine ⟨fun i m σ H => m = xs.length - i ∧ i ≤ xs.length ∧ Pv i σ H, ⟨xs.length, by simp, Nat.zero_le _, h0⟩, ?_⟩
  rintro i m σ H ⟨rfl, hi, p⟩
  obtain ⟨q1, q2⟩ := hl i σ H hi p
  by_cases hlt : i < xs.length
  · have e1 : xs[i]? = some xs[i] := List.getElem?_eq_getElem hlt
    have e2 : ys[i]? = some (ys[i]'(by (first | lia | omega))) := List.getElem?_eq_getElem (by (first | lia | omega))
    refine .inr ⟨⟨xs, ys, _, _, q1, q2, e1, e2⟩, Pv (i + 1), fun σ' H' p' => ⟨xs.length - (i + 1), by (first | lia | omega), rfl, hlt, p'⟩, fun x H' y => ?_⟩
    obtain ⟨p', u, v, rfl, fp, rfl, k⟩ := y
    obtain ⟨k1, k2⟩ := k xs ys q1 q2
    exact hs i u v p' σ H k1 k2 fp p
  · have e : i = xs.length := by (first | lia | omega)
    subst e
    exact .inl ⟨⟨xs, ys, q1, q2, .inl (Nat.le_refl _)⟩, hd σ H p⟩
theorem comp_zip' {K : PySem.W.Frag} {a b : Addr} {xs ys : List V} {n : Nat} {fs : List (Nat × Str)} {g : TG} {tc : TT} {te : TE} {σ : St} {H1 : Hp} {Q : VK} {l : Addr} (hlen : xs.length = ys.length) (Pv : Nat → List V → Hp → Prop) (h0 : Pv 0 [] (upd H1 l (.lst [])))
    (hl : ∀ i acc H, i ≤ xs.length → Pv i acc H → (SqL K H a xs ∧ SqL K H b ys) ∧ H l = some (.lst acc))
    (hs : ∀ i x y p acc H, xs[i]? = some x → ys[i]? = some y → H p = none → i < xs.length → Pv i acc H → g (.ref p) (sgC n fs σ) (upd H p (.tup [x, y])) fun σ2 H2 => Wk n (sgC n fs σ) σ2 ∧ tc σ2 H2 fun b H3 =>
      if b = true then te σ2 H3 fun y H4 => H4 l = some (.lst acc) ∧ Nx xs.length i (Pv (i + 1) (acc ++ [y]) (upd H4 l (.lst (acc ++ [y])))) else Nx xs.length i (Pv (i + 1) acc H3))
    (hz : ∀ i acc H, i < xs.length → Pv i acc H → acc.length < sizeLine)
    (hd : ∀ acc H, Pv xs.length acc H → Q (.ref l) H) : CompW n fs (Itz K a b) g tc te σ H1 Q l := by
  refine ⟨fun i m acc H => m = xs.length - i ∧ i ≤ xs.length ∧ Pv i acc H, ⟨_, rfl, Nat.zero_le _, h0⟩, ?_⟩
  rintro i m acc H ⟨rfl, hi, p⟩
  obtain ⟨⟨q1, q2⟩, hla⟩ := hl i acc H hi p
  refine ⟨hla, ?_⟩
  by_cases hlt : i < xs.length
  · have e1 : xs[i]? = some xs[i] := List.getElem?_eq_getElem hlt
    have e2 : ys[i]? = some (ys[i]'(by (first | lia | omega))) := List.getElem?_eq_getElem (by (first | lia | omega))
    refine .inr ⟨hz i acc H hlt p, ⟨xs, ys, _, _, q1, q2, e1, e2⟩, fun x H' y => ?_⟩
    obtain ⟨p', u, v, rfl, fp, rfl, k⟩ := y
    obtain ⟨k1, k2⟩ := k xs ys q1 q2
    exact hs i u v p' acc H k1 k2 fp hlt p
  · have e : i = xs.length := by (first | lia | omega)
    subst e
    exact .inl ⟨⟨xs, ys, q1, q2, .inl (Nat.le_refl _)⟩, hd acc H p⟩
theorem call_absI {X : Cx} : CallR X (.builtin "abs") (fun xs H Q => ∃ i : Int, xs = [.int i] ∧ Q (.int (if i < 0 then -i else i)) H) := by
  intro pins s σ H xs us Q I r h
  obtain ⟨i, rfl, q⟩ := h
  obtain ⟨u, rfl, ru⟩ := r.one
  obtain ⟨t, rfl⟩ := ru
  exact call_abs_int fun u tk => ⟨.int _, H, I.tok _, ⟨_, rfl⟩, q⟩
end L2
namespace L2
open PySem PySem.Spec PyProof.Rows
structure Fly (P : Program) (w : World) (outer : List Env) (H : Hp) (s : Shared) (ea : Addr) (cls : Value) (H' : Hp) (B : Heap) (s' : Shared) : Prop where
  os : s'.os = s.os
  bare : AllBare s'.gens
  un : Un (frs outer) [] H H' s.heap s'.heap
  hok : HOk P w H' B
  kb : ∀ b o, s.heap.get? b = some o → H b = none → b ∉ frs outer → B.get? b = some o
  tb : ∀ b o, s.heap.get? b = some o → b ∉ frs outer → ∃ o', B.get? b = some o'
  fly : ∃ a0, Heap.FlyingW B outer ea cls a0 s'.heap
section
variable {X : Cx} {pins : List (Addr × Obj)} {σ : St} {H H' : Hp} {s s' : Shared} {ea : Addr} {cls : Value} {B : Heap} {M : Model} {Ex : Value → Shared → Prop}
structure OwnCx (X : Cx) : Prop where
  stack : X.stack = X.env :: X.outer
  frame : X.env.frame = some X.env.locals
  ex : X.ex = []
end
section
variable {P : Program} {w : World} {K : PySem.W.Frag} {mg : Str → Option Value} {base : Heap} {N : List Str} {qual : Str} {scope : Scope} {f : Addr} {cd : Value} {A : Around} {outer : List Env} {s : Shared} {H : Hp} {E : XK}
end
end L2
namespace L2
open PySem PySem.Spec PyProof.Rows
section
variable {X : Cx} {E : XK} {C : Addr} {x : Str} {np cpos pos : Pos} {e : Expr} {es : List Expr} {t : TA}
end
section
variable {P : Program} {w : World} {K : PySem.W.Frag} {mg : Str → Option Value} {base : Heap}
end
section
variable {X : Cx} {k : Nat} {f : Addr} {fd : FuncData} {ps : List Str} {sp : Sp} {dvs : List V} {ds : List Value} {E : XK} {x : Str} {p pos : Pos} {e : Expr} {es : List Expr} {t : TA}
end
end L2
namespace L2
open PySem PySem.Spec PyProof.Rows
section
variable {X : Cx} {pins : List (Addr × Obj)} {σ : St} {H H' : Hp} {s s' : Shared} {ea : Addr} {cls : Value} {B : Heap}
end
section
variable {X : Cx} {E : XK} {i : Nat} {n y : Str} {CB : Addr} {np pos : Pos} {b₀ : Stmt} {suite : List Stmt} {ts : TS} {rest : List ExceptHandler}
end
end L2
namespace L2
open PySem PySem.Spec PyProof.Rows
section
variable {X : Cx} {k : Nat} {f : Addr} {fd : FuncData} {ps : List Str} {sp : Sp} {dvs : List V} {ds : List Value} {x : Str} {p cpos epos pos : Pos} {e : Expr} {es : List Expr} {t : TA}
variable {i : Nat} {n y : Str} {CB : Addr} {np hpos : Pos} {b₀ : Stmt} {suite : List Stmt} {ts : TS}
end
structure ExcK (K : PySem.W.Frag) (D : Addr) : Prop where
  cls : (PySem.W.clsIn K D).isSome = true
  get : PySem.W.findIn K (.ref D) "__getattribute__" = some (some (.builtin "BaseException.__getattribute__"))
  nohook : PySem.W.findIn K (.ref D) "__getattr__" = some none
  attr : PySem.W.findIn K (.ref D) "__class__" = some (some (.builtin "object.__class__"))
  gets : PySem.W.specialIn K (.builtin "object.__class__") "__get__" = some (some (.builtin "getset_descriptor.__get__"))
  takes : PySem.W.takesIn K (.builtin "object.__class__") = some true
  mro : PySem.W.mroIn K D (.type "object") = some true
  exc : PySem.W.mroIn K D (.type "BaseException") = some true
end L2
namespace PySem.W
open PySem PySem.Spec PySem.Calls PyProof.Rows Builtin Builtin.ObjectAttr Builtin.Getset_descriptor
section
variable {K : Frag} {D ea : Addr}
variable {prog : Program} {w : World} {A : Around} {E : Value → Shared → Prop} {s : Shared}
end
end PySem.W
namespace L2
open PySem PySem.Spec PyProof.Rows
end L2
namespace L2
open PySem PySem.Spec PyProof.Rows
section
variable {X : Cx} {x : Str} {j : Nat} {p1 p2 pos : Pos} {e : Expr} {te : TE}
end
end L2
namespace L2
open PySem PySem.Spec PyProof.Rows PySem.SeqAt
section
variable {prog : Program} {w : World} {A : Around} {E : Value → Shared → Prop} {s : Shared}
end
end L2
namespace L2
open PySem PySem.Spec PyProof.Rows PySem.SeqAt
end L2
namespace L2
open PySem PySem.Spec PyProof.Rows PySem.SeqAt
section
variable {X : Cx}
end
end L2
namespace L2
open PySem PySem.Spec PyProof.Rows PySem.SeqAt HT
section
variable {prog : Program} {w : World} {A : Around} {E : Value → Shared → Prop} {s : Shared}
end
end L2
namespace L2
open PySem PySem.Spec PyProof.Rows
section
variable {X : Cx} {x y : Str} {p1 p2 p3 pos : Pos} {e : Expr} {te : TE}
end
end L2
namespace L2
open PySem PySem.Spec PyProof.Rows
structure OScope (X : Cx) (scope : Scope) (y : Str) : Prop where
  kind : scope.kind = .function
  locs : ∀ z ∈ scope.names, z.2 = .local → scope.names.lookup z.1 = some .local
  nofree : ∀ z ∈ scope.names, z.2 ≠ .free
  own : ∀ z ∈ scope.names, z.2 = .cell → z.1 = y
  cells : ∀ n, cellsFrom n scope.names [] = [(y, n)]
section
variable {X : Cx} {scope : Scope} {y : Str} {pins : List (Addr × Obj)} {σ : St} {H : Hp} {s : Shared}
end
section
variable {X : Cx} {scope : Scope} {y : Str} {pins : List (Addr × Obj)} {σ : St} {elt target iter : Expr} {ifs : List Expr} {pos : Pos} {g : TG} {tc : TT} {te : TE} {wi : TI}
end
end L2
namespace L2
open PySem PySem.Spec PyProof.Rows
section
variable {X : Cx}
end
section
variable {X : Cx} {tg : Expr}
end
end L2
namespace L2
open PySem PySem.Spec PyProof.Rows
end L2
namespace PySem
open Sem (wp)
structure Heap.MadeFrom (h h' : Heap) (e : Addr) (cls : Value) (ea : Addr) : Prop where
  keeps : ∀ b o, h.get? b = some o → h'.get? b = some o
  new : h.get? e = none
  there : ∃ t, h'.get? e = some { cls := cls, data := .fields #[.ref t, .none, .ref ea, .none, .bool true, .none] }
section
variable {prog : Program} {w : World} {A : Around} {E : Value → Shared → Prop} {s : Shared} {env : Env}
variable {nm q : Str} {C N : Addr} {bs bm bmB : List Value} {hdct : Bool} {sn : List Str} {sub : List Value} {ab : Bool} {col : Option Bool} {dd : Option Addr} {k0 k1 k2 k3 k5 : Option Value} {B newId initId : String}
end
end PySem
namespace L2
open PySem PySem.Spec PyProof.Rows
section
variable {P : Program} {w : World} {K : PySem.W.Frag} {mg : Str → Option Value} {base : Heap} {N : List Str} {qual : Str} {scope : Scope} {f : Addr} {cd : Value} {A : Around} {outer : List Env} {s : Shared} {H : Hp} {E : XK}
end
section
variable {X : Cx} {pins : List (Addr × Obj)} {σ : St} {H H' : Hp} {s s' : Shared} {ea e : Addr} {cls : Value} {B : Heap} {M : Model} {Ex : Value → Shared → Prop}
end
section
variable {P : Program} {w : World} {K : PySem.W.Frag} {mg : Str → Option Value} {base : Heap} {N : List Str} {qual : Str} {scope : Scope} {f : Addr} {cd : Value} {A : Around} {outer : List Env} {s : Shared} {H : Hp} {E : XK}
end
section
variable {X : Cx} {E : XK} {C ea : Addr} {x : Str} {np cpos pos p : Pos} {e : Expr} {es : List Expr} {t : TA}
end
section
variable {X : Cx} {CX : CXT} {k : Nat} {f : Addr} {fd : FuncData} {ps : List Str} {sp : Sp} {dvs : List V} {ds : List Value} {E : XK} {x : Str} {p pos : Pos} {e : Expr} {es : List Expr} {t : TA}
end
section
variable {X : Cx} {y1 y2 : Str} {CA CB : Addr} {np1 np2 hp1 hp2 : Pos} {b1 b2 : Stmt} {r1 r2 : List Stmt} {ts1 ts2 : Addr → TS}
variable {k : Nat} {f : Addr} {fd : FuncData} {ps : List Str} {sp : Sp} {dvs : List V} {ds : List Value} {x : Str} {p cpos epos pos : Pos} {e : Expr} {es : List Expr} {t : TA}
end
end L2
namespace Srt
open PySem PySem.W PyProof.Rows
end Srt
namespace L2
open PySem PySem.Spec PySem.W PyProof.Rows
section
variable {prog : Program} {w : World} {A : Around} {E : Value → Shared → Prop} {s : Shared}
end
section
variable {X : Cx}
end
end L2
namespace L2
open PySem PySem.Spec PyProof.Rows PySem.SeqAt
section
variable {prog : Program} {w : World} {A : Around} {E : Value → Shared → Prop} {s : Shared}
end
section
variable {X : Cx} {tg a : Expr} {ta : TE} {p2 c2 : Pos}
end
end L2
namespace SrtA
open PySem PySem.W PyProof.Rows
noncomputable def gallop' : Bool → Keyed → Array Keyed → Nat → Nat → Nat → StateT SortSt Sem (Option Nat) := sortPriv% PySem.Builtin.gallop
theorem gallop'_eq (left : Bool) (key : Keyed) (arr : Array Keyed) (base n hint : Nat) : gallop' left key arr base n hint = (do
  let beyond (i : Nat) : StateT SortSt Sem (Option Bool) := do
    let x ← elem' arr (base + i)
    if left then lt' x key else return (← lt' key x).map (!·)
  let mut lastofs := 0
  let mut ofs := 1
  let mut lo := 0
  let mut hi := 0
  let some right ← beyond hint | return none
  if right then
    let maxofs := n - hint
    for _ in [0:n] do
      if ofs ≥ maxofs then break
      let some more ← beyond (hint + ofs) | return none
      if !more then break
      lastofs := ofs
      ofs := 2 * ofs + 1
    lo := hint + lastofs + 1
    hi := hint + min ofs maxofs
  else
    let maxofs := hint + 1
    for _ in [0:n] do
      if ofs ≥ maxofs then break
      let some found ← beyond (hint - ofs) | return none
      if found then break
      lastofs := ofs
      ofs := 2 * ofs + 1
    lo := hint + 1 - min ofs maxofs
    hi := hint - lastofs
  for _ in [0:n] do
    if lo ≥ hi then break
    let m := lo + (hi - lo) / 2
    let some more ← beyond m | return none
    if more then lo := m + 1 else hi := m
  return some hi) := rfl
section
variable {prog : Program} {w : World} {A : Around} {E : Value → Shared → Prop} {s : Shared}
noncomputable def LtOk (prog : Program) (w : World) (A : Around) (E : Value → Shared → Prop) (s : Shared) (κ : SortKind) (S : Keyed → Prop) : Prop :=
  ∀ x y, S x → S y → ∀ (st : SortSt) (Q : Option Bool → SortSt → Prop), kindOf st = κ → (∀ b, Q (some b) st) → wpS (model prog w) A E s (lt' x y) Q st
variable {κ : SortKind} {S : Keyed → Prop}
theorem wpS_elem {arr : Array Keyed} {i : Nat} {Q : Keyed → SortSt → Prop} {st : SortSt} (hi : i < arr.size) (h : Q arr[i] st) : wpS (model prog w) A E s (elem' arr i) Q st := by
  rw [elem'_eq, Array.getElem?_eq_getElem hi]
  exact wpS_pure h
theorem wpS_gallop (hL : LtOk prog w A E s κ S) {left : Bool} {key : Keyed} {arr : Array Keyed} {base n hint : Nat} {st : SortSt} {Q : Option Nat → SortSt → Prop} (hk : kindOf st = κ) (hkey : S key) (hS : ∀ i, (hi : i < arr.size) → S arr[i]) (hb : base + n ≤ arr.size) (hn : hint < n)
    (h : ∀ k, k ≤ n → Q (some k) st) : wpS (model prog w) A E s (gallop' left key arr base n hint) Q st := by
  have bey : ∀ (i : Nat) (Q' : Option Bool → SortSt → Prop), i < n → (∀ b, Q' (some b) st) → wpS (model prog w) A E s (do
      let x ← elem' arr (base + i)
      if left then lt' x key else return (← lt' key x).map (!·)) Q' st := by
    intro i Q' hi hq
    refine wpS_bind (wpS_elem (by (first | lia | omega)) ?_)
    cases left with
    | true => exact hL _ _ (hS _ _) hkey st _ hk hq
    | false => exact wpS_bind (hL _ _ hkey (hS _ _) st _ hk fun b => wpS_pure (hq _))
  rw [gallop'_eq]
  refine wpS_bind (bey hint _ hn fun right => ?_)
  cases right with
  | true =>
    dsimp only
    rw [if_pos rfl]
    refine wpS_bind (wpS_mono (wpS_forRange (I := fun _ c st' => st' = st ∧ c.1 = none) (Q := fun c st' => st' = st ∧ c.1 = none) ?_ (fun _ _ z => z) ⟨rfl, rfl⟩) ?_)
    · rintro x ⟨c1, c2, c3⟩ st' _ _ ⟨e, hc⟩
      dsimp only at hc ⊢
      subst st' c1
      by_cases z : c3 ≥ n - hint
      · rw [if_pos z]; exact wpS_pure ⟨rfl, rfl⟩
      · rw [if_neg z]
        refine wpS_bind (bey _ _ (by (first | lia | omega)) fun b => ?_)
        cases b <;> exact wpS_pure ⟨rfl, rfl⟩
    · rintro ⟨c1, c2, c3⟩ st' ⟨e, hc⟩
      dsimp only at hc ⊢
      subst st' c1
      refine wpS_bind (wpS_mono (wpS_forRange (I := fun _ c st' => st' = st ∧ c.1 = none ∧ c.2.2 ≤ n) (Q := fun c st' => st' = st ∧ c.1 = none ∧ c.2.2 ≤ n) ?_ (fun _ _ z => z) ⟨rfl, rfl, by dsimp only; (first | lia | omega)⟩) ?_)
      · rintro x ⟨d1, d2, d3⟩ st' _ _ ⟨e, hd, hn'⟩
        dsimp only at hd hn' ⊢
        subst st' d1
        by_cases z : d2 ≥ d3
        · rw [if_pos z]; exact wpS_pure ⟨rfl, rfl, hn'⟩
        · rw [if_neg z]
          refine wpS_bind (bey _ _ (by (first | lia | omega)) fun b => ?_)
          cases b with
          | true => exact wpS_pure ⟨rfl, rfl, hn'⟩
          | false => exact wpS_pure ⟨rfl, rfl, by dsimp only; (first | lia | omega)⟩
      · rintro ⟨d1, d2, d3⟩ st' ⟨e, hd, hn'⟩
        dsimp only at hd hn' ⊢
        subst st' d1
        exact wpS_pure (h _ hn')
  | false =>
    dsimp only
    rw [if_neg Bool.false_ne_true]
    refine wpS_bind (wpS_mono (wpS_forRange (I := fun _ c st' => st' = st ∧ c.1 = none) (Q := fun c st' => st' = st ∧ c.1 = none) ?_ (fun _ _ z => z) ⟨rfl, rfl⟩) ?_)
    · rintro x ⟨c1, c2, c3⟩ st' _ _ ⟨e, hc⟩
      dsimp only at hc ⊢
      subst st' c1
      by_cases z : c3 ≥ hint + 1
      · rw [if_pos z]; exact wpS_pure ⟨rfl, rfl⟩
      · rw [if_neg z]
        refine wpS_bind (bey _ _ (by (first | lia | omega)) fun b => ?_)
        cases b <;> exact wpS_pure ⟨rfl, rfl⟩
    · rintro ⟨c1, c2, c3⟩ st' ⟨e, hc⟩
      dsimp only at hc ⊢
      subst st' c1
      refine wpS_bind (wpS_mono (wpS_forRange (I := fun _ c st' => st' = st ∧ c.1 = none ∧ c.2.2 ≤ n) (Q := fun c st' => st' = st ∧ c.1 = none ∧ c.2.2 ≤ n) ?_ (fun _ _ z => z) ⟨rfl, rfl, by dsimp only; (first | lia | omega)⟩) ?_)
      · rintro x ⟨d1, d2, d3⟩ st' _ _ ⟨e, hd, hn'⟩
        dsimp only at hd hn' ⊢
        subst st' d1
        by_cases z : d2 ≥ d3
        · rw [if_pos z]; exact wpS_pure ⟨rfl, rfl, hn'⟩
        · rw [if_neg z]
          refine wpS_bind (bey _ _ (by (first | lia | omega)) fun b => ?_)
          cases b with
          | true => exact wpS_pure ⟨rfl, rfl, hn'⟩
          | false => exact wpS_pure ⟨rfl, rfl, by dsimp only; (first | lia | omega)⟩
      · rintro ⟨d1, d2, d3⟩ st' ⟨e, hd, hn'⟩
        dsimp only at hd hn' ⊢
        subst st' d1
        exact wpS_pure (h _ hn')
end
noncomputable def mergeLo' : Array Keyed → Array Keyed → StateT SortSt Sem (Array Keyed) := sortPriv% PySem.Builtin.mergeLo
noncomputable def setMinGallop' : Nat → StateT SortSt Sem Unit := sortPriv% PySem.Builtin.setMinGallop
theorem setMinGallop'_eq (g : Nat) : setMinGallop' g = modify fun s => SortSt.mk' (kindOf s) (arrOf s) (pendingOf s) g (failedOf s) := rfl
theorem mergeLo'_eq (a b : Array Keyed) : mergeLo' a b = (do
  rule "list.sort.merge-lo"
  let total := a.size + b.size
  let done (out : Array Keyed) (ia ib : Nat) := out ++ a.extract ia a.size ++ b.extract ib b.size
  let lastOfA (out : Array Keyed) (ia ib : Nat) := out ++ b.extract ib b.size ++ a.extract ia a.size
  let mut out : Array Keyed := #[← elem' b 0]
  let mut ia := 0
  let mut ib := 1
  if ib == b.size then return done out ia ib
  if ia + 1 == a.size then return lastOfA out ia ib
  let mut minGallop := gallopOf (← get)
  for _ in [0:total] do
    let mut acount := 0
    let mut bcount := 0
    for _ in [0:total] do
      let some bWins ← lt' (← elem' b ib) (← elem' a ia) | return done out ia ib
      if bWins then
        out := out.push (← elem' b ib); ib := ib + 1; bcount := bcount + 1; acount := 0
        if ib == b.size then return done out ia ib
        if bcount ≥ minGallop then break
      else
        out := out.push (← elem' a ia); ia := ia + 1; acount := acount + 1; bcount := 0
        if ia + 1 == a.size then return lastOfA out ia ib
        if acount ≥ minGallop then break
    rule "list.sort.gallop"
    minGallop := minGallop + 1
    for _ in [0:total] do
      if minGallop > 1 then minGallop := minGallop - 1
      setMinGallop' minGallop
      let some k ← gallop' false (← elem' b ib) a ia (a.size - ia) 0 | return done out ia ib
      acount := k
      if k > 0 then
        out := out ++ a.extract ia (ia + k); ia := ia + k
        if ia + 1 == a.size then return lastOfA out ia ib
        if ia == a.size then return done out ia ib
      out := out.push (← elem' b ib); ib := ib + 1
      if ib == b.size then return done out ia ib
      let some k ← gallop' true (← elem' a ia) b ib (b.size - ib) 0 | return done out ia ib
      bcount := k
      if k > 0 then
        out := out ++ b.extract ib (ib + k); ib := ib + k
        if ib == b.size then return done out ia ib
      out := out.push (← elem' a ia); ia := ia + 1
      if ia + 1 == a.size then return lastOfA out ia ib
      if acount < 7 && bcount < 7 then break
    minGallop := minGallop + 1
    setMinGallop' minGallop
  unsupported "internal:list.sort.merge-bound") := rfl
section
variable {prog : Program} {w : World} {A : Around} {E : Value → Shared → Prop} {s : Shared} {κ : SortKind} {S : Keyed → Prop}
structure Eq3 (st st' : SortSt) : Prop where
  k : kindOf st' = kindOf st
  a : arrOf st' = arrOf st
  p : pendingOf st' = pendingOf st
  f : failedOf st' = failedOf st
theorem Eq3.refl (st : SortSt) : Eq3 st st := ⟨rfl, rfl, rfl, rfl⟩
noncomputable def Lft (a b out : Array Keyed) (ia ib : Nat) : Prop := (out.toList ++ a.toList.drop ia ++ b.toList.drop ib).Perm (a.toList ++ b.toList)
section
variable {a b out : Array Keyed} {ia ib k : Nat}
theorem ext_list (x : Array Keyed) (i j : Nat) : (x.extract i j).toList = (x.toList.drop i).take (j - i) := by simp [Array.toList_extract, List.extract_eq_take_drop]
theorem ext_end (x : Array Keyed) (i : Nat) : (x.extract i x.size).toList = x.toList.drop i := by
  rw [ext_list]
  exact List.take_of_length_le (by rw [List.length_drop, Array.length_toList]; exact Nat.le_refl _)
theorem Lft.pushB (h : Lft a b out ia ib) (hb : ib < b.size) : Lft a b (out.push b[ib]) ia (ib + 1) := by
  unfold Lft at h ⊢
  refine List.Perm.trans ?_ h
  have hb' : ib < b.toList.length := by rw [Array.length_toList]; exact hb
  rw [Array.toList_push, List.drop_eq_getElem_cons hb', Array.getElem_toList]
  simp only [List.append_assoc]
  refine List.Perm.append_left _ ?_
  exact (List.perm_middle (l₁ := a.toList.drop ia)).symm
theorem Lft.pushA (h : Lft a b out ia ib) (ha : ia < a.size) : Lft a b (out.push a[ia]) (ia + 1) ib := by
  unfold Lft at h ⊢
  refine List.Perm.trans (List.Perm.of_eq ?_) h
  have ha' : ia < a.toList.length := by rw [Array.length_toList]; exact ha
  rw [Array.toList_push, List.drop_eq_getElem_cons ha', Array.getElem_toList]
  simp only [List.append_assoc, List.cons_append, List.nil_append]
theorem Lft.runA (h : Lft a b out ia ib) : Lft a b (out ++ a.extract ia (ia + k)) (ia + k) ib := by
  unfold Lft at h ⊢
  refine List.Perm.trans (List.Perm.of_eq ?_) h
  rw [Array.toList_append, ext_list, Nat.add_sub_cancel_left, List.append_assoc out.toList, ← List.drop_drop, List.take_append_drop]
theorem Lft.runB (h : Lft a b out ia ib) : Lft a b (out ++ b.extract ib (ib + k)) ia (ib + k) := by
  unfold Lft at h ⊢
  refine List.Perm.trans ?_ h
  rw [Array.toList_append, ext_list, Nat.add_sub_cancel_left]
  simp only [List.append_assoc]
  refine List.Perm.append_left _ ?_
  refine List.Perm.trans (List.perm_append_comm_assoc _ _ _) ?_
  refine List.Perm.append_left _ (List.Perm.of_eq ?_)
  rw [← List.drop_drop, List.take_append_drop]
theorem Lft.done (h : Lft a b out ia ib) : (out ++ a.extract ia a.size ++ b.extract ib b.size).toList.Perm (a.toList ++ b.toList) := by
  rw [Array.toList_append, Array.toList_append, ext_end, ext_end]
  exact h
theorem Lft.last (h : Lft a b out ia ib) : (out ++ b.extract ib b.size ++ a.extract ia a.size).toList.Perm (a.toList ++ b.toList) := by
  rw [Array.toList_append, Array.toList_append, ext_end, ext_end]
  refine List.Perm.trans ?_ h
  simp only [List.append_assoc]
  exact List.Perm.append_left _ List.perm_append_comm
theorem Lft.size (h : Lft a b out ia ib) (ha : ia ≤ a.size) (hb : ib ≤ b.size) : out.size + (a.size - ia) + (b.size - ib) = a.size + b.size := by
  have := h.length_eq
  simp only [List.length_append, List.length_drop, Array.length_toList] at this
  exact this
end
theorem wpS_ite {σ α : Type} {M : Model} {c : Prop} [Decidable c] {m1 m2 : StateT σ Sem α} {Q : α → σ → Prop} {st : σ} (h1 : c → wpS M A E s m1 Q st) (h2 : ¬ c → wpS M A E s m2 Q st) : wpS M A E s (if c then m1 else m2) Q st := by
  by_cases z : c
  · rw [if_pos z]; exact h1 z
  · rw [if_neg z]; exact h2 z
theorem wpS_setG {g : Nat} {Q : Unit → SortSt → Prop} {st : SortSt} {M : Model} (h : Q () (SortSt.mk' (kindOf st) (arrOf st) (pendingOf st) g (failedOf st))) : wpS M A E s (setMinGallop' g) Q st := by
  rw [setMinGallop'_eq]
  exact wpS_modify h
theorem Eq3.g {st st' : SortSt} (h : Eq3 st st') (g : Nat) : Eq3 st (SortSt.mk' (kindOf st') (arrOf st') (pendingOf st') g (failedOf st')) := ⟨h.k, h.a, h.p, h.f⟩
structure Mg (a b : Array Keyed) (n : Nat) (out : Array Keyed) (ia ib : Nat) : Prop where
  l : Lft a b out ia ib
  a : ia + 1 < a.size
  b : ib < b.size
  n : n ≤ out.size
noncomputable def MgQ (st : SortSt) (a b : Array Keyed) (n : Nat) (r : Option (Array Keyed)) (out : Array Keyed) (ia ib : Nat) (st' : SortSt) : Prop :=
  Eq3 st st' ∧ ((∃ x, r = some x ∧ x.toList.Perm (a.toList ++ b.toList)) ∨ (r = none ∧ Mg a b n out ia ib))
theorem wpS_mergeLo (hL : LtOk prog w A E s κ S) {a b : Array Keyed} {st : SortSt} {Q : Array Keyed → SortSt → Prop} (hk : kindOf st = κ) (hSa : ∀ i, (hi : i < a.size) → S a[i]) (hSb : ∀ i, (hi : i < b.size) → S b[i]) (ha : 0 < a.size) (hb : 0 < b.size)
    (h : ∀ r st', r.toList.Perm (a.toList ++ b.toList) → Eq3 st st' → Q r st') : wpS (model prog w) A E s (mergeLo' a b) Q st := by
  have l0 : Lft a b #[b[0]] 0 1 := by
    have : Lft a b (#[].push b[0]) 0 (0 + 1) := Lft.pushB (List.Perm.of_eq (by simp)) hb
    exact this
  rw [mergeLo'_eq]
  refine wpS_bind (wpS_lift (wpAny_rule ⟨rfl, ?_⟩))
  refine wpS_bind (wpS_elem hb ?_)
  dsimp only
  refine wpS_ite (fun _ => wpS_pure (h _ _ l0.done (.refl st))) (fun e1 => ?_)
  refine wpS_ite (fun _ => wpS_pure (h _ _ l0.last (.refl st))) (fun e2 => ?_)
  rw [beq_iff_eq] at e1 e2
  refine wpS_bind (wpS_get ?_)
  refine wpS_bind (wpS_mono (wpS_forRange (I := fun x c st' => Eq3 st st' ∧ c.1 = none ∧ Mg a b (x + 1) c.2.1 c.2.2.1 c.2.2.2.1) (Q := fun c st' => Eq3 st st' ∧ ∃ x, c.1 = some x ∧ x.toList.Perm (a.toList ++ b.toList)) ?_ ?_ ⟨.refl st, rfl, l0, by show 0 + 1 < a.size; (first | lia | omega), by show 1 < b.size; (first | lia | omega), Nat.le_refl _⟩) ?_)
  · rintro x ⟨c1, out, ia, ib, mg⟩ st1 _ hx ⟨hE, hc, hM⟩
    dsimp only at hc hM ⊢
    subst c1
    -- one by one
    refine wpS_bind (wpS_mono (wpS_forRange (I := fun y c st' => Eq3 st st' ∧ c.1 = none ∧ Mg a b (x + 1 + y) c.2.1 c.2.2.1 c.2.2.2.1) (Q := fun c st' => MgQ st a b (x + 2) c.1 c.2.1 c.2.2.1 c.2.2.2.1 st') ?_ ?_ ⟨hE, rfl, hM⟩) ?_)
    · rintro y ⟨c1, out, ia, ib, ac, bc⟩ st2 _ hy ⟨hE, hc, hM⟩
      dsimp only at hc hM ⊢
      subst c1
      obtain ⟨hl, h1, h2, h3⟩ := hM
      refine wpS_bind (wpS_elem h2 (wpS_bind (wpS_elem (by (first | lia | omega)) (wpS_bind (hL _ _ (hSb _ _) (hSa _ _) st2 _ (hE.k.trans hk) fun bw => ?_)))))
      cases bw with
      | true =>
        dsimp only
        rw [if_pos rfl]
        refine wpS_bind (wpS_elem h2 ?_)
        refine wpS_ite (fun _ => wpS_pure ⟨hE, .inl ⟨_, rfl, (hl.pushB h2).done⟩⟩) (fun e => ?_)
        rw [beq_iff_eq] at e
        have hM' : Mg a b (x + 1 + (y + 1)) (out.push b[ib]) ia (ib + 1) := ⟨hl.pushB h2, h1, by (first | lia | omega), by rw [Array.size_push]; (first | lia | omega)⟩
        exact wpS_ite (fun _ => wpS_pure ⟨hE, .inr ⟨rfl, hM'.l, hM'.a, hM'.b, Nat.le_trans (by (first | lia | omega)) hM'.n⟩⟩) (fun _ => wpS_pure ⟨hE, rfl, hM'⟩)
      | false =>
        dsimp only
        rw [if_neg Bool.false_ne_true]
        refine wpS_bind (wpS_elem (by (first | lia | omega)) ?_)
        refine wpS_ite (fun _ => wpS_pure ⟨hE, .inl ⟨_, rfl, (hl.pushA (by (first | lia | omega))).last⟩⟩) (fun e => ?_)
        rw [beq_iff_eq] at e
        have hM' : Mg a b (x + 1 + (y + 1)) (out.push a[ia]) (ia + 1) ib := ⟨hl.pushA (by (first | lia | omega)), by (first | lia | omega), h2, by rw [Array.size_push]; (first | lia | omega)⟩
        exact wpS_ite (fun _ => wpS_pure ⟨hE, .inr ⟨rfl, hM'.l, hM'.a, hM'.b, Nat.le_trans (by (first | lia | omega)) hM'.n⟩⟩) (fun _ => wpS_pure ⟨hE, rfl, hM'⟩)
    · rintro ⟨c1, out, ia, ib, ac, bc⟩ st2 ⟨hE, hc, hM⟩
      exact ⟨hE, .inr ⟨hc, hM.l, hM.a, hM.b, Nat.le_trans (by (first | lia | omega)) hM.n⟩⟩
    · rintro ⟨c1, out, ia, ib, ac, bc⟩ st2 ⟨hE, hr⟩
      dsimp only at hr ⊢
      rcases hr with ⟨r, rfl, hr⟩ | ⟨rfl, hM⟩
      · exact wpS_pure ⟨hE, r, rfl, hr⟩
      dsimp only
      refine wpS_bind (wpS_lift (wpAny_rule ⟨rfl, ?_⟩))
      -- many at once
      refine wpS_bind (wpS_mono (wpS_forRange (I := fun _ c st' => Eq3 st st' ∧ c.1 = none ∧ Mg a b (x + 2) c.2.1 c.2.2.1 c.2.2.2.1) (Q := fun c st' => MgQ st a b (x + 2) c.1 c.2.1 c.2.2.1 c.2.2.2.1 st') ?_ (fun c st' z => ⟨z.1, .inr z.2⟩) ⟨hE, rfl, hM⟩) ?_)
      · rintro y ⟨c1, out, ia, ib, mg', ac, bc⟩ st3 _ hy ⟨hE, hc, hM⟩
        dsimp only at hc hM ⊢
        subst c1
        obtain ⟨hl, h1, h2, h3⟩ := hM
        have go : ∀ g : Nat, Eq3 st (SortSt.mk' (kindOf st3) (arrOf st3) (pendingOf st3) g (failedOf st3)) := fun g => hE.g g
        have hk3 : kindOf st3 = κ := hE.k.trans hk
        refine wpS_ite (fun _ => ?_) (fun _ => ?_)
        all_goals
          refine wpS_bind (wpS_setG (wpS_bind (wpS_elem h2 (wpS_bind (wpS_gallop hL hk3 (hSb _ _) hSa (by (first | lia | omega)) (by (first | lia | omega)) fun k hk' => ?_)))))
          dsimp only
          refine wpS_ite (fun z1 => wpS_ite (fun _ => wpS_pure ⟨go _, .inl ⟨_, rfl, (hl.runA).last⟩⟩) (fun e3 => wpS_ite (fun _ => wpS_pure ⟨go _, .inl ⟨_, rfl, (hl.runA).done⟩⟩) (fun e4 => ?_))) (fun z1 => ?_)
          · rw [beq_iff_eq] at e3 e4
            have hl' := hl.runA (k := k)
            have h3' : x + 2 ≤ (out ++ a.extract ia (ia + k)).size := by rw [Array.size_append]; (first | lia | omega)
            have h1' : ia + k + 1 < a.size := by (first | lia | omega)
            generalize out ++ a.extract ia (ia + k) = out' at hl' h3' ⊢
            generalize ia + k = ia' at hl' h1' ⊢
            refine wpS_bind (wpS_elem h2 (wpS_ite (fun _ => wpS_pure ⟨go _, .inl ⟨_, rfl, (hl'.pushB h2).done⟩⟩) (fun e5 => ?_)))
            rw [beq_iff_eq] at e5
            refine wpS_bind (wpS_elem (by (first | lia | omega)) (wpS_bind (wpS_gallop hL hk3 (hSa _ _) hSb (by (first | lia | omega)) (by (first | lia | omega)) fun k2 hk2 => ?_)))
            dsimp only
            refine wpS_ite (fun z2 => wpS_ite (fun _ => wpS_pure ⟨go _, .inl ⟨_, rfl, ((hl'.pushB h2).runB).done⟩⟩) (fun e6 => ?_)) (fun z2 => ?_)
            · rw [beq_iff_eq] at e6
              have hm := ((hl'.pushB h2).runB (k := k2)).pushA (by (first | lia | omega))
              refine wpS_bind (wpS_elem (by (first | lia | omega)) (wpS_ite (fun _ => wpS_pure ⟨go _, .inl ⟨_, rfl, hm.last⟩⟩) (fun e7 => ?_)))
              rw [beq_iff_eq] at e7
              have hM' : Mg a b (x + 2) _ _ _ := ⟨hm, by (first | lia | omega), by (first | lia | omega), by rw [Array.size_push, Array.size_append, Array.size_push]; (first | lia | omega)⟩
              exact wpS_ite (fun _ => wpS_pure ⟨go _, .inr ⟨rfl, hM'⟩⟩) (fun _ => wpS_pure ⟨go _, rfl, hM'⟩)
            · have hm := (hl'.pushB h2).pushA (by (first | lia | omega))
              refine wpS_bind (wpS_elem (by (first | lia | omega)) (wpS_ite (fun _ => wpS_pure ⟨go _, .inl ⟨_, rfl, hm.last⟩⟩) (fun e7 => ?_)))
              rw [beq_iff_eq] at e7
              have hM' : Mg a b (x + 2) _ _ _ := ⟨hm, by (first | lia | omega), by (first | lia | omega), by rw [Array.size_push, Array.size_push]; (first | lia | omega)⟩
              exact wpS_ite (fun _ => wpS_pure ⟨go _, .inr ⟨rfl, hM'⟩⟩) (fun _ => wpS_pure ⟨go _, rfl, hM'⟩)
          · refine wpS_bind (wpS_elem h2 (wpS_ite (fun _ => wpS_pure ⟨go _, .inl ⟨_, rfl, (hl.pushB h2).done⟩⟩) (fun e5 => ?_)))
            rw [beq_iff_eq] at e5
            refine wpS_bind (wpS_elem (by (first | lia | omega)) (wpS_bind (wpS_gallop hL hk3 (hSa _ _) hSb (by (first | lia | omega)) (by (first | lia | omega)) fun k2 hk2 => ?_)))
            dsimp only
            refine wpS_ite (fun z2 => wpS_ite (fun _ => wpS_pure ⟨go _, .inl ⟨_, rfl, ((hl.pushB h2).runB).done⟩⟩) (fun e6 => ?_)) (fun z2 => ?_)
            · rw [beq_iff_eq] at e6
              have hm := ((hl.pushB h2).runB (k := k2)).pushA (by (first | lia | omega))
              refine wpS_bind (wpS_elem (by (first | lia | omega)) (wpS_ite (fun _ => wpS_pure ⟨go _, .inl ⟨_, rfl, hm.last⟩⟩) (fun e7 => ?_)))
              rw [beq_iff_eq] at e7
              have hM' : Mg a b (x + 2) _ _ _ := ⟨hm, by (first | lia | omega), by (first | lia | omega), by rw [Array.size_push, Array.size_append, Array.size_push]; (first | lia | omega)⟩
              exact wpS_ite (fun _ => wpS_pure ⟨go _, .inr ⟨rfl, hM'⟩⟩) (fun _ => wpS_pure ⟨go _, rfl, hM'⟩)
            · have hm := (hl.pushB h2).pushA (by (first | lia | omega))
              refine wpS_bind (wpS_elem (by (first | lia | omega)) (wpS_ite (fun _ => wpS_pure ⟨go _, .inl ⟨_, rfl, hm.last⟩⟩) (fun e7 => ?_)))
              rw [beq_iff_eq] at e7
              have hM' : Mg a b (x + 2) _ _ _ := ⟨hm, by (first | lia | omega), by (first | lia | omega), by rw [Array.size_push, Array.size_push]; (first | lia | omega)⟩
              exact wpS_ite (fun _ => wpS_pure ⟨go _, .inr ⟨rfl, hM'⟩⟩) (fun _ => wpS_pure ⟨go _, rfl, hM'⟩)
      · rintro ⟨c1, out, ia, ib, mg', ac, bc⟩ st3 ⟨hE, hr⟩
        dsimp only at hr ⊢
        rcases hr with ⟨r, rfl, hr⟩ | ⟨rfl, hM⟩
        · exact wpS_pure ⟨hE, r, rfl, hr⟩
        dsimp only
        exact wpS_bind (wpS_setG (wpS_pure ⟨hE.g _, rfl, hM⟩))
  · rintro ⟨c1, out, ia, ib, mg⟩ st1 ⟨hE, hc, hM⟩
    dsimp only at hc hM ⊢
    have := hM.l.size (by have := hM.a; (first | lia | omega)) (by have := hM.b; (first | lia | omega))
    have := hM.n
    have := hM.a
    have := hM.b
    (first | lia | omega)
  · rintro ⟨c1, out, ia, ib, mg⟩ st1 ⟨hE, r, hc, hr⟩
    dsimp only at hc ⊢
    subst c1
    exact wpS_pure (h r st1 hr hE)
end
noncomputable def mergeHi' : Array Keyed → Array Keyed → StateT SortSt Sem (Array Keyed) := sortPriv% PySem.Builtin.mergeHi
theorem mergeHi'_eq (a b : Array Keyed) : mergeHi' a b = (do
  rule "list.sort.merge-hi"
  let total := a.size + b.size
  let done (out : Array Keyed) (na nb : Nat) := a.extract 0 na ++ b.extract 0 nb ++ out.reverse
  let firstOfB (out : Array Keyed) (na nb : Nat) := b.extract 0 nb ++ a.extract 0 na ++ out.reverse
  let mut na := a.size - 1
  let mut nb := b.size
  let mut out : Array Keyed := #[← elem' a na]
  if na == 0 then return done out na nb
  if nb == 1 then return firstOfB out na nb
  let mut minGallop := gallopOf (← get)
  for _ in [0:total] do
    let mut acount := 0
    let mut bcount := 0
    for _ in [0:total] do
      let some aWins ← lt' (← elem' b (nb - 1)) (← elem' a (na - 1)) | return done out na nb
      if aWins then
        na := na - 1; out := out.push (← elem' a na); acount := acount + 1; bcount := 0
        if na == 0 then return done out na nb
        if acount ≥ minGallop then break
      else
        nb := nb - 1; out := out.push (← elem' b nb); bcount := bcount + 1; acount := 0
        if nb == 1 then return firstOfB out na nb
        if bcount ≥ minGallop then break
    rule "list.sort.gallop"
    minGallop := minGallop + 1
    for _ in [0:total] do
      if minGallop > 1 then minGallop := minGallop - 1
      setMinGallop' minGallop
      let some at_ ← gallop' false (← elem' b (nb - 1)) a 0 na (na - 1) | return done out na nb
      let k := na - at_
      acount := k
      if k > 0 then
        out := out ++ (a.extract at_ na).reverse; na := at_
        if na == 0 then return done out na nb
      nb := nb - 1; out := out.push (← elem' b nb)
      if nb == 1 then return firstOfB out na nb
      let some at_ ← gallop' true (← elem' a (na - 1)) b 0 nb (nb - 1) | return done out na nb
      let k := nb - at_
      bcount := k
      if k > 0 then
        out := out ++ (b.extract at_ nb).reverse; nb := at_
        if nb == 1 then return firstOfB out na nb
        if nb == 0 then return done out na nb
      na := na - 1; out := out.push (← elem' a na)
      if na == 0 then return done out na nb
      if acount < 7 && bcount < 7 then break
    minGallop := minGallop + 1
    setMinGallop' minGallop
  unsupported "internal:list.sort.merge-bound") := rfl
section
variable {prog : Program} {w : World} {A : Around} {E : Value → Shared → Prop} {s : Shared} {κ : SortKind} {S : Keyed → Prop}
noncomputable def LftH (a b out : Array Keyed) (na nb : Nat) : Prop := (a.toList.take na ++ b.toList.take nb ++ out.toList.reverse).Perm (a.toList ++ b.toList)
section
variable {a b out : Array Keyed} {na nb k : Nat}
theorem take_last {l : List Keyed} {n : Nat} (h : 0 < n) (h' : n ≤ l.length) : l.take n = l.take (n - 1) ++ [l[n - 1]] := by
  obtain ⟨m, rfl⟩ : ∃ m, n = m + 1 := ⟨n - 1, by (first | lia | omega)⟩
  rw [List.take_succ_eq_append_getElem (by (first | lia | omega))]
  rfl
theorem LftH.pushA (h : LftH a b out na nb) (h0 : 0 < na) (h1 : na ≤ a.size) : LftH a b (out.push (a[na - 1]'(by (first | lia | omega)))) (na - 1) nb := by
  unfold LftH at h ⊢
  refine List.Perm.trans ?_ h
  rw [take_last (l := a.toList) h0 (by rw [Array.length_toList]; exact h1), Array.toList_push, List.reverse_append, Array.getElem_toList]
  simp only [List.append_assoc, List.reverse_cons, List.reverse_nil, List.nil_append]
  refine List.Perm.append_left _ ?_
  exact List.perm_append_comm_assoc _ _ _
theorem LftH.pushB (h : LftH a b out na nb) (h0 : 0 < nb) (h1 : nb ≤ b.size) : LftH a b (out.push (b[nb - 1]'(by (first | lia | omega)))) na (nb - 1) := by
  unfold LftH at h ⊢
  refine List.Perm.trans (List.Perm.of_eq ?_) h
  rw [take_last (l := b.toList) h0 (by rw [Array.length_toList]; exact h1), Array.toList_push, List.reverse_append, Array.getElem_toList]
  simp only [List.append_assoc, List.reverse_cons, List.reverse_nil, List.nil_append]
theorem LftH.runA (h : LftH a b out na nb) (hk : k ≤ na) : LftH a b (out ++ (a.extract k na).reverse) k nb := by
  unfold LftH at h ⊢
  refine List.Perm.trans ?_ h
  rw [Array.toList_append, Array.toList_reverse, List.reverse_append, List.reverse_reverse, ext_list]
  have e : a.toList.take na = a.toList.take k ++ (a.toList.drop k).take (na - k) := by
    rw [← List.take_append_drop k (a.toList.take na), List.take_take, List.drop_take, Nat.min_eq_left hk]
  rw [e]
  simp only [List.append_assoc]
  refine List.Perm.append_left _ ?_
  exact List.perm_append_comm_assoc _ _ _
theorem LftH.runB (h : LftH a b out na nb) (hk : k ≤ nb) : LftH a b (out ++ (b.extract k nb).reverse) na k := by
  unfold LftH at h ⊢
  refine List.Perm.trans (List.Perm.of_eq ?_) h
  rw [Array.toList_append, Array.toList_reverse, List.reverse_append, List.reverse_reverse, ext_list]
  have e : b.toList.take nb = b.toList.take k ++ (b.toList.drop k).take (nb - k) := by
    rw [← List.take_append_drop k (b.toList.take nb), List.take_take, List.drop_take, Nat.min_eq_left hk]
  rw [e]
  simp only [List.append_assoc]
theorem LftH.done (h : LftH a b out na nb) : (a.extract 0 na ++ b.extract 0 nb ++ out.reverse).toList.Perm (a.toList ++ b.toList) := by
  rw [Array.toList_append, Array.toList_append, ext_list, ext_list, Array.toList_reverse]
  exact h
theorem LftH.first (h : LftH a b out na nb) : (b.extract 0 nb ++ a.extract 0 na ++ out.reverse).toList.Perm (a.toList ++ b.toList) := by
  rw [Array.toList_append, Array.toList_append, ext_list, ext_list, Array.toList_reverse]
  refine List.Perm.trans ?_ h
  exact List.Perm.append_right _ List.perm_append_comm
theorem LftH.size (h : LftH a b out na nb) (ha : na ≤ a.size) (hb : nb ≤ b.size) : out.size + na + nb = a.size + b.size := by
  have := h.length_eq
  simp only [List.length_append, List.length_take, Array.length_toList, List.length_reverse] at this
  (first | lia | omega)
end
structure MgH (a b : Array Keyed) (n : Nat) (out : Array Keyed) (na nb : Nat) : Prop where
  l : LftH a b out na nb
  a : 0 < na ∧ na ≤ a.size
  b : 1 < nb ∧ nb ≤ b.size
  n : n ≤ out.size
noncomputable def MgHQ (st : SortSt) (a b : Array Keyed) (n : Nat) (r : Option (Array Keyed)) (out : Array Keyed) (na nb : Nat) (st' : SortSt) : Prop :=
  Eq3 st st' ∧ ((∃ x, r = some x ∧ x.toList.Perm (a.toList ++ b.toList)) ∨ (r = none ∧ MgH a b n out na nb))
theorem wpS_mergeHi (hL : LtOk prog w A E s κ S) {a b : Array Keyed} {st : SortSt} {Q : Array Keyed → SortSt → Prop} (hk : kindOf st = κ) (hSa : ∀ i, (hi : i < a.size) → S a[i]) (hSb : ∀ i, (hi : i < b.size) → S b[i]) (ha : 0 < a.size) (hb : 0 < b.size)
    (h : ∀ r st', r.toList.Perm (a.toList ++ b.toList) → Eq3 st st' → Q r st') : wpS (model prog w) A E s (mergeHi' a b) Q st := by
  have l0 : LftH a b #[a[a.size - 1]] (a.size - 1) b.size := by
    have : LftH a b (#[].push (a[a.size - 1])) (a.size - 1) b.size := LftH.pushA (List.Perm.of_eq (by rw [List.take_of_length_le (by simp), List.take_of_length_le (by simp)]; simp)) ha (Nat.le_refl _)
    exact this
  rw [mergeHi'_eq]
  refine wpS_bind (wpS_lift (wpAny_rule ⟨rfl, ?_⟩))
  refine wpS_bind (wpS_elem (by (first | lia | omega)) ?_)
  dsimp only
  refine wpS_ite (fun _ => wpS_pure (h _ _ l0.done (.refl st))) (fun e1 => ?_)
  refine wpS_ite (fun _ => wpS_pure (h _ _ l0.first (.refl st))) (fun e2 => ?_)
  rw [beq_iff_eq] at e1 e2
  refine wpS_bind (wpS_get ?_)
  refine wpS_bind (wpS_mono (wpS_forRange (I := fun x c st' => Eq3 st st' ∧ c.1 = none ∧ MgH a b (x + 1) c.2.2.2.1 c.2.1 c.2.2.1) (Q := fun c st' => Eq3 st st' ∧ ∃ x, c.1 = some x ∧ x.toList.Perm (a.toList ++ b.toList)) ?_ ?_ ?_) ?_)
  · rintro x ⟨c1, na, nb, out, mg⟩ st1 _ hx ⟨hE, hc, hM⟩
    dsimp only at hc hM ⊢
    subst c1
    -- one by one
    refine wpS_bind (wpS_mono (wpS_forRange (I := fun y c st' => Eq3 st st' ∧ c.1 = none ∧ MgH a b (x + 1 + y) c.2.2.2.1 c.2.1 c.2.2.1) (Q := fun c st' => MgHQ st a b (x + 2) c.1 c.2.2.2.1 c.2.1 c.2.2.1 st') ?_ ?_ ⟨hE, rfl, hM⟩) ?_)
    · rintro y ⟨c1, na, nb, out, ac, bc⟩ st2 _ hy ⟨hE, hc, hM⟩
      dsimp only at hc hM ⊢
      subst c1
      obtain ⟨hl, h1, h2, h3⟩ := hM
      refine wpS_bind (wpS_elem (by (first | lia | omega)) (wpS_bind (wpS_elem (by (first | lia | omega)) (wpS_bind (hL _ _ (hSb _ _) (hSa _ _) st2 _ (hE.k.trans hk) fun bw => ?_)))))
      cases bw with
      | true =>
        dsimp only
        rw [if_pos rfl]
        refine wpS_bind (wpS_elem (by (first | lia | omega)) ?_)
        refine wpS_ite (fun _ => wpS_pure ⟨hE, .inl ⟨_, rfl, (hl.pushA (by (first | lia | omega)) (by (first | lia | omega))).done⟩⟩) (fun e => ?_)
        rw [beq_iff_eq] at e
        have hM' : MgH a b (x + 1 + (y + 1)) _ (na - 1) nb := ⟨hl.pushA (by (first | lia | omega)) (by (first | lia | omega)), by (first | lia | omega), h2, by rw [Array.size_push]; (first | lia | omega)⟩
        exact wpS_ite (fun _ => wpS_pure ⟨hE, .inr ⟨rfl, hM'.l, hM'.a, hM'.b, Nat.le_trans (by (first | lia | omega)) hM'.n⟩⟩) (fun _ => wpS_pure ⟨hE, rfl, hM'⟩)
      | false =>
        dsimp only
        rw [if_neg Bool.false_ne_true]
        refine wpS_bind (wpS_elem (by (first | lia | omega)) ?_)
        refine wpS_ite (fun _ => wpS_pure ⟨hE, .inl ⟨_, rfl, (hl.pushB (by (first | lia | omega)) (by (first | lia | omega))).first⟩⟩) (fun e => ?_)
        rw [beq_iff_eq] at e
        have hM' : MgH a b (x + 1 + (y + 1)) _ na (nb - 1) := ⟨hl.pushB (by (first | lia | omega)) (by (first | lia | omega)), h1, by (first | lia | omega), by rw [Array.size_push]; (first | lia | omega)⟩
        exact wpS_ite (fun _ => wpS_pure ⟨hE, .inr ⟨rfl, hM'.l, hM'.a, hM'.b, Nat.le_trans (by (first | lia | omega)) hM'.n⟩⟩) (fun _ => wpS_pure ⟨hE, rfl, hM'⟩)
    · rintro ⟨c1, na, nb, out, ac, bc⟩ st2 ⟨hE, hc, hM⟩
      exact ⟨hE, .inr ⟨hc, hM.l, hM.a, hM.b, Nat.le_trans (by (first | lia | omega)) hM.n⟩⟩
    · rintro ⟨c1, na, nb, out, ac, bc⟩ st2 ⟨hE, hr⟩
      dsimp only at hr ⊢
      rcases hr with ⟨r, rfl, hr⟩ | ⟨rfl, hM⟩
      · exact wpS_pure ⟨hE, r, rfl, hr⟩
      dsimp only
      refine wpS_bind (wpS_lift (wpAny_rule ⟨rfl, ?_⟩))
      -- many at once
      refine wpS_bind (wpS_mono (wpS_forRange (I := fun _ c st' => Eq3 st st' ∧ c.1 = none ∧ MgH a b (x + 2) c.2.2.2.1 c.2.1 c.2.2.1) (Q := fun c st' => MgHQ st a b (x + 2) c.1 c.2.2.2.1 c.2.1 c.2.2.1 st') ?_ (fun c st' z => ⟨z.1, .inr z.2⟩) ⟨hE, rfl, hM⟩) ?_)
      · rintro y ⟨c1, na, nb, out, mg', ac, bc⟩ st3 _ hy ⟨hE, hc, hM⟩
        dsimp only at hc hM ⊢
        subst c1
        obtain ⟨hl, h1, h2, h3⟩ := hM
        have go : ∀ g : Nat, Eq3 st (SortSt.mk' (kindOf st3) (arrOf st3) (pendingOf st3) g (failedOf st3)) := fun g => hE.g g
        have hk3 : kindOf st3 = κ := hE.k.trans hk
        refine wpS_ite (fun _ => ?_) (fun _ => ?_)
        all_goals
          refine wpS_bind (wpS_setG (wpS_bind (wpS_elem (by (first | lia | omega)) (wpS_bind (wpS_gallop hL hk3 (hSb _ _) hSa (by (first | lia | omega)) (by (first | lia | omega)) fun k hk' => ?_)))))
          dsimp only
          refine wpS_ite (fun z1 => wpS_ite (fun _ => wpS_pure ⟨go _, .inl ⟨_, rfl, (hl.runA hk').done⟩⟩) (fun e4 => ?_)) (fun z1 => ?_)
          · rw [beq_iff_eq] at e4
            have hl' := hl.runA hk'
            have h3' : x + 2 ≤ (out ++ (a.extract k na).reverse).size := by rw [Array.size_append]; (first | lia | omega)
            generalize out ++ (a.extract k na).reverse = out' at hl' h3' ⊢
            refine wpS_bind (wpS_elem (by (first | lia | omega)) (wpS_ite (fun _ => wpS_pure ⟨go _, .inl ⟨_, rfl, (hl'.pushB (by (first | lia | omega)) (by (first | lia | omega))).first⟩⟩) (fun e5 => ?_)))
            rw [beq_iff_eq] at e5
            refine wpS_bind (wpS_elem (by (first | lia | omega)) (wpS_bind (wpS_gallop hL hk3 (hSa _ _) hSb (by (first | lia | omega)) (by (first | lia | omega)) fun k2 hk2 => ?_)))
            dsimp only
            refine wpS_ite (fun z2 => wpS_ite (fun _ => wpS_pure ⟨go _, .inl ⟨_, rfl, ((hl'.pushB (by (first | lia | omega)) (by (first | lia | omega))).runB hk2).first⟩⟩) (fun e6 => wpS_ite (fun _ => wpS_pure ⟨go _, .inl ⟨_, rfl, ((hl'.pushB (by (first | lia | omega)) (by (first | lia | omega))).runB hk2).done⟩⟩) (fun e8 => ?_))) (fun z2 => ?_)
            · rw [beq_iff_eq] at e6 e8
              have hm := ((hl'.pushB (by (first | lia | omega)) (by (first | lia | omega))).runB hk2).pushA (by (first | lia | omega)) (by (first | lia | omega))
              refine wpS_bind (wpS_elem (by (first | lia | omega)) (wpS_ite (fun _ => wpS_pure ⟨go _, .inl ⟨_, rfl, hm.done⟩⟩) (fun e7 => ?_)))
              rw [beq_iff_eq] at e7
              have hM' : MgH a b (x + 2) _ _ _ := ⟨hm, by (first | lia | omega), by (first | lia | omega), by rw [Array.size_push, Array.size_append, Array.size_push]; (first | lia | omega)⟩
              exact wpS_ite (fun _ => wpS_pure ⟨go _, .inr ⟨rfl, hM'⟩⟩) (fun _ => wpS_pure ⟨go _, rfl, hM'⟩)
            · have hm := (hl'.pushB (by (first | lia | omega)) (by (first | lia | omega))).pushA (by (first | lia | omega)) (by (first | lia | omega))
              refine wpS_bind (wpS_elem (by (first | lia | omega)) (wpS_ite (fun _ => wpS_pure ⟨go _, .inl ⟨_, rfl, hm.done⟩⟩) (fun e7 => ?_)))
              rw [beq_iff_eq] at e7
              have hM' : MgH a b (x + 2) _ _ _ := ⟨hm, by (first | lia | omega), by (first | lia | omega), by rw [Array.size_push, Array.size_push]; (first | lia | omega)⟩
              exact wpS_ite (fun _ => wpS_pure ⟨go _, .inr ⟨rfl, hM'⟩⟩) (fun _ => wpS_pure ⟨go _, rfl, hM'⟩)
          · skip
            refine wpS_bind (wpS_elem (by (first | lia | omega)) (wpS_ite (fun _ => wpS_pure ⟨go _, .inl ⟨_, rfl, (hl.pushB (by (first | lia | omega)) (by (first | lia | omega))).first⟩⟩) (fun e5 => ?_)))
            rw [beq_iff_eq] at e5
            refine wpS_bind (wpS_elem (by (first | lia | omega)) (wpS_bind (wpS_gallop hL hk3 (hSa _ _) hSb (by (first | lia | omega)) (by (first | lia | omega)) fun k2 hk2 => ?_)))
            dsimp only
            refine wpS_ite (fun z2 => wpS_ite (fun _ => wpS_pure ⟨go _, .inl ⟨_, rfl, ((hl.pushB (by (first | lia | omega)) (by (first | lia | omega))).runB hk2).first⟩⟩) (fun e6 => wpS_ite (fun _ => wpS_pure ⟨go _, .inl ⟨_, rfl, ((hl.pushB (by (first | lia | omega)) (by (first | lia | omega))).runB hk2).done⟩⟩) (fun e8 => ?_))) (fun z2 => ?_)
            · rw [beq_iff_eq] at e6 e8
              have hm := ((hl.pushB (by (first | lia | omega)) (by (first | lia | omega))).runB hk2).pushA (by (first | lia | omega)) (by (first | lia | omega))
              refine wpS_bind (wpS_elem (by (first | lia | omega)) (wpS_ite (fun _ => wpS_pure ⟨go _, .inl ⟨_, rfl, hm.done⟩⟩) (fun e7 => ?_)))
              rw [beq_iff_eq] at e7
              have hM' : MgH a b (x + 2) _ _ _ := ⟨hm, by (first | lia | omega), by (first | lia | omega), by rw [Array.size_push, Array.size_append, Array.size_push]; (first | lia | omega)⟩
              exact wpS_ite (fun _ => wpS_pure ⟨go _, .inr ⟨rfl, hM'⟩⟩) (fun _ => wpS_pure ⟨go _, rfl, hM'⟩)
            · have hm := (hl.pushB (by (first | lia | omega)) (by (first | lia | omega))).pushA (by (first | lia | omega)) (by (first | lia | omega))
              refine wpS_bind (wpS_elem (by (first | lia | omega)) (wpS_ite (fun _ => wpS_pure ⟨go _, .inl ⟨_, rfl, hm.done⟩⟩) (fun e7 => ?_)))
              rw [beq_iff_eq] at e7
              have hM' : MgH a b (x + 2) _ _ _ := ⟨hm, by (first | lia | omega), by (first | lia | omega), by rw [Array.size_push, Array.size_push]; (first | lia | omega)⟩
              exact wpS_ite (fun _ => wpS_pure ⟨go _, .inr ⟨rfl, hM'⟩⟩) (fun _ => wpS_pure ⟨go _, rfl, hM'⟩)
      · rintro ⟨c1, na, nb, out, mg', ac, bc⟩ st3 ⟨hE, hr⟩
        dsimp only at hr ⊢
        rcases hr with ⟨r, rfl, hr⟩ | ⟨rfl, hM⟩
        · exact wpS_pure ⟨hE, r, rfl, hr⟩
        dsimp only
        exact wpS_bind (wpS_setG (wpS_pure ⟨hE.g _, rfl, hM⟩))
  · rintro ⟨c1, na, nb, out, mg⟩ st1 ⟨hE, hc, hM⟩
    dsimp only at hc hM ⊢
    have := hM.l.size hM.a.2 hM.b.2
    have := hM.n
    have := hM.a
    have := hM.b
    (first | lia | omega)
  · exact ⟨.refl st, rfl, l0, ⟨by show 0 < a.size - 1; (first | lia | omega), by show a.size - 1 ≤ a.size; (first | lia | omega)⟩, ⟨by show 1 < b.size; (first | lia | omega), Nat.le_refl _⟩, Nat.le_refl _⟩
  · rintro ⟨c1, na, nb, out, mg⟩ st1 ⟨hE, r, hc, hr⟩
    dsimp only at hc ⊢
    subst c1
    exact wpS_pure (h r st1 hr hE)
end
end SrtA
namespace SrtA
open PySem PySem.W PyProof.Rows
theorem mergeAt'_eq (i : Nat) : mergeAt' i = (do
  let s ← get
  let (some (sa, na, power), some (sb, nb, _)) := ((pendingOf s)[i]?, (pendingOf s)[i + 1]?) | unsupported "internal:list.sort.pending"
  set (setPending s (((pendingOf s).setIfInBounds i (sa, na + nb, power)).eraseIdxIfInBounds (i + 1)))
  let some k ← gallop' false (← elem' (arrOf s) sb) (arrOf s) sa na 0 | return false
  let (sa, na) := (sa + k, na - k)
  if na == 0 then return true
  let some nb ← gallop' true (← elem' (arrOf s) (sa + na - 1)) (arrOf s) sb nb (nb - 1) | return false
  if nb == 0 then return true
  let x := (arrOf s).extract sa sb
  let y := (arrOf s).extract sb (sb + nb)
  let merged ← if na ≤ nb then mergeLo' x y else mergeHi' x y
  modify fun s => setArr s (merged.toList.zipIdx.foldl (fun a (p, j) => a.setIfInBounds (sa + j) p) (arrOf s))
  return (failedOf (← get)).isNone) := rfl
noncomputable def Seg : List (Nat × Nat × Nat) → Nat → Nat → Prop
  | [], p, q => p = q
  | (st, n, _) :: r, p, q => st = p ∧ 0 < n ∧ Seg r (p + n) q
theorem Seg.append : ∀ {l r : List (Nat × Nat × Nat)} {p q : Nat}, Seg (l ++ r) p q ↔ ∃ m, Seg l p m ∧ Seg r m q
  | [], r, p, q => ⟨fun h => ⟨p, rfl, h⟩, fun ⟨m, e, h⟩ => by cases e; exact h⟩
  | (st, n, w) :: l, r, p, q => by
    constructor
    · rintro ⟨h1, h2, h3⟩
      obtain ⟨m, h4, h5⟩ := Seg.append.mp h3
      exact ⟨m, ⟨h1, h2, h4⟩, h5⟩
    · rintro ⟨m, ⟨h1, h2, h4⟩, h5⟩
      exact ⟨h1, h2, Seg.append.mpr ⟨m, h4, h5⟩⟩
theorem Seg.le : ∀ {l : List (Nat × Nat × Nat)} {p q : Nat}, Seg l p q → p ≤ q
  | [], p, q, h => Nat.le_of_eq h
  | (st, n, w) :: l, p, q, h => Nat.le_trans (Nat.le_add_right p n) (Seg.le h.2.2)
theorem fold_set (base : Nat) : ∀ (m : List Keyed) (k : Nat) (a : Array Keyed), base + k + m.length ≤ a.size →
    ((m.zipIdx k).foldl (fun a (x : Keyed × Nat) => a.setIfInBounds (base + x.2) x.1) a).toList = a.toList.take (base + k) ++ m ++ a.toList.drop (base + k + m.length)
  | [], k, a, _ => by simp
  | p :: m, k, a, h => by
    rw [List.length_cons] at h
    rw [List.zipIdx_cons, List.foldl_cons, fold_set base m (k + 1) _ (by rw [Array.size_setIfInBounds]; (first | lia | omega))]
    have hl : base + k < a.toList.length := by rw [Array.length_toList]; (first | lia | omega)
    rw [Array.toList_setIfInBounds, List.length_cons]
    have e1 : (a.toList.set (base + k) p).take (base + (k + 1)) = a.toList.take (base + k) ++ [p] := by
      rw [← Nat.add_assoc, List.take_succ_eq_append_getElem (by rw [List.length_set]; exact hl), List.getElem_set_self, List.take_set_of_le (Nat.le_refl _)]
    have e2 : (a.toList.set (base + k) p).drop (base + (k + 1) + m.length) = a.toList.drop (base + k + (m.length + 1)) := by
      rw [List.drop_set_of_lt (by (first | lia | omega))]
      congr 1
      (first | lia | omega)
    rw [e1, e2]
    simp only [List.append_assoc, List.cons_append, List.nil_append]
section
variable {prog : Program} {w : World} {A : Around} {E : Value → Shared → Prop} {s : Shared} {κ : SortKind} {S : Keyed → Prop} {a₀ : Array Keyed}
structure SI (κ : SortKind) (a₀ : Array Keyed) (lo : Nat) (st : SortSt) : Prop where
  k : kindOf st = κ
  p : (arrOf st).toList.Perm a₀.toList
  f : failedOf st = none
  g : Seg (pendingOf st).toList 0 lo
  lo : lo ≤ a₀.size
theorem SI.size {lo : Nat} {st : SortSt} (h : SI κ a₀ lo st) : (arrOf st).size = a₀.size := by
  have := h.p.length_eq
  rwa [Array.length_toList, Array.length_toList] at this
theorem SI.all {lo : Nat} {st : SortSt} (h : SI κ a₀ lo st) (h0 : ∀ x ∈ a₀.toList, S x) : ∀ i, (hi : i < (arrOf st).size) → S (arrOf st)[i] := fun i hi => h0 _ (h.p.mem_iff.mp (by rw [Array.mem_toList_iff]; exact Array.getElem_mem hi))
theorem pend_split {p : Array (Nat × Nat × Nat)} {i : Nat} (h : i + 1 < p.size) : ∃ l1 x y l2, p.toList = l1 ++ x :: y :: l2 ∧ l1.length = i ∧ p[i]? = some x ∧ p[i + 1]? = some y := by
  have hi : i < p.toList.length := by rw [Array.length_toList]; (first | lia | omega)
  have hi1 : i + 1 < p.toList.length := by rw [Array.length_toList]; (first | lia | omega)
  refine ⟨p.toList.take i, p.toList[i], p.toList[i + 1], p.toList.drop (i + 2), ?_, by rw [List.length_take]; (first | lia | omega), ?_, ?_⟩
  · rw [← List.drop_eq_getElem_cons hi1, ← List.drop_eq_getElem_cons hi, List.take_append_drop]
  · rw [← Array.getElem?_toList, List.getElem?_eq_getElem hi]
  · rw [← Array.getElem?_toList, List.getElem?_eq_getElem hi1]
theorem wpS_set {σ : Type} {M : Model} {x : σ} {Q : PUnit → σ → Prop} {st : σ} (h : Q ⟨⟩ x) : wpS M A E s (set x : StateT σ Sem PUnit) Q st := by
  unfold wpS
  rw [StateT.run_set]
  exact wpAny_pure ⟨rfl, h⟩
theorem set_mid {α : Type} (l1 l2 : List α) (x y z : α) : (l1 ++ x :: y :: l2).set l1.length z = l1 ++ z :: y :: l2 := by
  rw [List.set_append_right _ _ (Nat.le_refl _), Nat.sub_self]
  rfl
theorem erase_mid {α : Type} (l1 l2 : List α) (x y : α) : (l1 ++ x :: y :: l2).eraseIdx (l1.length + 1) = l1 ++ x :: l2 := by
  rw [List.eraseIdx_append_of_length_le (by (first | lia | omega)), Nat.add_sub_cancel_left]
  rfl
theorem cut3 (l : List Keyed) {p q n : Nat} (h : p ≤ q) : l.take p ++ ((l.drop p).take (q - p) ++ (l.drop q).take n) ++ l.drop (q + n) = l := by
  have e1 : (l.drop q).take n ++ l.drop (q + n) = l.drop q := by rw [← List.drop_drop, List.take_append_drop]
  have e2 : (l.drop p).take (q - p) ++ l.drop q = l.drop p := by
    have : l.drop q = (l.drop p).drop (q - p) := by rw [List.drop_drop]; congr 1; (first | lia | omega)
    rw [this, List.take_append_drop]
  rw [List.append_assoc, List.append_assoc, e1, e2, List.take_append_drop]
theorem wpS_mergeAt (hL : LtOk prog w A E s κ S) (h0 : ∀ x ∈ a₀.toList, S x) {i lo : Nat} {st : SortSt} {Q : Bool → SortSt → Prop} (hI : SI κ a₀ lo st) (hi : i + 1 < (pendingOf st).size)
    (h : ∀ st', SI κ a₀ lo st' → (pendingOf st').size + 1 = (pendingOf st).size → Q true st') : wpS (model prog w) A E s (mergeAt' i) Q st := by
  obtain ⟨l1, ⟨sa, na, pw⟩, ⟨sb, nb, pw2⟩, l2, ep, el, e1, e2⟩ := pend_split hi
  rw [mergeAt'_eq]
  refine wpS_bind (wpS_get ?_)
  rw [e1, e2]
  dsimp only
  have hg := hI.g
  rw [ep] at hg
  obtain ⟨m, g1, g2, g3, g4, g5, g6⟩ := Seg.append.mp hg
  subst g2 g4
  have hsz := hI.size
  have hle := g6.le
  have hlo := hI.lo
  have enew : (((pendingOf st).setIfInBounds i (sa, na + nb, pw)).eraseIdxIfInBounds (i + 1)).toList = l1 ++ (sa, na + nb, pw) :: l2 := by
    unfold Array.eraseIdxIfInBounds
    rw [dif_pos (by rw [Array.size_setIfInBounds]; exact hi), Array.toList_eraseIdx, Array.toList_setIfInBounds, ep, ← el, set_mid, erase_mid]
  have hI1 : SI κ a₀ lo (setPending st (((pendingOf st).setIfInBounds i (sa, na + nb, pw)).eraseIdxIfInBounds (i + 1))) := by
    refine ⟨hI.k, hI.p, hI.f, ?_, hI.lo⟩
    show Seg (((pendingOf st).setIfInBounds i (sa, na + nb, pw)).eraseIdxIfInBounds (i + 1)).toList 0 lo
    rw [enew]
    refine Seg.append.mpr ⟨sa, g1, rfl, by (first | lia | omega), ?_⟩
    rw [← Nat.add_assoc]
    exact g6
  have hs1 : (pendingOf (setPending st (((pendingOf st).setIfInBounds i (sa, na + nb, pw)).eraseIdxIfInBounds (i + 1)))).size + 1 = (pendingOf st).size := by
    have e := congrArg List.length enew
    have e' := congrArg List.length ep
    rw [Array.length_toList] at e e'
    show (((pendingOf st).setIfInBounds i (sa, na + nb, pw)).eraseIdxIfInBounds (i + 1)).size + 1 = _
    rw [e, e']
    simp only [List.length_append, List.length_cons]
    (first | lia | omega)
  have ha := hI.all h0
  have harr : arrOf (setPending st (((pendingOf st).setIfInBounds i (sa, na + nb, pw)).eraseIdxIfInBounds (i + 1))) = arrOf st := rfl
  refine wpS_bind (wpS_set ?_)
  generalize setPending st (((pendingOf st).setIfInBounds i (sa, na + nb, pw)).eraseIdxIfInBounds (i + 1)) = st1 at hI1 hs1 harr
  refine wpS_bind (wpS_elem (by (first | lia | omega)) (wpS_bind (wpS_gallop hL hI1.k (ha _ _) ha (by (first | lia | omega)) (by (first | lia | omega)) fun k hk => ?_)))
  dsimp only
  refine wpS_ite (fun _ => wpS_pure (h _ hI1 hs1)) (fun z1 => ?_)
  rw [beq_iff_eq] at z1
  refine wpS_bind (wpS_elem (by (first | lia | omega)) (wpS_bind (wpS_gallop hL hI1.k (ha _ _) ha (by (first | lia | omega)) (by (first | lia | omega)) fun k2 hk2 => ?_)))
  dsimp only
  refine wpS_ite (fun _ => wpS_pure (h _ hI1 hs1)) (fun z2 => ?_)
  rw [beq_iff_eq] at z2
  have sx : ((arrOf st).extract (sa + k) (sa + na)).size = na - k := by rw [Array.size_extract]; (first | lia | omega)
  have sy : ((arrOf st).extract (sa + na) (sa + na + k2)).size = k2 := by rw [Array.size_extract]; (first | lia | omega)
  have hx : ∀ j, (hj : j < ((arrOf st).extract (sa + k) (sa + na)).size) → S ((arrOf st).extract (sa + k) (sa + na))[j] := fun j hj => by
    rw [Array.getElem_extract]; exact ha _ _
  have hy : ∀ j, (hj : j < ((arrOf st).extract (sa + na) (sa + na + k2)).size) → S ((arrOf st).extract (sa + na) (sa + na + k2))[j] := fun j hj => by
    rw [Array.getElem_extract]; exact ha _ _
  have post : ∀ (r : Array Keyed) (st' : SortSt), r.toList.Perm (((arrOf st).extract (sa + k) (sa + na)).toList ++ ((arrOf st).extract (sa + na) (sa + na + k2)).toList) → Eq3 st1 st' → wpS (model prog w) A E s (do
      modify fun s => setArr s (r.toList.zipIdx.foldl (fun a (p, j) => a.setIfInBounds (sa + k + j) p) (arrOf s))
      return (failedOf (← get)).isNone) Q st' := by
    intro r st' hr hE
    refine wpS_bind (wpS_modify (wpS_bind (wpS_get ?_)))
    have hlen := hr.length_eq
    rw [List.length_append, Array.length_toList, Array.length_toList, Array.length_toList, sx, sy, ← Array.length_toList (xs := r)] at hlen
    have hf : failedOf (setArr st' (r.toList.zipIdx.foldl (fun a (x : Keyed × Nat) => a.setIfInBounds (sa + k + x.2) x.1) (arrOf st'))) = none := hE.f.trans hI1.f
    have ea : arrOf st' = arrOf st := hE.a.trans harr
    have hI2 : SI κ a₀ lo (setArr st' (r.toList.zipIdx.foldl (fun a (x : Keyed × Nat) => a.setIfInBounds (sa + k + x.2) x.1) (arrOf st'))) := by
      refine ⟨hE.k.trans hI1.k, ?_, hf, ?_, hI.lo⟩
      · show (r.toList.zipIdx.foldl (fun a (x : Keyed × Nat) => a.setIfInBounds (sa + k + x.2) x.1) (arrOf st')).toList.Perm a₀.toList
        rw [ea, fold_set (sa + k) r.toList 0 (arrOf st) (by (first | lia | omega)), Nat.add_zero]
        refine List.Perm.trans ?_ hI.p
        have hc := cut3 (arrOf st).toList (p := sa + k) (q := sa + na) (n := k2) (by (first | lia | omega))
        rw [ext_list, ext_list, Nat.add_sub_cancel_left] at hr
        have hle2 : sa + k + r.toList.length = sa + na + k2 := by (first | lia | omega)
        rw [hle2]
        refine List.Perm.trans ?_ (List.Perm.of_eq hc)
        exact List.Perm.append_right _ (List.Perm.append_left _ hr)
      · show Seg (pendingOf st').toList 0 lo
        rw [hE.p]
        exact hI1.g
    have hs2 : (pendingOf (setArr st' (r.toList.zipIdx.foldl (fun a (x : Keyed × Nat) => a.setIfInBounds (sa + k + x.2) x.1) (arrOf st')))).size + 1 = (pendingOf st).size := by
      show (pendingOf st').size + 1 = _
      rw [hE.p]
      exact hs1
    refine wpS_pure ?_
    have := h _ hI2 hs2
    rw [hf]
    exact this
  refine wpS_ite (fun _ => wpS_bind (wpS_mergeLo hL hI1.k hx hy (by (first | lia | omega)) (by (first | lia | omega)) fun r st' hr hE => post r st' hr hE)) (fun _ => wpS_bind (wpS_mergeHi hL hI1.k hx hy (by (first | lia | omega)) (by (first | lia | omega)) fun r st' hr hE => post r st' hr hE))
theorem SI.set {lo : Nat} {st : SortSt} (h : SI κ a₀ lo st) {xs : Array Keyed} (hp : xs.Perm (arrOf st)) : SI κ a₀ lo (setArr st xs) :=
  ⟨h.k, (Array.perm_iff_toList_perm.mp hp).trans h.p, h.f, h.g, h.lo⟩
theorem wpS_ltA (hL : LtOk prog w A E s κ S) (h0 : ∀ x ∈ a₀.toList, S x) {i j lo : Nat} {st : SortSt} {Q : Option Bool → SortSt → Prop} (hI : SI κ a₀ lo st) (hi : i < a₀.size) (hj : j < a₀.size)
    (h : ∀ b, Q (some b) st) : wpS (model prog w) A E s (ltAt' i j) Q st := by
  have hz := hI.size
  have ha := hI.all h0
  rw [ltAt'_eq]
  exact wpS_bind (wpS_get (wpS_bind (wpS_elem (by (first | lia | omega)) (wpS_bind (wpS_elem (by (first | lia | omega)) (hL _ _ (ha _ _) (ha _ _) st Q hI.k h))))))
theorem wpS_revA {i j lo : Nat} {st : SortSt} {Q : Unit → SortSt → Prop} (hI : SI κ a₀ lo st) (h : ∀ st', SI κ a₀ lo st' → Q () st') : wpS (model prog w) A E s (reverseSlice' i j) Q st :=
  wpS_reverse (h _ (hI.set (mirror_perm _ _ _ _)))
theorem wpS_count (hL : LtOk prog w A E s κ S) (h0 : ∀ x ∈ a₀.toList, S x) {lo nrem : Nat} {st : SortSt} {Q : Option Nat → SortSt → Prop} (hI : SI κ a₀ lo st) (h1 : 1 ≤ nrem) (hn : lo + nrem ≤ a₀.size)
    (h : ∀ n st', 1 ≤ n → n ≤ nrem → SI κ a₀ lo st' → Q (some n) st') : wpS (model prog w) A E s (countRun' lo nrem) Q st := by
  have asc : ∀ (f : Nat → Option (Option Nat) × Nat → StateT SortSt Sem (ForInStep (Option (Option Nat) × Nat))), (∀ i n, f i (none, n) = ltAt' (lo + n) (lo + n - 1) >>= fun o => o.elim (pure (ForInStep.done (some none, n))) fun b => if b then pure (ForInStep.done (none, n)) else pure (ForInStep.yield (none, n + 1))) →
      ∀ (m : Nat) (st : SortSt) (Q' : Option (Option Nat) × Nat → SortSt → Prop), 1 ≤ m → m ≤ nrem → SI κ a₀ lo st → (∀ n st', m ≤ n → n ≤ nrem → SI κ a₀ lo st' → Q' (none, n) st') → wpS (model prog w) A E s (forIn [m:nrem] (none, m) f) Q' st := by
    intro f hf m st Q' hm1 hm2 hI hq
    refine wpS_mono (wpS_forRange (I := fun x c st' => SI κ a₀ lo st' ∧ c.1 = none ∧ c.2 = x) (Q := fun c st' => SI κ a₀ lo st' ∧ c.1 = none ∧ m ≤ c.2 ∧ c.2 ≤ nrem) ?_ ?_ ⟨hI, rfl, rfl⟩) ?_
    · rintro x ⟨c1, c2⟩ st' hx1 hx2 ⟨hI', e1, e2⟩
      dsimp only at e1 e2 ⊢
      subst c1 c2
      rw [hf]
      refine wpS_bind (wpS_ltA hL h0 hI' (by (first | lia | omega)) (by (first | lia | omega)) fun b => ?_)
      cases b with
      | true => exact wpS_pure ⟨hI', rfl, hx1, by dsimp only; (first | lia | omega)⟩
      | false => exact wpS_pure ⟨hI', rfl, rfl⟩
    · rintro ⟨c1, c2⟩ st' ⟨hI', e1, e2⟩
      dsimp only at e1 e2 ⊢
      exact ⟨hI', e1, by (first | lia | omega), by (first | lia | omega)⟩
    · rintro ⟨c1, c2⟩ st' ⟨hI', e1, e2, e3⟩
      dsimp only at e1 e2 e3
      subst c1
      exact hq _ _ e2 e3 hI'
  have des : ∀ (f : Nat → Option (Option Nat) × Nat × Nat → StateT SortSt Sem (ForInStep (Option (Option Nat) × Nat × Nat))), (∀ i n q, f i (none, n, q) = ltAt' (lo + n) (lo + n - 1) >>= fun o => o.elim (pure (ForInStep.done (some none, n, q))) fun b =>
        if b then (if q > 0 then reverseSlice' (lo + n - (q + 1)) (lo + n) >>= fun _ => pure (ForInStep.yield (none, n + 1, 0)) else pure (ForInStep.yield (none, n + 1, 0)))
        else ltAt' (lo + n - 1) (lo + n) >>= fun o => o.elim (pure (ForInStep.done (some none, n, q))) fun b => if b then pure (ForInStep.done (none, n, q)) else pure (ForInStep.yield (none, n + 1, q + 1))) →
      ∀ (m : Nat) (st : SortSt) (Q' : Option (Option Nat) × Nat × Nat → SortSt → Prop), 1 ≤ m → m ≤ nrem → SI κ a₀ lo st → (∀ n q st', m ≤ n → n ≤ nrem → SI κ a₀ lo st' → Q' (none, n, q) st') → wpS (model prog w) A E s (forIn [m:nrem] (none, m, 0) f) Q' st := by
    intro f hf m st Q' hm1 hm2 hI hq
    refine wpS_mono (wpS_forRange (I := fun x c st' => SI κ a₀ lo st' ∧ c.1 = none ∧ c.2.1 = x) (Q := fun c st' => SI κ a₀ lo st' ∧ c.1 = none ∧ m ≤ c.2.1 ∧ c.2.1 ≤ nrem) ?_ ?_ ⟨hI, rfl, rfl⟩) ?_
    · rintro x ⟨c1, c2, c3⟩ st' hx1 hx2 ⟨hI', e1, e2⟩
      dsimp only at e1 e2 ⊢
      subst c1 c2
      rw [hf]
      refine wpS_bind (wpS_ltA hL h0 hI' (by (first | lia | omega)) (by (first | lia | omega)) fun b => ?_)
      cases b with
      | true =>
        refine wpS_ite (fun _ => wpS_bind (wpS_revA hI' fun st2 hI2 => wpS_pure ?_)) (fun _ => wpS_pure ?_)
        · exact ⟨hI2, rfl, rfl⟩
        · exact ⟨hI', rfl, rfl⟩
      | false =>
        refine wpS_bind (wpS_ltA hL h0 hI' (by (first | lia | omega)) (by (first | lia | omega)) fun b => ?_)
        cases b with
        | true => exact wpS_pure ⟨hI', rfl, hx1, by dsimp only; (first | lia | omega)⟩
        | false => exact wpS_pure ⟨hI', rfl, rfl⟩
    · rintro ⟨c1, c2, c3⟩ st' ⟨hI', e1, e2⟩
      dsimp only at e1 e2 ⊢
      exact ⟨hI', e1, by (first | lia | omega), by (first | lia | omega)⟩
    · rintro ⟨c1, c2, c3⟩ st' ⟨hI', e1, e2, e3⟩
      dsimp only at e1 e2 e3
      subst c1
      exact hq _ _ _ e2 e3 hI'
  rw [countRun'_eq]
  refine wpS_bind (asc _ (fun _ _ => bind_congr fun o => by cases o <;> rfl) 1 st _ (Nat.le_refl _) h1 hI fun n st1 hn1 hn2 hI1 => ?_)
  dsimp only
  refine wpS_ite (fun _ => wpS_pure (h _ _ hn1 hn2 hI1)) (fun z => ?_)
  rw [beq_iff_eq] at z
  refine wpS_ite (fun _ => wpS_bind (wpS_ltA hL h0 hI1 (by (first | lia | omega)) (by (first | lia | omega)) fun b => ?_)) (fun _ => ?_)
  · cases b with
    | true => exact wpS_pure (h _ _ hn1 hn2 hI1)
    | false =>
      dsimp only
      rw [if_neg Bool.false_ne_true]
      refine wpS_bind (wpS_revA hI1 fun st2 hI2 => ?_)
      refine wpS_bind (wpS_lift (wpAny_rule ⟨rfl, ?_⟩))
      refine wpS_bind (des _ (fun _ _ q => bind_congr fun o => by cases o with | none => rfl | some b => cases b with | true => rfl | false => exact bind_congr fun o => by cases o <;> rfl) (n + 1) st2 _ (by (first | lia | omega)) (by (first | lia | omega)) hI2 fun n q st3 hn1 hn2 hI3 => ?_)
      dsimp only
      refine wpS_ite (fun _ => wpS_bind (wpS_revA hI3 fun st4 hI4 => ?_)) (fun _ => ?_)
      · exact wpS_bind (wpS_revA hI4 fun st5 hI5 => wpS_bind (asc _ (fun _ _ => bind_congr fun o => by cases o <;> rfl) n st5 _ (by (first | lia | omega)) hn2 hI5 fun n st6 hn3 hn4 hI6 => wpS_pure (h _ _ (by (first | lia | omega)) hn4 hI6)))
      · exact wpS_bind (wpS_revA hI3 fun st5 hI5 => wpS_bind (asc _ (fun _ _ => bind_congr fun o => by cases o <;> rfl) n st5 _ (by (first | lia | omega)) hn2 hI5 fun n st6 hn3 hn4 hI6 => wpS_pure (h _ _ (by (first | lia | omega)) hn4 hI6)))
  · refine wpS_bind (wpS_lift (wpAny_rule ⟨rfl, ?_⟩))
    refine wpS_bind (des _ (fun _ _ q => bind_congr fun o => by cases o with | none => rfl | some b => cases b with | true => rfl | false => exact bind_congr fun o => by cases o <;> rfl) (n + 1) st1 _ (by (first | lia | omega)) (by (first | lia | omega)) hI1 fun n q st3 hn1 hn2 hI3 => ?_)
    dsimp only
    refine wpS_ite (fun _ => wpS_bind (wpS_revA hI3 fun st4 hI4 => ?_)) (fun _ => ?_)
    · exact wpS_bind (wpS_revA hI4 fun st5 hI5 => wpS_bind (asc _ (fun _ _ => bind_congr fun o => by cases o <;> rfl) n st5 _ (by (first | lia | omega)) hn2 hI5 fun n st6 hn3 hn4 hI6 => wpS_pure (h _ _ (by (first | lia | omega)) hn4 hI6)))
    · exact wpS_bind (wpS_revA hI3 fun st5 hI5 => wpS_bind (asc _ (fun _ _ => bind_congr fun o => by cases o <;> rfl) n st5 _ (by (first | lia | omega)) hn2 hI5 fun n st6 hn3 hn4 hI6 => wpS_pure (h _ _ (by (first | lia | omega)) hn4 hI6)))
theorem wpS_binA (hL : LtOk prog w A E s κ S) (h0 : ∀ x ∈ a₀.toList, S x) {lo n ok : Nat} {st : SortSt} {Q : Bool → SortSt → Prop} (hI : SI κ a₀ lo st) (hn : lo + n ≤ a₀.size)
    (h : ∀ st', SI κ a₀ lo st' → Q true st') : wpS (model prog w) A E s (binarySort' lo n ok) Q st := by
  rw [binarySort'_eq]
  refine wpS_bind (wpS_mono (wpS_forRange (I := fun _ c st' => SI κ a₀ lo st' ∧ c.1 = none) (Q := fun c st' => SI κ a₀ lo st' ∧ c.1 = none) ?_ (fun _ _ z => z) ⟨hI, rfl⟩) ?_)
  · rintro x ⟨c1, c2⟩ st1 hx1 hx2 ⟨hI1, e1⟩
    dsimp only at e1 ⊢
    subst c1
    refine wpS_bind (wpS_mono (wpS_forRange (I := fun _ c st' => SI κ a₀ lo st' ∧ c.1 = none ∧ c.2.2 ≤ x) (Q := fun c st' => SI κ a₀ lo st' ∧ c.1 = none) ?_ (fun _ _ z => ⟨z.1, z.2.1⟩) ⟨hI1, rfl, Nat.le_refl _⟩) ?_)
    · rintro y ⟨d1, d2, d3⟩ st2 _ _ ⟨hI2, e2, e3⟩
      dsimp only at e2 e3 ⊢
      subst d1
      refine wpS_ite (fun _ => wpS_pure ⟨hI2, rfl⟩) (fun z => ?_)
      refine wpS_bind (wpS_ltA hL h0 hI2 (by (first | lia | omega)) (by (first | lia | omega)) fun b => ?_)
      cases b with
      | true => exact wpS_pure ⟨hI2, rfl, by dsimp only; (first | lia | omega)⟩
      | false => exact wpS_pure ⟨hI2, rfl, e3⟩
    · rintro ⟨d1, d2, d3⟩ st2 ⟨hI2, e2⟩
      dsimp only at e2 ⊢
      subst d1
      dsimp only
      rw [moveDown'_eq]
      exact wpS_bind (wpS_modify (wpS_pure ⟨hI2.set (bubble_perm _ _ _), rfl⟩))
  · rintro ⟨c1, c2⟩ st1 ⟨hI1, e1⟩
    dsimp only at e1 ⊢
    subst c1
    exact wpS_pure (h _ hI1)
theorem Seg.mod {f : Nat × Nat × Nat → Nat × Nat × Nat} (hf : ∀ x, (f x).1 = x.1 ∧ (f x).2.1 = x.2.1) : ∀ {l : List (Nat × Nat × Nat)} {i p q : Nat}, Seg l p q → Seg (l.modify i f) p q
  | [], i, p, q, h => by cases i <;> exact h
  | (a, b, c) :: l, 0, p, q, h => by
    obtain ⟨h1, h2⟩ := hf (a, b, c)
    rw [List.modify_zero_cons]
    generalize f (a, b, c) = y at h1 h2
    obtain ⟨y1, y2, y3⟩ := y
    dsimp only at h1 h2
    subst h1 h2
    exact h
  | (a, b, c) :: l, i + 1, p, q, h => by
    rw [List.modify_succ_cons]
    exact ⟨h.1, h.2.1, Seg.mod hf h.2.2⟩
theorem wpS_sortA (hL : LtOk prog w A E s κ S) (h0 : ∀ x ∈ a₀.toList, S x) {st : SortSt} {Q : Unit → SortSt → Prop} (hI : SI κ a₀ 0 st)
    (h : ∀ st', (arrOf st').toList.Perm a₀.toList → failedOf st' = none → Q () st') : wpS (model prog w) A E s sortRuns' Q st := by
  rw [sortRuns'_eq]
  refine wpS_bind (wpS_get ?_)
  dsimp only
  have hz := hI.size
  simp only [hz]
  refine wpS_bind (wpS_mono (wpS_forRange
    (I := fun x c st' => c.1 = none ∧ SI κ a₀ c.2 st' ∧ x ≤ c.2)
    (Q := fun c st' => c.1 = none ∧ SI κ a₀ a₀.size st') ?step ?fin ⟨rfl, hI, Nat.le_refl _⟩) ?post)
  case fin =>
    rintro ⟨c1, lo⟩ st' ⟨e, hI', hx⟩
    dsimp only at e hI' hx ⊢
    have := hI'.lo
    have : lo = a₀.size := by (first | lia | omega)
    subst this
    exact ⟨e, hI'⟩
  case step =>
    rintro x ⟨c1, lo⟩ st1 _ hx ⟨e, hI1, hl⟩
    dsimp only at e hI1 hl ⊢
    subst c1
    have hlo := hI1.lo
    refine wpS_ite (fun z => wpS_pure ⟨rfl, ?_⟩) (fun z => ?_)
    · have : lo = a₀.size := by (first | lia | omega)
      subst this
      exact hI1
    have push : ∀ (n : Nat) (st2 : SortSt), 1 ≤ n → lo + n ≤ a₀.size → SI κ a₀ lo st2 → SI κ a₀ (lo + n) (setPending st2 ((pendingOf st2).push (lo, n, 0))) := by
      intro n st2 h1 h2 hI2
      refine ⟨hI2.k, hI2.p, hI2.f, ?_, h2⟩
      show Seg ((pendingOf st2).push (lo, n, 0)).toList 0 (lo + n)
      rw [Array.toList_push]
      exact Seg.append.mpr ⟨lo, hI2.g, rfl, h1, rfl⟩
    refine wpS_bind (wpS_count hL h0 hI1 (by (first | lia | omega)) (by (first | lia | omega)) fun n st2 hn1 hn2 hI2 => ?_)
    dsimp only
    refine wpS_ite (fun z1 => ?_) (fun z1 => ?_)
    · refine wpS_bind (wpS_lift (wpAny_rule ⟨rfl, ?_⟩))
      have hN1 : 1 ≤ min (a₀.size - lo) (minRun' a₀.size a₀.size 0) := by (first | lia | omega)
      have hN2 : lo + min (a₀.size - lo) (minRun' a₀.size a₀.size 0) ≤ a₀.size := by (first | lia | omega)
      generalize min (a₀.size - lo) (minRun' a₀.size a₀.size 0) = N at hN1 hN2 ⊢
      refine wpS_bind (wpS_binA hL h0 hI2 hN2 fun st3 hI3 => ?_)
      rw [Bool.not_true, if_neg Bool.false_ne_true]
      refine wpS_bind (wpS_get ?_)
      rcases hb : (pendingOf st3).back? with _ | ⟨s1, n1, w1⟩
      · exact wpS_bind (wpS_modify (wpS_pure ⟨rfl, push N st3 hN1 hN2 hI3, by dsimp only; (first | lia | omega)⟩))
      · dsimp only
        refine wpS_bind (wpS_mono (wpS_forRange (I := fun _ c st' => SI κ a₀ lo st' ∧ c.1 = none) (Q := fun c st' => SI κ a₀ lo st' ∧ c.1 = none) ?_ (fun _ _ hh => hh) ⟨hI3, rfl⟩) ?_)
        · rintro y ⟨c1, c2⟩ st4 _ _ ⟨hI4, e⟩
          dsimp only at e ⊢
          subst c1
          refine wpS_bind (wpS_get ?_)
          by_cases z2 : (pendingOf st4).size > 1
          · rw [if_pos z2, Array.getElem?_eq_getElem (by (first | lia | omega))]
            obtain ⟨o1, o2, o3⟩ := (pendingOf st4)[(pendingOf st4).size - 2]
            dsimp only
            exact wpS_ite (fun _ => wpS_pure ⟨hI4, rfl⟩) (fun _ => wpS_bind (wpS_mergeAt hL h0 hI4 (by (first | lia | omega)) fun st5 hI5 _ => wpS_pure ⟨hI5, rfl⟩))
          · rw [if_neg z2]
            exact wpS_pure ⟨hI4, rfl⟩
        · rintro ⟨c1, c2⟩ st4 ⟨hI4, e⟩
          dsimp only at e ⊢
          subst c1
          dsimp only
          refine wpS_bind (wpS_modify (wpS_bind (wpS_modify (wpS_pure ⟨rfl, push N _ hN1 hN2 ?_, by dsimp only; (first | lia | omega)⟩))))
          refine ⟨hI4.k, hI4.p, hI4.f, ?_, hI4.lo⟩
          show Seg ((pendingOf st4).modify _ _).toList 0 lo
          rw [Array.toList_modify]
          refine Seg.mod ?_ hI4.g
          exact fun x => ⟨rfl, rfl⟩
    · have hN1 := hn1
      have hN2 : lo + n ≤ a₀.size := by (first | lia | omega)
      have hI3 := hI2
      generalize n = N at hN1 hN2 ⊢
      generalize st2 = st3 at hI3 ⊢
      refine wpS_bind (wpS_get ?_)
      rcases hb : (pendingOf st3).back? with _ | ⟨s1, n1, w1⟩
      · exact wpS_bind (wpS_modify (wpS_pure ⟨rfl, push N st3 hN1 hN2 hI3, by dsimp only; (first | lia | omega)⟩))
      · dsimp only
        refine wpS_bind (wpS_mono (wpS_forRange (I := fun _ c st' => SI κ a₀ lo st' ∧ c.1 = none) (Q := fun c st' => SI κ a₀ lo st' ∧ c.1 = none) ?_ (fun _ _ hh => hh) ⟨hI3, rfl⟩) ?_)
        · rintro y ⟨c1, c2⟩ st4 _ _ ⟨hI4, e⟩
          dsimp only at e ⊢
          subst c1
          refine wpS_bind (wpS_get ?_)
          by_cases z2 : (pendingOf st4).size > 1
          · rw [if_pos z2, Array.getElem?_eq_getElem (by (first | lia | omega))]
            obtain ⟨o1, o2, o3⟩ := (pendingOf st4)[(pendingOf st4).size - 2]
            dsimp only
            exact wpS_ite (fun _ => wpS_pure ⟨hI4, rfl⟩) (fun _ => wpS_bind (wpS_mergeAt hL h0 hI4 (by (first | lia | omega)) fun st5 hI5 _ => wpS_pure ⟨hI5, rfl⟩))
          · rw [if_neg z2]
            exact wpS_pure ⟨hI4, rfl⟩
        · rintro ⟨c1, c2⟩ st4 ⟨hI4, e⟩
          dsimp only at e ⊢
          subst c1
          dsimp only
          refine wpS_bind (wpS_modify (wpS_bind (wpS_modify (wpS_pure ⟨rfl, push N _ hN1 hN2 ?_, by dsimp only; (first | lia | omega)⟩))))
          refine ⟨hI4.k, hI4.p, hI4.f, ?_, hI4.lo⟩
          show Seg ((pendingOf st4).modify _ _).toList 0 lo
          rw [Array.toList_modify]
          refine Seg.mod ?_ hI4.g
          exact fun x => ⟨rfl, rfl⟩
  case post =>
    rintro ⟨c1, lo⟩ st1 ⟨e, hI1⟩
    dsimp only at e ⊢
    subst c1
    dsimp only
    refine wpS_bind (wpS_mono (wpS_forRange (I := fun _ c st' => SI κ a₀ a₀.size st' ∧ c.1 = none) (Q := fun c st' => SI κ a₀ a₀.size st' ∧ c.1 = none) ?_ (fun _ _ hh => hh) ⟨hI1, rfl⟩) ?_)
    · rintro x ⟨c1, c2⟩ st2 _ _ ⟨hI2, e⟩
      dsimp only at e ⊢
      subst c1
      refine wpS_bind (wpS_get (wpS_ite (fun _ => wpS_pure ⟨hI2, rfl⟩) (fun z => ?_)))
      refine wpS_bind (wpS_mergeAt hL h0 hI2 ?_ fun st3 hI3 _ => wpS_pure ⟨hI3, rfl⟩)
      have le : ∀ (c : Bool) (n : Nat), (if c = true then n - 1 else n) ≤ n := fun c n => by cases c <;> simp
      exact Nat.lt_of_le_of_lt (Nat.succ_le_succ (le _ _)) (by (first | lia | omega))
    · rintro ⟨c1, c2⟩ st2 ⟨hI2, e⟩
      dsimp only at e ⊢
      subst c1
      exact wpS_pure (h _ hI2.p hI2.f)
end
end SrtA
namespace SetT
open PySem PySem.SetTable
noncomputable def F : Nat → Nat → Nat
  | 0, x => x
  | n + 1, x => 5 * F n x + 1
theorem F_add (a : Nat) : ∀ (b x : Nat), F (b + a) x = F b (F a x)
  | 0, x => by rw [Nat.zero_add]; rfl
  | b + 1, x => by
    rw [Nat.add_right_comm]
    show 5 * F (b + a) x + 1 = 5 * F b (F a x) + 1
    rw [F_add a b x]
theorem F_pow : ∀ k : Nat, ∃ a b, ∀ x, F (2 ^ k) x = x + 2 ^ k * (1 + 2 * (b + 2 * a * x))
  | 0 => ⟨1, 0, fun x => by show 5 * x + 1 = _; (first | lia | omega)⟩
  | k + 1 => by
    obtain ⟨a, b, h⟩ := F_pow k
    refine ⟨a + 2 * a * a * 2 ^ k, b + a * 2 ^ k * (1 + 2 * b), fun x => ?_⟩
    have e : 2 ^ (k + 1) = 2 ^ k + 2 ^ k := by rw [Nat.pow_succ]; (first | lia | omega)
    rw [e, F_add, h, h]
    generalize 2 ^ k = N
    grind
theorem orbit : ∀ (k x y : Nat), ∃ n, n < 2 ^ k ∧ F n x % 2 ^ k = y % 2 ^ k
  | 0, x, y => ⟨0, Nat.one_pos, by rw [Nat.pow_zero, Nat.mod_one, Nat.mod_one]⟩
  | k + 1, x, y => by
    obtain ⟨n, hn, e⟩ := orbit k x y
    obtain ⟨a, b, h⟩ := F_pow k
    have e2 : 2 ^ (k + 1) = 2 ^ k * 2 := Nat.pow_succ 2 k
    have hp : 0 < 2 ^ k := Nat.pow_pos (by decide)
    by_cases z : F n x / 2 ^ k % 2 = y / 2 ^ k % 2
    · refine ⟨n, by (first | lia | omega), ?_⟩
      rw [e2, Nat.mod_mul, Nat.mod_mul, e, z]
    · refine ⟨2 ^ k + n, by (first | lia | omega), ?_⟩
      rw [F_add, h, e2, Nat.mod_mul, Nat.mod_mul, Nat.add_mul_mod_self_left, e, Nat.add_mul_div_left _ _ hp]
      congr 2
      (first | lia | omega)
noncomputable def lp (m : Nat) (q : Nat × Nat) : Nat × Nat := leap m q.1 q.2
noncomputable def lps (m : Nat) : Nat → Nat × Nat → Nat × Nat
  | 0, q => q
  | n + 1, q => lp m (lps m n q)
theorem lps_pert (m : Nat) (q : Nat × Nat) : ∀ n : Nat, (lps m n q).2 = q.2 / 32 ^ n
  | 0 => by rw [Nat.pow_zero, Nat.div_one]; rfl
  | n + 1 => by
    show (lps m n q).2 / 32 = _
    rw [lps_pert m q n, Nat.div_div_eq_div_mul, Nat.pow_succ]
theorem lps_zero {m : Nat} {i : Nat} (hi : i ≤ m) : ∀ n : Nat, lps m n (i, 0) = (F n i % (m + 1), 0)
  | 0 => by
    show (i, 0) = (i % (m + 1), 0)
    rw [Nat.mod_eq_of_lt (by (first | lia | omega))]
  | n + 1 => by
    show lp m (lps m n (i, 0)) = _
    rw [lps_zero hi n]
    show ((F n i % (m + 1) * 5 + 1 + 0 / 32) % (m + 1), 0 / 32) = ((5 * F n i + 1) % (m + 1), 0)
    rw [Nat.zero_div, Nat.add_zero, Nat.mul_comm, Nat.add_mod, Nat.mul_mod, Nat.mod_mod, ← Nat.mul_mod, ← Nat.add_mod]
theorem lps_add (m a : Nat) (q : Nat × Nat) : ∀ b : Nat, lps m (b + a) q = lps m b (lps m a q)
  | 0 => by rw [Nat.zero_add]; rfl
  | b + 1 => by
    rw [Nat.add_right_comm]
    show lp m (lps m (b + a) q) = lp m (lps m b (lps m a q))
    rw [lps_add m a q b]
theorem lps_all {m k : Nat} (hm : m + 1 = 2 ^ k) {q : Nat × Nat} (hq : q.2 < 2 ^ 64) {y : Nat} (hy : y ≤ m) : ∃ L, 13 ≤ L ∧ L ≤ m + 13 ∧ (lps m L q).1 = y := by
  have h0 : (lps m 13 q).2 = 0 := by
    rw [lps_pert]
    exact Nat.div_eq_of_lt (Nat.lt_trans hq (by decide))
  have h1 : (lps m 13 q).1 ≤ m := by
    show ((lps m 12 q).1 * 5 + 1 + (lps m 12 q).2 / 32) % (m + 1) ≤ m
    exact Nat.le_of_lt_succ (Nat.mod_lt _ (Nat.succ_pos m))
  obtain ⟨n, hn, e⟩ := orbit k (lps m 13 q).1 y
  refine ⟨n + 13, by (first | lia | omega), by (first | lia | omega), ?_⟩
  rw [lps_add]
  have e2 : lps m 13 q = ((lps m 13 q).1, 0) := Prod.ext rfl h0
  rw [e2, lps_zero h1]
  show F n _ % (m + 1) = y
  rw [hm, e]
  exact Nat.mod_eq_of_lt (by (first | lia | omega))
noncomputable def adv (m : Nat) (p : Probe) : Probe :=
  if p.more > 0 then { p with j := p.j + 1, more := p.more - 1 } else
  { p with j := (leap m p.i p.perturb).1, more := runEnd m (leap m p.i p.perturb).1 - (leap m p.i p.perturb).1, i := (leap m p.i p.perturb).1, perturb := (leap m p.i p.perturb).2 }
noncomputable def nth (m : Nat) : Nat → Probe → Probe
  | 0, p => p
  | n + 1, p => nth m n (adv m p)
theorem nth_add (m a : Nat) : ∀ (b : Nat) (p : Probe), nth m (b + a) p = nth m a (nth m b p)
  | 0, p => by rw [Nat.zero_add]; rfl
  | b + 1, p => by
    rw [Nat.add_right_comm]
    exact nth_add m a b (adv m p)
theorem run_le (m i : Nat) : runEnd m i - i ≤ 9 := by
  unfold runEnd
  split <;> (first | lia | omega)
theorem run_over (m : Nat) : ∀ (k : Nat) (p : Probe), p.more = k → nth m (k + 1) p = { p with j := (leap m p.i p.perturb).1, more := runEnd m (leap m p.i p.perturb).1 - (leap m p.i p.perturb).1, i := (leap m p.i p.perturb).1, perturb := (leap m p.i p.perturb).2 }
  | 0, p, h => by
    show adv m p = _
    unfold adv
    rw [if_neg (by (first | lia | omega))]
  | k + 1, p, h => by
    show nth m (k + 1) (adv m p) = _
    have e : adv m p = { p with j := p.j + 1, more := p.more - 1 } := by
      unfold adv
      rw [if_pos (by (first | lia | omega))]
    rw [e, run_over m k _ (by show p.more - 1 = k; (first | lia | omega))]
theorem leaps (m : Nat) (p : Probe) (h : p.more ≤ 9) : ∀ L : Nat, 1 ≤ L → ∃ n, n ≤ 10 * L ∧ (nth m n p).j = (nth m n p).i ∧ (nth m n p).more ≤ 9 ∧ ((nth m n p).i, (nth m n p).perturb) = lps m L (p.i, p.perturb)
  | 0, h => absurd h (by decide)
  | L + 1, _ => by
    by_cases z : L = 0
    · subst z
      refine ⟨p.more + 1, by (first | lia | omega), ?_⟩
      rw [run_over m p.more p rfl]
      exact ⟨rfl, run_le m _, rfl⟩
    · obtain ⟨n, h1, h2, h3, h4⟩ := leaps m p h L (by (first | lia | omega))
      refine ⟨n + ((nth m n p).more + 1), by (first | lia | omega), ?_⟩
      rw [nth_add, run_over m _ _ rfl]
      refine ⟨rfl, run_le m _, ?_⟩
      show (leap m (nth m n p).i (nth m n p).perturb) = lp m (lps m L (p.i, p.perturb))
      rw [← h4]
      rfl
theorem meets {m k : Nat} (hm : m + 1 = 2 ^ k) {p : Probe} (h9 : p.more ≤ 9) (hp : p.perturb < 2 ^ 64) {y : Nat} (hy : y ≤ m) : ∃ n, n ≤ 10 * (m + 13) ∧ (nth m n p).j = y := by
  obtain ⟨L, l1, l2, e⟩ := lps_all (q := (p.i, p.perturb)) hm hp hy
  obtain ⟨n, h1, h2, h3, h4⟩ := leaps m p h9 L (by (first | lia | omega))
  refine ⟨n, by (first | lia | omega), ?_⟩
  rw [h2, ← e, ← h4]
end SetT
namespace SetT
open PySem PySem.SetTable
noncomputable def Ups (xs : Array Nat) : Prop := ∀ i j, (hi : i < xs.size) → (hj : j < xs.size) → i < j → xs[i] < xs[j]
theorem below_go {xs : Array Nat} (h : Ups xs) (j : Nat) : ∀ (fuel lo hi : Nat), hi - lo ≤ fuel → lo ≤ hi → hi ≤ xs.size → (∀ i, (z : i < xs.size) → i < lo → xs[i] < j) → (∀ i, (z : i < xs.size) → hi ≤ i → j ≤ xs[i]) →
    below.go xs j fuel lo hi ≤ xs.size ∧ (∀ i, (z : i < xs.size) → i < below.go xs j fuel lo hi → xs[i] < j) ∧ (∀ i, (z : i < xs.size) → below.go xs j fuel lo hi ≤ i → j ≤ xs[i])
  | 0, lo, hi, h1, h2, h3, h4, h5 => by
    have e : lo = hi := by (first | lia | omega)
    subst e
    exact ⟨h3, h4, h5⟩
  | fuel + 1, lo, hi, h1, h2, h3, h4, h5 => by
    unfold below.go
    by_cases z : lo < hi
    · rw [if_pos z]
      dsimp only
      have hm : (lo + hi) / 2 < xs.size := by (first | lia | omega)
      have eg : xs.getD ((lo + hi) / 2) j = xs[(lo + hi) / 2] := by simp [Array.getD, hm]
      rw [eg]
      by_cases z2 : xs[(lo + hi) / 2] < j
      · rw [if_pos z2]
        refine below_go h j fuel _ _ (by (first | lia | omega)) (by (first | lia | omega)) h3 (fun i zi hi' => ?_) h5
        by_cases z3 : i = (lo + hi) / 2
        · subst z3; exact z2
        · have := h i ((lo + hi) / 2) zi hm (by (first | lia | omega)); (first | lia | omega)
      · rw [if_neg z2]
        refine below_go h j fuel _ _ (by (first | lia | omega)) (by (first | lia | omega)) (by (first | lia | omega)) h4 (fun i zi hi' => ?_)
        by_cases z3 : i = (lo + hi) / 2
        · subst z3; (first | lia | omega)
        · have := h ((lo + hi) / 2) i hm zi (by (first | lia | omega)); (first | lia | omega)
    · rw [if_neg z]
      have e : lo = hi := by (first | lia | omega)
      subst e
      exact ⟨h3, h4, h5⟩
theorem below_le {xs : Array Nat} (h : Ups xs) (j : Nat) : below xs j ≤ xs.size := (below_go h j xs.size 0 xs.size (by (first | lia | omega)) (by (first | lia | omega)) (Nat.le_refl _) (fun _ _ z => absurd z (by (first | lia | omega))) (fun _ _ z => absurd z (by (first | lia | omega)))).1
theorem below_lt {xs : Array Nat} (h : Ups xs) (j : Nat) {i : Nat} (hi : i < xs.size) (z : i < below xs j) : xs[i] < j := (below_go h j xs.size 0 xs.size (by (first | lia | omega)) (by (first | lia | omega)) (Nat.le_refl _) (fun _ _ z => absurd z (by (first | lia | omega))) (fun _ _ z => absurd z (by (first | lia | omega)))).2.1 i hi z
theorem below_ge {xs : Array Nat} (h : Ups xs) (j : Nat) {i : Nat} (hi : i < xs.size) (z : below xs j ≤ i) : j ≤ xs[i] := (below_go h j xs.size 0 xs.size (by (first | lia | omega)) (by (first | lia | omega)) (Nat.le_refl _) (fun _ _ z => absurd z (by (first | lia | omega))) (fun _ _ z => absurd z (by (first | lia | omega)))).2.2 i hi z
theorem below_at {xs : Array Nat} (h : Ups xs) {i : Nat} (hi : i < xs.size) : below xs xs[i] = i := by
  rcases Nat.lt_trichotomy (below xs xs[i]) i with z | z | z
  · have hb : below xs xs[i] < xs.size := by (first | lia | omega)
    have h1 := below_ge h xs[i] hb (Nat.le_refl _)
    have h2 := h _ _ hb hi z
    (first | lia | omega)
  · exact z
  · have := below_lt h xs[i] hi z; (first | lia | omega)
theorem slot_live {t : SetTable} {j i : Nat} (h : t.slot j = .live i) : ∃ hi : i < t.place.size, t.place[i] = j := by
  unfold slot at h
  dsimp only at h
  by_cases z : (t.place[below t.place j]? == some j) = true
  · rw [if_pos z] at h
    injection h with h
    subst h
    rw [beq_iff_eq] at z
    obtain ⟨hi, e⟩ := Array.getElem?_eq_some_iff.mp z
    exact ⟨hi, e⟩
  · rw [if_neg z] at h
    split at h <;> cases h
theorem slot_at {t : SetTable} (u : Ups t.place) {i : Nat} (hi : i < t.place.size) : t.slot t.place[i] = .live i := by
  unfold slot
  dsimp only
  rw [below_at u hi, Array.getElem?_eq_getElem hi, if_pos (by simp)]
theorem slot_free {t : SetTable} (d : t.dummies = #[]) {j : Nat} (h : j ∉ t.place) : t.slot j = .empty := by
  unfold slot
  dsimp only
  have z : ¬ (t.place[below t.place j]? == some j) = true := fun z => by
    rw [beq_iff_eq] at z
    exact h (Array.mem_of_getElem? z)
  rw [if_neg z, d]
  rfl
theorem slot_cases {t : SetTable} (d : t.dummies = #[]) (u : Ups t.place) (j : Nat) : (t.slot j = .empty ∧ j ∉ t.place) ∨ ∃ i, ∃ hi : i < t.place.size, t.slot j = .live i ∧ t.place[i] = j := by
  by_cases z : j ∈ t.place
  · obtain ⟨i, hi, e⟩ := Array.getElem_of_mem z
    exact .inr ⟨i, hi, by rw [← e]; exact slot_at u hi, e⟩
  · exact .inl ⟨slot_free d z, z⟩
noncomputable def st0 (m : Nat) (h : Int) : Probe := { j := bits h % (m + 1), more := runEnd m (bits h % (m + 1)) - bits h % (m + 1), i := bits h % (m + 1), perturb := bits h, dummy := none }
structure Pr (p : Probe) : Prop where
  more : p.more ≤ 9
  pert : p.perturb < 2 ^ 64
  d : p.dummy = none
theorem bits_lt (h : Int) : bits h < 2 ^ 64 := by unfold bits; (first | lia | omega)
theorem Pr.st0 (m : Nat) (h : Int) : Pr (st0 m h) := ⟨run_le m _, bits_lt h, rfl⟩
theorem Pr.adv {m : Nat} {p : Probe} (h : Pr p) : Pr (adv m p) := by
  unfold SetT.adv
  by_cases z : p.more > 0
  · rw [if_pos z]
    exact ⟨by show p.more - 1 ≤ 9; have := h.more; (first | lia | omega), h.pert, h.d⟩
  · rw [if_neg z]
    exact ⟨run_le m _, Nat.lt_of_le_of_lt (Nat.div_le_self _ _) h.pert, h.d⟩
theorem Pr.nth {m : Nat} : ∀ {n : Nat} {p : Probe}, Pr p → Pr (nth m n p)
  | 0, _, h => h
  | n + 1, p, h => by
    show Pr (SetT.nth m n (SetT.adv m p))
    exact Pr.nth h.adv
theorem probe_go {t : SetTable} (d : t.dummies = #[]) (u : Ups t.place) (hashAt : Nat → Int) (h : Int) : ∀ (n0 fuel : Nat) (p : Probe), Pr p → n0 < fuel → t.slot (nth t.mask n0 p).j = .empty →
    ∃ n, n ≤ n0 ∧ (∀ k, k < n → ∃ i, t.slot (nth t.mask k p).j = .live i ∧ hashAt i ≠ h) ∧
      ((probe.go t hashAt h fuel p = some (.empty (nth t.mask n p).j none) ∧ t.slot (nth t.mask n p).j = .empty) ∨
       ∃ i, n < n0 ∧ probe.go t hashAt h fuel p = some (.candidate (nth t.mask n p).j i (nth t.mask (n + 1) p)) ∧ t.slot (nth t.mask n p).j = .live i ∧ hashAt i = h)
  | n0, 0, p, _, hf, _ => absurd hf (Nat.not_lt_zero _)
  | n0, fuel + 1, p, hp, hf, he => by
    rcases slot_cases d u p.j with ⟨hs, _⟩ | ⟨i, hi, hs, _⟩
    · refine ⟨0, Nat.zero_le _, fun k hk => absurd hk (Nat.not_lt_zero _), .inl ⟨?_, hs⟩⟩
      unfold probe.go
      rw [hs]
      dsimp only
      rw [hp.d]
      rfl
    · have h0 : n0 ≠ 0 := fun z => by
        subst z
        rw [show t.slot (nth t.mask 0 p).j = .live i from hs] at he
        cases he
      obtain ⟨n1, rfl⟩ : ∃ n1, n0 = n1 + 1 := ⟨n0 - 1, by (first | lia | omega)⟩
      by_cases z : (hashAt i == h) = true
      · refine ⟨0, Nat.zero_le _, fun k hk => absurd hk (Nat.not_lt_zero _), .inr ⟨i, by (first | lia | omega), ?_, hs, eq_of_beq z⟩⟩
        unfold probe.go
        rw [hs]
        dsimp only
        rw [if_pos z]
        rfl
      · obtain ⟨n, g1, g2, g3⟩ := probe_go d u hashAt h n1 fuel (adv t.mask p) hp.adv (by (first | lia | omega)) he
        have e : probe.go t hashAt h (fuel + 1) p = probe.go t hashAt h fuel (adv t.mask p) := by
          rw [probe.go]
          rw [hs]
          dsimp only
          rw [if_neg z]
          rfl
        refine ⟨n + 1, by (first | lia | omega), fun k hk => ?_, ?_⟩
        · cases k with
          | zero => exact ⟨i, hs, fun zz => z (by rw [zz]; exact beq_self_eq_true h)⟩
          | succ k => exact g2 k (by (first | lia | omega))
        · rw [e]
          rcases g3 with ⟨a1, a2⟩ | ⟨i', a0, a1, a2, a3⟩
          · exact .inl ⟨a1, a2⟩
          · exact .inr ⟨i', by (first | lia | omega), a1, a2, a3⟩
noncomputable def Mask (m : Nat) : Prop := m = 7 ∨ m = 31 ∨ m = 127 ∨ m = 511 ∨ m = 2047 ∨ m = 8191
theorem Mask.pow {m : Nat} (h : Mask m) : ∃ k, m + 1 = 2 ^ k := by
  rcases h with rfl | rfl | rfl | rfl | rfl | rfl
  · exact ⟨3, rfl⟩
  · exact ⟨5, rfl⟩
  · exact ⟨7, rfl⟩
  · exact ⟨9, rfl⟩
  · exact ⟨11, rfl⟩
  · exact ⟨13, rfl⟩
noncomputable def Rch (m : Nat) (pl : List Nat) (h : Int) (j : Nat) : Prop := ∃ n, (nth m n (st0 m h)).j = j ∧ ∀ k, k < n → (nth m k (st0 m h)).j ∈ pl
theorem Rch.mono {m : Nat} {pl pl' : List Nat} {h : Int} {j : Nat} (r : Rch m pl h j) (s : ∀ x ∈ pl, x ∈ pl') : Rch m pl' h j :=
  let ⟨n, e, g⟩ := r
  ⟨n, e, fun k hk => s _ (g k hk)⟩
structure Tb (t : SetTable) (hs : List Int) : Prop where
  m : Mask t.mask
  d : t.dummies = #[]
  sz : t.place.size = hs.length
  le : hs.length ≤ t.mask
  u : Ups t.place
  r : ∀ q ∈ hs.zip t.place.toList, Rch t.mask t.place.toList q.1 q.2
  b : ∀ j ∈ t.place.toList, j ≤ t.mask
theorem nd_len {α : Type} [DecidableEq α] : ∀ {a b : List α}, a.Nodup → (∀ x ∈ a, x ∈ b) → a.length ≤ b.length
  | [], _, _, _ => Nat.zero_le _
  | x :: a, b, h, hs => by
    have hx := hs x List.mem_cons_self
    have hn := List.nodup_cons.mp h
    have := nd_len (a := a) (b := b.erase x) hn.2 fun y hy => (List.mem_erase_of_ne (fun e => hn.1 (by rw [← e]; exact hy))).mpr (hs y (List.mem_cons_of_mem _ hy))
    rw [List.length_erase_of_mem hx] at this
    have h0 : 0 < b.length := List.length_pos_of_mem hx
    rw [List.length_cons]
    (first | lia | omega)
theorem nd_perm {α : Type} [DecidableEq α] : ∀ {a b : List α}, a.Nodup → (∀ x ∈ a, x ∈ b) → b.length ≤ a.length → b.Perm a
  | [], b, _, _, hl => by
    have : b = [] := List.eq_nil_of_length_eq_zero (by simpa using hl)
    rw [this]
  | x :: a, b, h, hs, hl => by
    have hx := hs x List.mem_cons_self
    have hn := List.nodup_cons.mp h
    have h0 : 0 < b.length := List.length_pos_of_mem hx
    refine (List.perm_cons_erase hx).trans ((nd_perm hn.2 (fun y hy => (List.mem_erase_of_ne (fun e => hn.1 (by rw [← e]; exact hy))).mpr (hs y (List.mem_cons_of_mem _ hy))) ?_).cons x)
    rw [List.length_erase_of_mem hx]
    rw [List.length_cons] at hl
    (first | lia | omega)
theorem missing (m : Nat) (l : List Nat) (hl : l.length ≤ m) : ∃ j, j ≤ m ∧ j ∉ l := by
  apply Classical.byContradiction
  intro hc
  have hall : ∀ j, j ≤ m → j ∈ l := fun j hj => Classical.byContradiction fun z => hc ⟨j, hj, z⟩
  have := nd_len (a := List.range (m + 1)) (b := l) List.nodup_range (fun x hx => hall x (by have := List.mem_range.mp hx; (first | lia | omega)))
  rw [List.length_range] at this
  (first | lia | omega)
theorem Tb.free {t : SetTable} {hs : List Int} (h : Tb t hs) {p : Probe} (hp : Pr p) : ∃ n, n ≤ 10 * (t.mask + 13) ∧ t.slot (nth t.mask n p).j = .empty := by
  obtain ⟨j, hj, hn⟩ := missing t.mask t.place.toList (by rw [Array.length_toList, h.sz]; exact h.le)
  obtain ⟨k, hk⟩ := h.m.pow
  obtain ⟨n, h1, e⟩ := meets hk hp.more hp.pert hj
  refine ⟨n, h1, ?_⟩
  rw [e]
  exact slot_free h.d (fun z => hn (Array.mem_toList_iff.mpr z))
theorem insertAt_list {α : Type} {xs : Array α} {p : Nat} {x : α} : (insertAt xs p x).toList = xs.toList.take p ++ x :: xs.toList.drop p := by
  unfold insertAt
  have a1 : (xs.extract 0 p).toList = xs.toList.take p := by simp
  have a2 : (xs.extract p xs.size).toList = xs.toList.drop p := by
    rw [Array.toList_extract, List.extract_eq_take_drop]
    exact List.take_of_length_le (by rw [List.length_drop, Array.length_toList]; exact Nat.le_refl _)
  rw [Array.toList_append, Array.toList_push, a1, a2, List.append_assoc]
  rfl
theorem insertAt_size {α : Type} {xs : Array α} {p : Nat} {x : α} (h : p ≤ xs.size) : (insertAt xs p x).size = xs.size + 1 := by
  rw [← Array.length_toList, insertAt_list, List.length_append, List.length_cons, List.length_take, List.length_drop, Array.length_toList]
  (first | lia | omega)
theorem Ups.iff {xs : Array Nat} : Ups xs ↔ xs.toList.Pairwise (· < ·) := by
  rw [List.pairwise_iff_getElem]
  constructor
  · intro h i j hi hj z
    rw [Array.getElem_toList, Array.getElem_toList]
    exact h i j (by rwa [Array.length_toList] at hi) (by rwa [Array.length_toList] at hj) z
  · intro h i j hi hj z
    have := h i j (by rwa [Array.length_toList]) (by rwa [Array.length_toList]) z
    rwa [Array.getElem_toList, Array.getElem_toList] at this
theorem Ups.insert {xs : Array Nat} (u : Ups xs) {j : Nat} (h : j ∉ xs) : Ups (insertAt xs (below xs j) j) := by
  rw [Ups.iff, insertAt_list, List.pairwise_append, List.pairwise_cons]
  have hp := Ups.iff.mp u
  have lo : ∀ x ∈ xs.toList.take (below xs j), x < j := fun x hx => by
    obtain ⟨i, hi, e⟩ := List.getElem_of_mem hx
    rw [List.length_take, Array.length_toList] at hi
    rw [List.getElem_take, Array.getElem_toList] at e
    rw [← e]
    exact below_lt u j _ (by (first | lia | omega))
  have up : ∀ x ∈ xs.toList.drop (below xs j), j < x := fun x hx => by
    have hm : x ∈ xs := Array.mem_toList_iff.mp (List.mem_of_mem_drop hx)
    obtain ⟨i, hi, e⟩ := List.getElem_of_mem hx
    rw [List.length_drop, Array.length_toList] at hi
    rw [List.getElem_drop, Array.getElem_toList] at e
    have := below_ge u j (i := below xs j + i) (by (first | lia | omega)) (by (first | lia | omega))
    rw [e] at this
    rcases Nat.lt_or_eq_of_le this with z | z
    · exact z
    · exact absurd (z ▸ hm) h
  exact ⟨hp.sublist (List.take_sublist _ _), ⟨up, hp.sublist (List.drop_sublist _ _)⟩, fun a ha b hb => by
    rcases List.mem_cons.mp hb with rfl | hb
    · exact lo a ha
    · exact Nat.lt_trans (lo a ha) (up b hb)⟩
theorem put_eq {t : SetTable} (d : t.dummies = #[]) (j : Nat) : t.put j = ({ t with place := insertAt t.place (below t.place j) j }, below t.place j) := by
  unfold put
  dsimp only
  have e : has t.dummies j = false := by rw [d]; rfl
  rw [e, if_neg Bool.false_ne_true]
theorem mem_ins {α : Type} {l : List α} {p : Nat} {x y : α} : y ∈ l.take p ++ x :: l.drop p ↔ y = x ∨ y ∈ l := by
  rw [List.mem_append, List.mem_cons]
  conv => rhs; rw [← List.take_append_drop p l, List.mem_append]
  grind
theorem Tb.put {t : SetTable} {hs : List Int} (h : Tb t hs) (hm : hs.length + 1 ≤ t.mask) {hv : Int} {n : Nat} (he : t.slot (nth t.mask n (st0 t.mask hv)).j = .empty) (hk : ∀ k, k < n → t.slot (nth t.mask k (st0 t.mask hv)).j ≠ .empty) (hj : (nth t.mask n (st0 t.mask hv)).j ≤ t.mask) :
    Tb { t with place := insertAt t.place (below t.place (nth t.mask n (st0 t.mask hv)).j) (nth t.mask n (st0 t.mask hv)).j } (hs.take (below t.place (nth t.mask n (st0 t.mask hv)).j) ++ hv :: hs.drop (below t.place (nth t.mask n (st0 t.mask hv)).j)) := by
  have hn : (nth t.mask n (st0 t.mask hv)).j ∉ t.place := fun z => by
    obtain ⟨i, hi, e⟩ := Array.getElem_of_mem z
    rw [← e, slot_at h.u hi] at he
    cases he
  have hbef : ∀ k, k < n → (nth t.mask k (st0 t.mask hv)).j ∈ t.place.toList := fun k z => by
    rcases slot_cases h.d h.u (nth t.mask k (st0 t.mask hv)).j with ⟨e, _⟩ | ⟨i, hi, _, e⟩
    · exact absurd e (hk k z)
    · rw [← e]; exact Array.getElem_mem_toList hi
  generalize e0 : (nth t.mask n (st0 t.mask hv)).j = j at hn hj ⊢
  have hb := below_le h.u j
  generalize hp : below t.place j = p at hb ⊢
  have hsz := h.sz
  have hl : t.place.toList.length = hs.length := by rw [Array.length_toList, hsz]
  have sub : ∀ x ∈ t.place.toList, x ∈ (insertAt t.place p j).toList := fun x hx => by
    rw [insertAt_list]; exact mem_ins.mpr (.inr hx)
  refine ⟨h.m, h.d, ?_, ?_, ?_, ?_, ?_⟩
  · show (insertAt t.place p j).size = _
    rw [insertAt_size hb, List.length_append, List.length_cons, List.length_take, List.length_drop]
    (first | lia | omega)
  · show _ ≤ t.mask
    rw [List.length_append, List.length_cons, List.length_take, List.length_drop]
    (first | lia | omega)
  · show Ups (insertAt t.place p j)
    rw [← hp]
    exact h.u.insert hn
  · show ∀ q ∈ (hs.take p ++ hv :: hs.drop p).zip (insertAt t.place p j).toList, Rch t.mask (insertAt t.place p j).toList q.1 q.2
    intro q hq
    have hq' := hq
    rw [insertAt_list, List.zip_append (by rw [List.length_take, List.length_take, hl]), List.zip_cons_cons, List.mem_append, List.mem_cons] at hq'
    have old : q ∈ hs.zip t.place.toList → Rch t.mask (insertAt t.place p j).toList q.1 q.2 := fun z => (h.r q z).mono sub
    have z : hs.zip t.place.toList = (hs.take p).zip (t.place.toList.take p) ++ (hs.drop p).zip (t.place.toList.drop p) := by
      rw [← List.zip_append (by rw [List.length_take, List.length_take, hl]), List.take_append_drop, List.take_append_drop]
    rcases hq' with hq' | rfl | hq'
    · exact old (by rw [z]; exact List.mem_append_left _ hq')
    · exact ⟨n, e0, fun k z => sub _ (hbef k z)⟩
    · exact old (by rw [z]; exact List.mem_append_right _ hq')
  · show ∀ x ∈ (insertAt t.place p j).toList, x ≤ t.mask
    intro x hx
    rw [insertAt_list] at hx
    rcases mem_ins.mp hx with rfl | hx
    · exact hj
    · exact h.b x hx
theorem run_in {m i : Nat} (h : i ≤ m) : i + (runEnd m i - i) ≤ m := by
  unfold runEnd
  split <;> (first | lia | omega)
theorem adv_in {m : Nat} {p : Probe} (h : p.j + p.more ≤ m) : (adv m p).j + (adv m p).more ≤ m := by
  unfold adv
  by_cases z : p.more > 0
  · rw [if_pos z]
    show p.j + 1 + (p.more - 1) ≤ m
    (first | lia | omega)
  · rw [if_neg z]
    exact run_in (Nat.le_of_lt_succ (Nat.mod_lt _ (Nat.succ_pos m)))
theorem nth_in {m : Nat} : ∀ {n : Nat} {p : Probe}, p.j + p.more ≤ m → (nth m n p).j + (nth m n p).more ≤ m
  | 0, _, h => h
  | n + 1, p, h => by
    show (nth m n (adv m p)).j + (nth m n (adv m p)).more ≤ m
    exact nth_in (adv_in h)
theorem at_in (m n : Nat) (h : Int) : (nth m n (st0 m h)).j ≤ m := by
  have h0 : (st0 m h).j + (st0 m h).more ≤ m := run_in (Nat.le_of_lt_succ (Nat.mod_lt _ (Nat.succ_pos m)))
  have := nth_in (n := n) h0
  (first | lia | omega)
theorem Tb.met {t : SetTable} {hs : List Int} (h : Tb t hs) {i : Nat} (hi : i < hs.length) {n : Nat} (he : t.slot (nth t.mask n (st0 t.mask hs[i])).j = .empty) : ∃ k, k < n ∧ t.slot (nth t.mask k (st0 t.mask hs[i])).j = .live i := by
  have hp : i < t.place.size := by rw [h.sz]; exact hi
  have hz : (hs[i], t.place[i]) ∈ hs.zip t.place.toList := by
    rw [List.mem_iff_getElem]
    refine ⟨i, by rw [List.length_zip, Array.length_toList]; exact Nat.lt_min.mpr ⟨hi, hp⟩, ?_⟩
    rw [List.getElem_zip]
    rfl
  obtain ⟨k, e, g⟩ := h.r _ hz
  dsimp only at e g
  refine ⟨k, ?_, by rw [e]; exact slot_at h.u hp⟩
  apply Classical.byContradiction
  intro z
  rcases Nat.lt_or_eq_of_le (Nat.le_of_not_lt z) with z | z
  · have hm := g n z
    obtain ⟨i', hi', e'⟩ := Array.getElem_of_mem (Array.mem_toList_iff.mp hm)
    rw [← e', slot_at h.u hi'] at he
    cases he
  · subst z
    rw [e, slot_at h.u hp] at he
    cases he
end SetT
namespace SetT
open PySem PySem.SetTable
theorem nth_run (m : Nat) : ∀ (k : Nat) (p : Probe), k ≤ p.more → nth m k p = { p with j := p.j + k, more := p.more - k }
  | 0, p, _ => rfl
  | k + 1, p, h => by
    have e : adv m p = { p with j := p.j + 1, more := p.more - 1 } := by
      unfold adv
      rw [if_pos (by (first | lia | omega))]
    show nth m k (adv m p) = _
    rw [e, nth_run m k _ (by show k ≤ p.more - 1; (first | lia | omega))]
    show ({ j := p.j + 1 + k, more := p.more - 1 - k, i := p.i, perturb := p.perturb, dummy := p.dummy } : Probe) = { j := p.j + (k + 1), more := p.more - (k + 1), i := p.i, perturb := p.perturb, dummy := p.dummy }
    congr 1 <;> (first | lia | omega)
noncomputable def rs (m i pert : Nat) : Probe := { j := i, more := runEnd m i - i, i := i, perturb := pert, dummy := none }
theorem rs_over (m i pert : Nat) : nth m (runEnd m i - i + 1) (rs m i pert) = rs m (leap m i pert).1 (leap m i pert).2 := run_over m _ (rs m i pert) rfl
noncomputable def Tk (owner : Array (Option Nat)) (j : Nat) : Prop := ∃ i, owner[j]? = some (some i)
theorem getD_none {owner : Array (Option Nat)} {j : Nat} (hj : j < owner.size) : (owner.getD j (some 0)).isNone = true ↔ owner[j]? = some none := by
  rw [Array.getElem?_eq_getElem hj]
  simp [Array.getD, hj]
theorem tk_of {owner : Array (Option Nat)} {j : Nat} (hj : j < owner.size) (h : ¬ owner[j]? = some none) : Tk owner j := by
  unfold Tk
  rw [Array.getElem?_eq_getElem hj] at h ⊢
  cases e : owner[j] with
  | none => rw [e] at h; exact absurd rfl h
  | some i => exact ⟨i, rfl⟩
theorem free_go {m : Nat} {owner : Array (Option Nat)} (hsz : owner.size = m + 1) : ∀ (L fuel i pert : Nat), L < fuel → i ≤ m → owner[(lps m L (i, pert)).1]? = some none →
    ∃ n j, layClean.free m owner fuel i pert = some j ∧ (nth m n (rs m i pert)).j = j ∧ owner[j]? = some none ∧ ∀ k, k < n → Tk owner (nth m k (rs m i pert)).j
  | L, 0, _, _, h, _, _ => absurd h (Nat.not_lt_zero _)
  | L, fuel + 1, i, pert, h, hi, hL => by
    unfold layClean.free
    have hin : i + (runEnd m i - i) ≤ m := run_in hi
    have hre : i ≤ runEnd m i := by unfold runEnd; split <;> (first | lia | omega)
    cases e : (List.range (runEnd m i + 1 - i)).find? (fun k => (owner.getD (i + k) (some 0)).isNone) with
    | some k =>
      dsimp only
      rw [List.find?_eq_some_iff_append] at e
      obtain ⟨hk, as, bs, el, hb⟩ := e
      have hlen : k < runEnd m i + 1 - i ∧ as = List.range k := by
        have h1 : k = as.length := by
          have := congrArg (fun l => l[as.length]?) el
          simp only [List.getElem?_append_right (Nat.le_refl _), Nat.sub_self, List.getElem?_cons_zero] at this
          rw [List.getElem?_range (by have := congrArg List.length el; rw [List.length_range, List.length_append, List.length_cons] at this; (first | lia | omega))] at this
          exact (Option.some.inj this).symm
        have h2 := congrArg List.length el
        rw [List.length_range, List.length_append, List.length_cons] at h2
        refine ⟨by (first | lia | omega), ?_⟩
        have h3 := congrArg (List.take as.length) el
        rw [List.take_left] at h3
        rw [← h3, List.take_range]
        congr 1
        (first | lia | omega)
      obtain ⟨hk2, eas⟩ := hlen
      refine ⟨k, i + k, rfl, ?_, (getD_none (by (first | lia | omega))).mp hk, fun k' hk' => ?_⟩
      · rw [nth_run m k _ (by show k ≤ runEnd m i - i; (first | lia | omega))]
        rfl
      · rw [nth_run m k' _ (by show k' ≤ runEnd m i - i; (first | lia | omega))]
        show Tk owner (i + k')
        have := hb k' (by rw [eas]; exact List.mem_range.mpr hk')
        exact tk_of (by (first | lia | omega)) fun z => by
          rw [(getD_none (by (first | lia | omega))).mpr z] at this
          exact absurd this (by decide)
    | none =>
      dsimp only
      have hall : ∀ k, k < runEnd m i + 1 - i → Tk owner (i + k) := fun k hk => tk_of (by (first | lia | omega)) fun z => by
        have := List.find?_eq_none.mp e k (List.mem_range.mpr hk)
        exact this ((getD_none (by (first | lia | omega))).mpr z)
      have h0 : L ≠ 0 := fun z => by
        subst z
        obtain ⟨i', e'⟩ := hall 0 (by (first | lia | omega))
        rw [Nat.add_zero] at e'
        have hL' : owner[i]? = some none := hL
        rw [hL'] at e'
        cases e'
      obtain ⟨L', rfl⟩ : ∃ L', L = L' + 1 := ⟨L - 1, by (first | lia | omega)⟩
      rw [lps_add m 1 (i, pert) L'] at hL
      obtain ⟨n, j, g1, g2, g3, g4⟩ := free_go hsz L' fuel (leap m i pert).1 (leap m i pert).2 (by (first | lia | omega)) (Nat.le_of_lt_succ (Nat.mod_lt _ (Nat.succ_pos m))) hL
      refine ⟨runEnd m i - i + 1 + n, j, g1, ?_, g3, fun k hk => ?_⟩
      · rw [nth_add, rs_over]
        exact g2
      · by_cases z : k ≤ runEnd m i - i
        · rw [nth_run m k _ z]
          exact hall k (by (first | lia | omega))
        · obtain ⟨k', rfl⟩ : ∃ k', k = runEnd m i - i + 1 + k' := ⟨k - (runEnd m i - i + 1), by (first | lia | omega)⟩
          rw [nth_add, rs_over]
          exact g4 k' (by (first | lia | omega))
structure Ow (m : Nat) (hs : List Int) (owner : Array (Option Nat)) : Prop where
  sz : owner.size = m + 1
  ats : ∀ (j i : Nat), owner[j]? = some (some i) → i < hs.length ∧ ∃ n, (nth m n (st0 m (hs.getD i 0))).j = j ∧ ∀ k, k < n → Tk owner (nth m k (st0 m (hs.getD i 0))).j
  inj : ∀ (j j' i : Nat), owner[j]? = some (some i) → owner[j']? = some (some i) → j = j'
  all : ∀ i : Nat, i < hs.length → ∃ j : Nat, owner[j]? = some (some i)
theorem Ow.nil (m : Nat) : Ow m [] (Array.replicate (m + 1) none) := by
  have h0 : ∀ (j i : Nat), ¬ (Array.replicate (m + 1) (none : Option Nat))[j]? = some (some i) := fun j i z => by
    rw [Array.getElem?_replicate] at z
    split at z <;> cases z
  exact ⟨Array.size_replicate, fun j i z => absurd z (h0 j i), fun j j' i z => absurd z (h0 j i), fun i z => absurd z (by simp)⟩
theorem Ow.room {m : Nat} {hs : List Int} {owner : Array (Option Nat)} (h : Ow m hs owner) (hl : hs.length ≤ m) : ∃ y, y ≤ m ∧ owner[y]? = some none := by
  apply Classical.byContradiction
  intro hc
  have hall : ∀ y, y ≤ m → Tk owner y := fun y hy => tk_of (by rw [h.sz]; (first | lia | omega)) fun z => hc ⟨y, hy, z⟩
  have hnd : ((List.range (m + 1)).map fun y => ((owner.getD y none).getD 0)).Nodup := by
    rw [List.Nodup, List.pairwise_map]
    refine List.Pairwise.imp_of_mem ?_ List.nodup_range
    intro a b ha hb hab z
    obtain ⟨i, hi⟩ := hall a (by have := List.mem_range.mp ha; (first | lia | omega))
    obtain ⟨i', hi'⟩ := hall b (by have := List.mem_range.mp hb; (first | lia | omega))
    have e1 : owner.getD a none = some i := by rw [Array.getD_eq_getD_getElem?, hi]; rfl
    have e2 : owner.getD b none = some i' := by rw [Array.getD_eq_getD_getElem?, hi']; rfl
    rw [e1, e2] at z
    have z' : i = i' := z
    subst z'
    exact hab (h.inj a b i hi hi')
  have := nd_len hnd (b := List.range hs.length) fun x hx => by
    obtain ⟨y, hy, rfl⟩ := List.mem_map.mp hx
    obtain ⟨i, hi⟩ := hall y (by have := List.mem_range.mp hy; (first | lia | omega))
    have e1 : owner.getD y none = some i := by rw [Array.getD_eq_getD_getElem?, hi]; rfl
    rw [e1]
    exact List.mem_range.mpr (h.ats y i hi).1
  rw [List.length_map, List.length_range, List.length_range] at this
  (first | lia | omega)
theorem Ow.push {m k : Nat} (hm : m + 1 = 2 ^ k) {hs : List Int} {owner : Array (Option Nat)} (h : Ow m hs owner) (hl : hs.length ≤ m) (hv : Int) :
    ∃ j, layClean.free m owner (turns m) (bits hv % (m + 1)) (bits hv) = some j ∧ Ow m (hs ++ [hv]) (owner.setIfInBounds j (some hs.length)) := by
  obtain ⟨y, hy, ey⟩ := h.room hl
  obtain ⟨L, l1, l2, eL⟩ := lps_all (q := (bits hv % (m + 1), bits hv)) hm (bits_lt hv) hy
  obtain ⟨n, j, g1, g2, g3, g4⟩ := free_go h.sz L (turns m) (bits hv % (m + 1)) (bits hv) (by unfold turns; (first | lia | omega)) (Nat.le_of_lt_succ (Nat.mod_lt _ (Nat.succ_pos m))) (by rw [eL]; exact ey)
  have hj : j < owner.size := by
    rcases Nat.lt_or_ge j owner.size with z | z
    · exact z
    · rw [Array.getElem?_eq_none z] at g3; cases g3
  have get : ∀ x, (owner.setIfInBounds j (some hs.length))[x]? = if j = x then some (some hs.length) else owner[x]? := fun x => by
    rw [Array.getElem?_setIfInBounds, if_pos hj]
  have up : ∀ x, Tk owner x → Tk (owner.setIfInBounds j (some hs.length)) x := fun x ⟨i, hi⟩ => by
    unfold Tk
    rw [get]
    by_cases z : j = x
    · rw [if_pos z]; exact ⟨_, rfl⟩
    · rw [if_neg z]; exact ⟨i, hi⟩
  refine ⟨j, g1, by rw [Array.size_setIfInBounds]; exact h.sz, fun x i hx => ?_, fun x x' i hx hx' => ?_, fun i hi => ?_⟩
  · rw [get] at hx
    by_cases z : j = x
    · rw [if_pos z] at hx
      injection hx with hx
      injection hx with hx
      subst hx
      have e0 : (hs ++ [hv]).getD hs.length 0 = hv := by simp
      rw [e0]
      refine ⟨by simp, n, by rw [← z]; exact g2, fun k hk => up _ (g4 k hk)⟩
    · rw [if_neg z] at hx
      obtain ⟨a1, n', a2, a3⟩ := h.ats x i hx
      have e0 : (hs ++ [hv]).getD i 0 = hs.getD i 0 := by
        rw [List.getD_eq_getElem?_getD, List.getD_eq_getElem?_getD, List.getElem?_append_left a1]
      rw [e0]
      exact ⟨by rw [List.length_append]; (first | lia | omega), n', a2, fun k hk => up _ (a3 k hk)⟩
  · rw [get] at hx hx'
    by_cases z : j = x
    · rw [if_pos z] at hx
      by_cases z' : j = x'
      · exact z.symm.trans z'
      · rw [if_neg z'] at hx'
        injection hx with hx
        injection hx with hx
        have := (h.ats x' i hx').1
        (first | lia | omega)
    · rw [if_neg z] at hx
      by_cases z' : j = x'
      · rw [if_pos z'] at hx'
        injection hx' with hx'
        injection hx' with hx'
        have := (h.ats x i hx).1
        (first | lia | omega)
      · rw [if_neg z'] at hx'
        exact h.inj x x' i hx hx'
  · rw [List.length_append, List.length_singleton] at hi
    by_cases z : i = hs.length
    · exact ⟨j, by rw [get, if_pos rfl, z]⟩
    · obtain ⟨x, hx⟩ := h.all i (by (first | lia | omega))
      refine ⟨x, ?_⟩
      rw [get, if_neg ?_]
      · exact hx
      · intro zz
        subst zz
        rw [g3] at hx
        cases hx
theorem lay_fold {m k : Nat} (hm : m + 1 = 2 ^ k) (f : Option (Array (Option Nat) × Nat) → Int → Option (Array (Option Nat) × Nat)) (hf : ∀ owner c h, f (some (owner, c)) h = (layClean.free m owner (turns m) (bits h % (m + 1)) (bits h)).bind fun j => some (owner.setIfInBounds j (some c), c + 1)) :
    ∀ (l done : List Int) (owner : Array (Option Nat)), Ow m done owner → done.length + l.length ≤ m → ∃ owner', l.foldl f (some (owner, done.length)) = some (owner', (done ++ l).length) ∧ Ow m (done ++ l) owner'
  | [], done, owner, h, _ => ⟨owner, by rw [List.append_nil]; rfl, by rw [List.append_nil]; exact h⟩
  | x :: l, done, owner, h, hl => by
    rw [List.length_cons] at hl
    obtain ⟨j, e, h'⟩ := h.push hm (by (first | lia | omega)) x
    obtain ⟨owner', e2, h2⟩ := lay_fold hm f hf l (done ++ [x]) _ h' (by rw [List.length_append, List.length_singleton]; (first | lia | omega))
    refine ⟨owner', ?_, by rw [List.append_assoc] at h2; exact h2⟩
    rw [List.foldl_cons, hf, e]
    rw [List.length_append, List.length_singleton, List.append_assoc] at e2
    exact e2
theorem layClean_ok {m k : Nat} (hm : m + 1 = 2 ^ k) (hs : Array Int) (hl : hs.size ≤ m) : ∃ owner, layClean m hs = some owner ∧ Ow m hs.toList owner := by
  obtain ⟨owner, e, h⟩ := lay_fold hm (fun acc h => acc.bind fun q => (layClean.free m q.1 (turns m) (bits h % (m + 1)) (bits h)).bind fun j => some (q.1.setIfInBounds j (some q.2), q.2 + 1)) (fun _ _ _ => rfl) hs.toList [] _ (Ow.nil m) (by rw [Array.length_toList]; simpa using hl)
  refine ⟨owner, ?_, h⟩
  unfold layClean
  rw [← Array.foldl_toList]
  have e' : hs.toList.foldl (fun acc h => acc.bind fun q => (layClean.free m q.1 (turns m) (bits h % (m + 1)) (bits h)).bind fun j => some (q.1.setIfInBounds j (some q.2), q.2 + 1)) (some (Array.replicate (m + 1) none, 0)) = some (owner, ([] ++ hs.toList).length) := e
  exact congrArg (Option.map (·.1)) e'
theorem laid_ok {m finger moves : Nat} {led plain : Bool} (hm : Mask m) (es : Array (Int × Value)) (hl : es.size ≤ m) :
    ∃ t order, laid m finger moves led plain (es.map (·.1)) = some (t, order) ∧ (order.filterMap (es[·]?)).toList.Perm es.toList ∧ Tb t ((order.filterMap (es[·]?)).toList.map (·.1)) ∧ t.mask = m ∧ t.led = led ∧ t.plain = plain ∧ t.moves = moves := by
  obtain ⟨k, hk⟩ := hm.pow
  obtain ⟨owner, eo, ho⟩ := layClean_ok hk (es.map (·.1)) (by rw [Array.size_map]; exact hl)
  have hlen : (es.map (·.1)).toList.length = es.size := by rw [Array.length_toList, Array.size_map]
  unfold laid
  rw [eo]
  refine ⟨_, _, rfl, ?_⟩
  generalize hlv : (List.range (m + 1)).filterMap (fun j => (owner.getD j none).map (j, ·)) = live
  have mem : ∀ q, q ∈ live ↔ owner[q.1]? = some (some q.2) := fun q => by
    obtain ⟨j, i⟩ := q
    rw [← hlv, List.mem_filterMap]
    constructor
    · rintro ⟨a, ha, e⟩
      have ha' : a < owner.size := by rw [ho.sz]; exact List.mem_range.mp ha
      rw [Array.getD_eq_getD_getElem?, Array.getElem?_eq_getElem ha', Option.getD_some] at e
      cases ee : owner[a] with
      | none => rw [ee] at e; cases e
      | some i' =>
        rw [ee] at e
        injection e with e
        injection e with e1 e2
        subst e1 e2
        rw [Array.getElem?_eq_getElem ha', ee]
    · intro e
      have hj : j < owner.size := by
        rcases Nat.lt_or_ge j owner.size with z | z
        · exact z
        · rw [Array.getElem?_eq_none z] at e; cases e
      refine ⟨j, List.mem_range.mpr (by rw [← ho.sz]; exact hj), ?_⟩
      rw [Array.getD_eq_getD_getElem?, e]
      rfl
  have up : live.Pairwise fun a b => a.1 < b.1 := by
    rw [← hlv, List.pairwise_filterMap]
    refine List.Pairwise.imp ?_ List.pairwise_lt_range
    intro a b hab x hx y hy
    obtain ⟨i, _, rfl⟩ := Option.map_eq_some_iff.mp hx
    obtain ⟨i', _, rfl⟩ := Option.map_eq_some_iff.mp hy
    exact hab
  have nd : (live.map (·.2)).Nodup := by
    rw [List.Nodup, List.pairwise_map]
    refine List.Pairwise.imp_of_mem ?_ up
    intro a b ha hb hab z
    have e1 := (mem a).mp ha
    have e2 := (mem b).mp hb
    rw [← z] at e2
    have := ho.inj _ _ _ e1 e2
    (first | lia | omega)
  have lt : ∀ q ∈ live, q.2 < es.size := fun q hq => by
    have := (ho.ats _ _ ((mem q).mp hq)).1
    rwa [hlen] at this
  have pm : (live.map (·.2)).Perm (List.range es.size) := by
    refine (nd_perm (a := List.range es.size) List.nodup_range (fun i hi => ?_) ?_)
    · obtain ⟨j, hj⟩ := ho.all i (by rw [hlen]; exact List.mem_range.mp hi)
      exact List.mem_map.mpr ⟨(j, i), (mem _).mpr hj, rfl⟩
    · have := nd_len nd (b := List.range es.size) fun x hx => by
        obtain ⟨q, hq, rfl⟩ := List.mem_map.mp hx
        exact List.mem_range.mpr (lt q hq)
      exact this
  have eL : ((live.map (·.2)).toArray.filterMap (es[·]?)).toList = live.map fun q => es.toList.getD q.2 (0, .none) := by
    rw [Array.toList_filterMap, List.filterMap_map]
    clear pm nd up
    have : ∀ l : List (Nat × Nat), (∀ q ∈ l, q.2 < es.size) → l.filterMap ((fun x => es[x]?) ∘ fun q => q.2) = l.map fun q => es.toList.getD q.2 (0, .none) := by
      intro l
      induction l with
      | nil => intro _; rfl
      | cons q l ih =>
        intro h
        have hq := h q List.mem_cons_self
        have e : ((fun x => es[x]?) ∘ fun q => q.2) q = some (es.toList.getD q.2 (0, .none)) := by
          show es[q.2]? = _
          rw [Array.getElem?_eq_getElem hq, List.getD_eq_getElem?_getD, Array.getElem?_toList, Array.getElem?_eq_getElem hq]
          rfl
        rw [List.filterMap_cons_some e, List.map_cons, ih fun q hq => h q (List.mem_cons_of_mem _ hq)]
    exact this live lt
  have eP : (live.map fun q => es.toList.getD q.2 (0, .none)).Perm es.toList := by
    have h1 : (live.map fun q => es.toList.getD q.2 (0, Value.none)) = (live.map (·.2)).map fun i => es.toList.getD i (0, .none) := by rw [List.map_map]; rfl
    have h2 : (List.range es.size).map (fun i => es.toList.getD i (0, Value.none)) = es.toList := by
      apply List.ext_getElem
      · rw [List.length_map, List.length_range, Array.length_toList]
      · intro i a1 a2
        rw [List.getElem_map, List.getElem_range, List.getD_eq_getElem?_getD, List.getElem?_eq_getElem a2]
        rfl
    rw [h1]
    have := pm.map fun i => es.toList.getD i (0, Value.none)
    rw [h2] at this
    exact this
  refine ⟨by rw [eL]; exact eP, ?_, rfl, rfl, rfl, rfl⟩
  have sub : ∀ j, Tk owner j → j ∈ (live.map (·.1)).toArray.toList := fun j ⟨i, hi⟩ => List.mem_map.mpr ⟨(j, i), (mem _).mpr hi, rfl⟩
  refine ⟨hm, rfl, ?_, ?_, ?_, ?_, ?_⟩
  · show (live.map (·.1)).toArray.size = _
    rw [eL, List.size_toArray, List.length_map, List.length_map, List.length_map]
  · rw [eL, List.length_map]
    exact Nat.le_trans (Nat.le_of_eq (eP.length_eq.trans Array.length_toList)) hl
  · rw [Ups.iff]
    show (live.map (·.1)).Pairwise (· < ·)
    rw [List.pairwise_map]
    exact up
  · intro q hq
    have e : (((live.map (·.2)).toArray.filterMap (es[·]?)).toList.map (·.1)).zip (live.map (·.1)).toArray.toList = live.map fun q => ((es.map (·.1)).toList.getD q.2 0, q.1) := by
      rw [eL, List.map_map]
      show (live.map _).zip (live.map (·.1)) = _
      rw [List.zip_map']
      refine List.map_congr_left fun q hq => ?_
      have hlt := lt q hq
      show ((es.toList.getD q.2 (0, Value.none)).1, q.1) = _
      rw [Array.toList_map, List.getD_eq_getElem?_getD, List.getD_eq_getElem?_getD, List.getElem?_map, List.getElem?_eq_getElem (by rw [Array.length_toList]; exact hlt)]
      rfl
    have hq' : q ∈ live.map fun q => ((es.map (·.1)).toList.getD q.2 0, q.1) := by rw [← e]; exact hq
    obtain ⟨p, hp, rfl⟩ := List.mem_map.mp hq'
    obtain ⟨_, n, e1, e2⟩ := ho.ats _ _ ((mem p).mp hp)
    exact ⟨n, e1, fun k hk => sub _ (e2 k hk)⟩
  · intro j hj
    obtain ⟨q, hq, rfl⟩ := List.mem_map.mp hj
    have e := (mem q).mp hq
    rcases Nat.lt_or_ge q.1 owner.size with z | z
    · have := ho.sz
      show q.1 ≤ m
      (first | lia | omega)
    · rw [Array.getElem?_eq_none z] at e; cases e
end SetT
namespace SetT
open PySem PySem.SetTable
theorem perm_map_inv {α β : Type} (f : α → β) {l m : List β} (h : l.Perm m) : ∀ {xs : List α}, m = xs.map f → ∃ xs' : List α, xs'.Perm xs ∧ l = xs'.map f := by
  induction h with
  | nil =>
    intro xs e
    exact ⟨[], by rw [List.map_eq_nil_iff.mp e.symm], rfl⟩
  | @cons x l1 l2 _ ih =>
    intro xs e
    cases xs with
    | nil => cases e
    | cons a xs =>
      rw [List.map_cons] at e
      injection e with e1 e2
      obtain ⟨xs', p, e3⟩ := ih e2
      exact ⟨a :: xs', p.cons a, by rw [List.map_cons, ← e1, e3]⟩
  | swap x y l =>
    intro xs e
    match xs, e with
    | a :: b :: xs, e =>
      simp only [List.map_cons] at e
      injection e with e1 e2
      injection e2 with e2 e3
      exact ⟨b :: a :: xs, List.Perm.swap _ _ _, by rw [List.map_cons, List.map_cons, e1, e2, e3]⟩
  | trans _ _ ih1 ih2 =>
    intro xs e
    obtain ⟨xs2, p2, e2⟩ := ih2 e
    obtain ⟨xs1, p1, e1⟩ := ih1 e2
    exact ⟨xs1, p1.trans p2, e1⟩
section
variable {prog : Program} {w : World} {A : Around} {E : Value → Shared → Prop} {s : Shared}
noncomputable def ent (prog : Program) (w : World) (q : List Int × Addr) : Int × Value := (tupleKeyHash (intKind prog w) q.1, .ref q.2)
structure Tu (prog : Program) (w : World) (P : List Int → Prop) (led : Bool) (h : Heap) (a : Addr) (xs : List (List Int × Addr)) (es : Array (Int × Value)) (ep : Nat) (t : SetTable) : Prop where
  o : h.get? a = some { cls := .type "set", dict := none, data := .set es ep t }
  e : es.toList = xs.map (ent prog w)
  k : ∀ q ∈ xs, IsTupleKey (intKind prog w) h q.1 q.2
  n : (xs.map (·.1)).Nodup
  p : ∀ q ∈ xs, P q.1
  tb : Tb t (es.toList.map (·.1))
  pl : t.plain = true
  ld : t.led = led
variable {P : List Int → Prop} {led : Bool} {a b : Addr} {xs : List (List Int × Addr)} {es : Array (Int × Value)} {ep : Nat} {t : SetTable} {k : List Int}
theorem Tu.size (T : Tu prog w P led s.heap a xs es ep t) : es.size = xs.length := by
  rw [← Array.length_toList, T.e, List.length_map]
theorem Tu.fits (T : Tu prog w P led s.heap a xs es ep t) : t.fits es.size = true := by
  have h1 := T.tb.sz
  have h2 := T.tb.le
  have h3 := T.tb.d
  rw [List.length_map, Array.length_toList] at h1 h2
  unfold SetTable.fits SetTable.fill
  rw [h1, h3]
  simp
  (first | lia | omega)
theorem Tu.at (T : Tu prog w P led s.heap a xs es ep t) {i : Nat} (hi : i < xs.length) : es[i]? = some (ent prog w xs[i]) := by
  rw [← Array.getElem?_toList, T.e, List.getElem?_map, List.getElem?_eq_getElem hi]
  rfl
theorem not_class {M : Model} (hk : IsTupleKey (intKind prog w) s.heap k b) {Q : Bool → Shared → Prop} (h : Q false s) : wpAny M A (ofAClassStatement 8 (.ref b)) Q E s := by
  have hT := hk.typeIs
  obtain ⟨o, items, n, ho, _, hd, hi⟩ := hk
  unfold ofAClassStatement
  refine wpAny_bind (wpAny_typeOf hT ?_)
  dsimp only
  rw [if_pos (by decide)]
  refine wpAny_bind (wpAny_pure ?_)
  rw [Bool.not_true, if_neg Bool.false_ne_true]
  refine wpAny_bind (wpAny_seqItems ho hd ?_)
  dsimp only
  refine wpAny_bind ?_
  rw [← Array.forIn_toList]
  refine wpAny_forIn_list _ (fun rest r s' => r.1 = none ∧ s' = s ∧ ∃ ks, ItemsAre (intKind prog w) ks rest) _ ?_ ?_ _ _ ⟨rfl, rfl, _, hi⟩
  · rintro v rest r s' ⟨hr, rfl, ks, hall⟩
    cases hall with
    | @cons kk _ ks' _ h1 hl' =>
      obtain ⟨tk, rfl⟩ := Value.isInt_shape h1
      refine wpAny_bind (wpAny_pure ?_)
      rw [if_neg Bool.false_ne_true]
      exact wpAny_pure ⟨rfl, rfl, _, hl'⟩
  · rintro ⟨r1, r2⟩ s' ⟨hr, rfl, _⟩
    simp only at hr
    subst hr
    exact wpAny_pure h
theorem by_value {M : Model} (hk : IsTupleKey (intKind prog w) s.heap k b) {Q : Bool → Shared → Prop} (h : Q true s) : wpAny M A (hashByValue 8 (.ref b)) Q E s := by
  have hT := hk.typeIs
  obtain ⟨o, items, n, ho, _, hd, hi⟩ := hk
  unfold hashByValue
  refine wpAny_bind (wpAny_specialOf hT F.slot_tuple_hash.lookup ?_)
  dsimp only
  refine wpAny_bind (wpAny_seqItems ho hd ?_)
  refine wpAny_bind ?_
  show wpAny _ _ (forIn items _ _) _ _ s
  rw [← Array.forIn_toList]
  refine wpAny_forIn_list _ (fun rest r s' => r.1 = none ∧ s' = s ∧ ∃ ks, ItemsAre (intKind prog w) ks rest) _ ?_ ?_ _ _ ⟨rfl, rfl, _, hi⟩
  · rintro v rest r s' ⟨hr, rfl, ks, hall⟩
    cases hall with
    | @cons kk _ ks' _ h1 hl' =>
      obtain ⟨tk, rfl⟩ := Value.isInt_shape h1
      refine wpAny_bind (wpAny_pure ?_)
      rw [Bool.not_true, if_neg Bool.false_ne_true]
      exact wpAny_pure ⟨rfl, rfl, _, hl'⟩
  · rintro ⟨r1, r2⟩ s' ⟨hr, rfl, _⟩
    simp only at hr
    subst hr
    exact wpAny_pure h
theorem unseen (hk : IsTupleKey (intKind prog w) s.heap k b) {l : List Value} (hl : ∀ v ∈ l, ∃ q : List Int × Addr, v = .ref q.2 ∧ IsTupleKey (intKind prog w) s.heap q.1 q.2) {Q : Bool → Shared → Prop} (h : Q false s) : wpAny (model prog w) A (searchCouldBeSeen (.ref b) l) Q E s := by
  unfold searchCouldBeSeen
  refine wpAny_bind ?_
  refine wpAny_forIn_list _ (fun rest r s' => r.1 = none ∧ s' = s ∧ ∀ v ∈ rest, ∃ q : List Int × Addr, v = .ref q.2 ∧ IsTupleKey (intKind prog w) s.heap q.1 q.2) _ ?_ ?_ _ _ ⟨rfl, rfl, hl⟩
  · rintro v rest r s' ⟨hr, rfl, hall⟩
    obtain ⟨q, rfl, hq⟩ := hall v List.mem_cons_self
    dsimp only
    by_cases z : ((b == q.2) || (carriedByValue (.ref b) && carriedByValue (.ref q.2))) = true
    · rw [if_pos z]
      exact wpAny_pure ⟨rfl, rfl, fun v hv => hall v (List.mem_cons_of_mem _ hv)⟩
    · rw [if_neg z]
      refine wpAny_bind (wpAny_eqIsQuiet_tuple hk ?_)
      rw [Bool.not_true, if_neg Bool.false_ne_true]
      refine wpAny_bind (wpAny_eqIsQuiet_tuple hq ?_)
      rw [Bool.not_true, if_neg Bool.false_ne_true]
      refine wpAny_bind (not_class hk ?_)
      rw [if_neg Bool.false_ne_true]
      refine wpAny_bind (not_class hq ?_)
      rw [if_neg Bool.false_ne_true]
      exact wpAny_pure ⟨rfl, rfl, fun v hv => hall v (List.mem_cons_of_mem _ hv)⟩
  · rintro ⟨r1, r2⟩ s' ⟨hr, rfl, _⟩
    simp only at hr
    subst hr
    exact wpAny_pure h
theorem search_eq (a : Addr) (x : Value) (h : Int) (adding : Bool) (fuel : Nat) (stand : Option Probe) : setSearchFrom a x h adding (fuel + 1) stand = (do
    let (es, _, t) ← setState a
    if t.gaveWay then unsupported "set:on-a-table-that-gave-way"
    let some met := t.probe (fun i => (es[i]?.map (·.1)).getD 0) h (stand.getD (t.probeStart h)) | unsupported "internal:set-table-without-an-empty-slot"
    match met with
    | .empty j dummy =>
      match dummy with
      | none => return .free j false
      | some d =>
        if adding && t.slot d != .dummy then rule "set.search.the-dummy-was-taken"; return ← setSearchFrom a x h adding fuel none
        return .free d true
    | .candidate j i next =>
      if !t.led then
        if ← searchCouldBeSeen x ((es.filter (·.1 == h)).toList.map (·.2)) then unsupported "set:the-search-would-show-the-table"
      let some (_, y) := es[i]? | unsupported "internal:set-entry"
      let equal ← holding [y] (eqBool y x)
      let (es', _, t') ← setState a
      if adding && equal then return .there none
      let some same := t'.sameMemory t.moves t.mask | unsupported "set.changed-during-lookup:is-the-new-block-at-the-old-address"
      let still ← match (if same then t'.slot j else .empty) with
        | .live i' => match es'[i']? with
          | some (_, y') => do pure (if ← isSame y' y then some i' else none)
          | none => pure none
        | _ => pure none
      match still with
      | none => rule "set.search.anew"; setSearchFrom a x h adding fuel none
      | some i' => if equal then return .there (some i') else setSearchFrom a x h adding fuel (some next)) := rfl
theorem Mask.odd {m : Nat} (h : Mask m) : m % 2 = 1 := by rcases h with rfl | rfl | rfl | rfl | rfl | rfl <;> rfl
theorem Tu.hash (T : Tu prog w P led s.heap a xs es ep t) {i : Nat} (hi : i < xs.length) : (es[i]?.map (·.1)).getD 0 = tupleKeyHash (intKind prog w) xs[i].1 := by
  rw [T.at hi]
  rfl
theorem search_tu (hu : A.units < cLine) (T : Tu prog w P led s.heap a xs es ep t) (hb : IsTupleKey (intKind prog w) s.heap k b) {Q : SetFound → Shared → Prop}
    (h1 : k ∈ xs.map (·.1) → Q (.there none) s)
    (h2 : k ∉ xs.map (·.1) → ∀ n, t.slot (nth t.mask n (st0 t.mask (tupleKeyHash (intKind prog w) k))).j = .empty → (∀ m, m < n → t.slot (nth t.mask m (st0 t.mask (tupleKeyHash (intKind prog w) k))).j ≠ .empty) → Q (.free (nth t.mask n (st0 t.mask (tupleKeyHash (intKind prog w) k))).j false) s)
    {n0 : Nat} (hn0 : n0 ≤ 10 * (t.mask + 13)) (he0 : t.slot (nth t.mask n0 (st0 t.mask (tupleKeyHash (intKind prog w) k))).j = .empty) :
    ∀ (fuel c : Nat) (stand : Option Probe), stand.getD (t.probeStart (tupleKeyHash (intKind prog w) k)) = nth t.mask c (st0 t.mask (tupleKeyHash (intKind prog w) k)) → c ≤ n0 → n0 - c < fuel →
      (∀ m, m < c → ∃ i, ∃ hi : i < xs.length, t.slot (nth t.mask m (st0 t.mask (tupleKeyHash (intKind prog w) k))).j = .live i ∧ xs[i].1 ≠ k) →
      wpAny (model prog w) A (setSearchFrom a (.ref b) (tupleKeyHash (intKind prog w) k) true fuel stand) Q E s
  | 0, c, stand, _, _, hf, _ => absurd hf (Nat.not_lt_zero _)
  | fuel + 1, c, stand, hst, hc, hf, hbef => by
    have hlen : (es.toList.map (·.1)).length = xs.length := by rw [List.length_map, Array.length_toList, T.size]
    have hpl : t.place.size = xs.length := by rw [T.tb.sz, hlen]
    rw [search_eq]
    refine wpAny_bind (wpAny_setState_of T.o rfl T.fits ?_)
    dsimp only
    have hg : t.gaveWay = false := by
      unfold gaveWay
      rw [T.tb.m.odd]
      rfl
    rw [hg, if_neg Bool.false_ne_true, hst]
    obtain ⟨n, g1, g2, g3⟩ := probe_go T.tb.d T.tb.u (fun i => (es[i]?.map (·.1)).getD 0) (tupleKeyHash (intKind prog w) k) (n0 - c) (10 * turns t.mask) (nth t.mask c (st0 t.mask (tupleKeyHash (intKind prog w) k))) (Pr.nth (Pr.st0 _ _)) (by unfold turns; (first | lia | omega)) (by rw [← nth_add, Nat.add_sub_cancel' hc]; exact he0)
    have eadd : ∀ m, nth t.mask m (nth t.mask c (st0 t.mask (tupleKeyHash (intKind prog w) k))) = nth t.mask (c + m) (st0 t.mask (tupleKeyHash (intKind prog w) k)) := fun m => (nth_add _ _ _ _).symm
    simp only [eadd] at g2 g3
    rcases g3 with ⟨ep1, ep2⟩ | ⟨i, hlt, ep1, ep2, ep3⟩
    · have epr : t.probe (fun i => (es[i]?.map (·.1)).getD 0) (tupleKeyHash (intKind prog w) k) (nth t.mask c (st0 t.mask (tupleKeyHash (intKind prog w) k))) = some (.empty (nth t.mask (c + n) (st0 t.mask (tupleKeyHash (intKind prog w) k))).j none) := ep1
      rw [epr]
      dsimp only
      refine wpAny_pure (h2 ?_ (c + n) ep2 fun m hm z => ?_)
      · intro hmem
        obtain ⟨q, hq, eq⟩ := List.mem_map.mp hmem
        obtain ⟨i, hi, ei⟩ := List.getElem_of_mem hq
        have hk : (es.toList.map (·.1))[i]'(by rw [hlen]; exact hi) = tupleKeyHash (intKind prog w) k := by
          have : (es.toList.map (·.1))[i]? = some (tupleKeyHash (intKind prog w) k) := by
            rw [T.e, List.map_map, List.getElem?_map, List.getElem?_eq_getElem hi, ei]
            show some (tupleKeyHash (intKind prog w) q.1) = _
            rw [eq]
          rw [List.getElem?_eq_getElem (by rw [hlen]; exact hi)] at this
          exact Option.some.inj this
        obtain ⟨m, hm, em⟩ := T.tb.met (i := i) (by rw [hlen]; exact hi) (n := c + n) (by rw [hk]; exact ep2)
        rw [hk] at em
        by_cases z : m < c
        · obtain ⟨i', hi', e1, e2⟩ := hbef m z
          rw [em] at e1
          injection e1 with e1
          subst e1
          rw [ei] at e2
          exact e2 eq
        · obtain ⟨i', e1, e2⟩ := g2 (m - c) (by (first | lia | omega))
          rw [Nat.add_sub_cancel' (by (first | lia | omega)), em] at e1
          injection e1 with e1
          subst e1
          rw [T.hash hi, ei, eq] at e2
          exact e2 rfl
      · by_cases z2 : m < c
        · obtain ⟨i', hi', e1, e2⟩ := hbef m z2
          rw [z] at e1
          cases e1
        · obtain ⟨i', e1, e2⟩ := g2 (m - c) (by (first | lia | omega))
          rw [Nat.add_sub_cancel' (by (first | lia | omega)), z] at e1
          cases e1
    · have epr : t.probe (fun i => (es[i]?.map (·.1)).getD 0) (tupleKeyHash (intKind prog w) k) (nth t.mask c (st0 t.mask (tupleKeyHash (intKind prog w) k))) = some (.candidate (nth t.mask (c + n) (st0 t.mask (tupleKeyHash (intKind prog w) k))).j i (nth t.mask (c + (n + 1)) (st0 t.mask (tupleKeyHash (intKind prog w) k)))) := ep1
      rw [epr]
      obtain ⟨hi0, epl⟩ := slot_live ep2
      have hi : i < xs.length := by (first | lia | omega)
      have hkey := T.k _ (List.getElem_mem hi)
      dsimp only
      have rest : wpAny (model prog w) A (do
          let some (_, y) := es[i]? | unsupported "internal:set-entry"
          let equal ← holding [y] (eqBool y (.ref b))
          let (es', _, t') ← setState a
          if true && equal then return .there none
          let some same := t'.sameMemory t.moves t.mask | unsupported "set.changed-during-lookup:is-the-new-block-at-the-old-address"
          let still ← match (if same then t'.slot (nth t.mask (c + n) (st0 t.mask (tupleKeyHash (intKind prog w) k))).j else .empty) with
            | .live i' => match es'[i']? with
              | some (_, y') => do pure (if ← isSame y' y then some i' else none)
              | none => pure none
            | _ => pure none
          match still with
          | none => rule "set.search.anew"; setSearchFrom a (.ref b) (tupleKeyHash (intKind prog w) k) true fuel none
          | some i' => if equal then return .there (some i') else setSearchFrom a (.ref b) (tupleKeyHash (intKind prog w) k) true fuel (some (nth t.mask (c + (n + 1)) (st0 t.mask (tupleKeyHash (intKind prog w) k))))) Q E s := by
        rw [T.at hi]
        unfold ent
        dsimp only
        refine wpAny_bind (wpAny_holding (wpAny_eqBool_tuple hu hkey hb ?_))
        refine wpAny_bind (wpAny_setState_of T.o rfl T.fits ?_)
        dsimp only
        by_cases z : xs[i].1 = k
        · rw [decide_eq_true z, Bool.and_self, if_pos rfl]
          exact wpAny_pure (h1 (List.mem_map.mpr ⟨_, List.getElem_mem hi, z⟩))
        · rw [decide_eq_false z, Bool.and_false, if_neg Bool.false_ne_true]
          have hsm : t.sameMemory t.moves t.mask = some true := by
            unfold sameMemory
            rw [if_pos (by simp)]
          rw [hsm]
          dsimp only
          rw [if_pos rfl, ep2]
          dsimp only
          rw [T.at hi]
          unfold ent
          dsimp only
          refine wpAny_bind (wpAny_isSame_ref_self (wpAny_bind (wpAny_pure ?_)))
          rw [if_pos rfl]
          dsimp only
          rw [if_neg Bool.false_ne_true]
          refine search_tu hu T hb h1 h2 hn0 he0 fuel (c + (n + 1)) _ rfl (by (first | lia | omega)) (by (first | lia | omega)) fun m hm => ?_
          by_cases z2 : m < c
          · exact hbef m z2
          · by_cases z3 : m = c + n
            · subst z3
              exact ⟨i, hi, ep2, z⟩
            · obtain ⟨i', e1, e2⟩ := g2 (m - c) (by (first | lia | omega))
              rw [Nat.add_sub_cancel' (by (first | lia | omega))] at e1
              obtain ⟨hi', _⟩ := slot_live e1
              refine ⟨i', by (first | lia | omega), e1, fun zz => ?_⟩
              rw [T.hash (by (first | lia | omega)), zz] at e2
              exact e2 rfl
      by_cases zl : t.led = true
      · rw [zl, Bool.not_true, if_neg Bool.false_ne_true]
        exact rest
      · rw [Bool.eq_false_iff.mpr zl, Bool.not_false, if_pos rfl]
        refine wpAny_bind (unseen hb (fun v hv => ?_) ?_)
        · obtain ⟨e, he, rfl⟩ := List.mem_map.mp hv
          have he' : e ∈ es.toList := by
            have := Array.mem_toList_iff.mp he
            exact Array.mem_toList_iff.mpr (Array.mem_filter.mp this).1
          rw [T.e] at he'
          obtain ⟨q, hq, rfl⟩ := List.mem_map.mp he'
          exact ⟨q, rfl, T.k q hq⟩
        · rw [if_neg Bool.false_ne_true]
          exact rest
theorem grow {m n : Nat} (hm : Mask m) (h1 : n * 5 < m * 3) (h2 : (n + 1) * 5 ≥ m * 3) (h3 : n + 1 ≤ 4914) :
    Mask (sizeAbove (grown (n + 1)) - 1) ∧ n + 1 ≤ sizeAbove (grown (n + 1)) - 1 ∧ (n + 1) * 5 < (sizeAbove (grown (n + 1)) - 1) * 3 ∧ sizeAbove (grown (n + 1)) ≤ 8192 := by
  rcases hm with rfl | rfl | rfl | rfl | rfl | rfl
  · obtain rfl : n = 4 := by (first | lia | omega)
    exact ⟨.inr (.inl (by decide)), by decide, by decide, by decide⟩
  · obtain rfl : n = 18 := by (first | lia | omega)
    exact ⟨.inr (.inr (.inl (by decide))), by decide, by decide, by decide⟩
  · obtain rfl : n = 76 := by (first | lia | omega)
    exact ⟨.inr (.inr (.inr (.inl (by decide)))), by decide, by decide, by decide⟩
  · obtain rfl : n = 306 := by (first | lia | omega)
    exact ⟨.inr (.inr (.inr (.inr (.inl (by decide))))), by decide, by decide, by decide⟩
  · obtain rfl : n = 1228 := by (first | lia | omega)
    exact ⟨.inr (.inr (.inr (.inr (.inr (by decide))))), by decide, by decide, by decide⟩
  · (first | lia | omega)
theorem isTup_keep {h h' : Heap} {o : Obj} {es : Array (Int × Value)} {ep : Nat} {t : SetTable} (x : IsTupleKey (intKind prog w) h k b) (ho : h.get? a = some o) (hd : o.data = .set es ep t) (hs : Heap.SameBut a h h') : IsTupleKey (intKind prog w) h' k b := by
  obtain ⟨o', items, n, ho', hc, hd', hi⟩ := x
  have hne : b ≠ a := by
    rintro rfl
    obtain rfl : o' = o := Option.some.inj (ho'.symm.trans ho)
    rw [hd] at hd'; exact nomatch hd'
  exact ⟨o', items, n, (hs.2 b hne).trans ho', hc, hd', hi⟩
theorem relay_eq (a : Addr) (wanted : Nat) : setRelay a wanted = (do
    let (es, _, t) ← setState a
    if SetTable.sizeAbove wanted > sizeLine then unsupported "set:memory"
    let (es, t) ← (do
      let some (t, order) := t.relaid (es.map (·.1)) wanted | unsupported "internal:set-table-without-room"
      let es' := order.filterMap (es[·]?)
      if es'.size != es.size then unsupported "internal:set-table-lost-an-element"
      pure (es', t))
    storeSet a es t) := rfl
theorem addIn_eq (a : Addr) (x : Value) (h : Int) (fuel : Nat) : setAddHashedIn a x h (fuel + 1) = (do
    let (es₀, _, t₀) ← setState a
    if byScan x es₀ then
      match ← setAddByScan a x h es₀ t₀ with
      | some added => return added
      | none => return ← setAddHashedIn a x h fuel
    let .free slot wasDummy ← setSearch a x h (adding := true) | return false
    let (es, _, t) ← setState a
    let (t, p) := t.put slot
    let byValue ← if t.plain then hashByValue 8 x else pure true
    let t := if byValue then t else { t with plain := false }
    storeSet a (SetTable.insertAt es p (h, x)) t
    if !wasDummy && t.tooFull then setRelay a (SetTable.grown (es.size + 1))
    return true) := rfl
end
end SetT
namespace SetT
open PySem PySem.SetTable
section
variable {prog : Program} {w : World} {A : Around} {E : Value → Shared → Prop} {s : Shared}
variable {P : List Int → Prop} {led : Bool} {a b : Addr} {xs : List (List Int × Addr)} {es : Array (Int × Value)} {ep : Nat} {t : SetTable} {k : List Int}
noncomputable def SetTu (prog : Program) (w : World) (P : List Int → Prop) (led : Bool) (h : Heap) (a : Addr) (xs : List (List Int × Addr)) : Prop :=
  ∃ es ep t, Tu prog w P led h a xs es ep t ∧ xs.length * 5 < t.mask * 3
theorem Tu.store (T : Tu prog w P led s.heap a xs es ep t) {xs' : List (List Int × Addr)} {es' : Array (Int × Value)} {t' : SetTable} (e : es'.toList = xs'.map (ent prog w)) (hk : ∀ q ∈ xs', IsTupleKey (intKind prog w) s.heap q.1 q.2)
    (n : (xs'.map (·.1)).Nodup) (p : ∀ q ∈ xs', P q.1) (tb : Tb t' (es'.toList.map (·.1))) (pl : t'.plain = true) (ld : t'.led = led) : Tu prog w P led (s.heap.update a (Obj.putSet es' t')) a xs' es' (ep + 1) t' := by
  have hg : (s.heap.update a (Obj.putSet es' t')).get? a = some { cls := .type "set", dict := none, data := .set es' (ep + 1) t' } := by
    have := Heap.get?_update_self (Obj.putSet es' t') T.o (by rw [putSet_of es' t' rfl]; rfl)
    rw [putSet_of es' t' rfl] at this; exact this
  exact ⟨hg, e, fun q hq => isTup_keep (hk q hq) T.o rfl (Heap.SameBut.update s.heap a _), n, p, tb, pl, ld⟩
theorem relay_tu {n : Nat} {wanted : Nat} (T : Tu prog w P led s.heap a xs es ep t) (hn : xs.length = n) (hm : Mask (sizeAbove wanted - 1)) (hl : n ≤ sizeAbove wanted - 1) (hr : n * 5 < (sizeAbove wanted - 1) * 3) (hz : sizeAbove wanted ≤ 8192) {Q : Unit → Shared → Prop}
    (h : ∀ h' xs', Heap.SameBut a s.heap h' → SetTu prog w P led h' a xs' → xs'.Perm xs → Q () { s with heap := h' }) : wpAny (model prog w) A (setRelay a wanted) Q E s := by
  rw [relay_eq]
  refine wpAny_bind (wpAny_setState_of T.o rfl T.fits ?_)
  dsimp only
  rw [if_neg (by rw [sizeLine_eq]; (first | lia | omega))]
  obtain ⟨t', order, e1, e2, e3, e4, e5, e6, e7⟩ := laid_ok (m := sizeAbove wanted - 1) (finger := t.finger) (moves := t.movedTo (sizeAbove wanted - 1)) (led := t.led) (plain := t.plain) hm es (by rw [T.size, hn]; exact hl)
  have er : t.relaid (es.map (·.1)) wanted = some (t', order) := e1
  rw [er]
  dsimp only
  have es' : (order.filterMap (es[·]?)).size = es.size := by
    rw [← Array.length_toList, e2.length_eq, Array.length_toList]
  have eb : ((order.filterMap (es[·]?)).size != es.size) = false := by rw [es']; simp
  rw [eb, if_neg Bool.false_ne_true]
  refine wpAny_bind (wpAny_pure ?_)
  dsimp only
  obtain ⟨xs', px, ex⟩ := perm_map_inv (ent prog w) e2 T.e
  refine wpAny_storeSet_of T.o rfl ?_ (by rw [es', T.size, hn, sizeLine_eq]; (first | lia | omega))
  refine h _ xs' (Heap.SameBut.update s.heap a _) ⟨_, _, _, T.store ex (fun q hq => T.k q (px.mem_iff.mp hq)) (List.Perm.nodup ((px.map _).symm) T.n) (fun q hq => T.p q (px.mem_iff.mp hq)) e3 (e6.trans T.pl) (e5.trans T.ld), ?_⟩ px
  rw [e4, px.length_eq, hn]
  exact hr
theorem ins_perm {α : Type} (l : List α) (p : Nat) (x : α) : (l.take p ++ x :: l.drop p).Perm (x :: l) := by
  refine List.perm_middle.trans (List.Perm.of_eq ?_)
  rw [List.take_append_drop]
theorem byScan_ref (b : Addr) (es : Array (Int × Value)) : byScan (.ref b) es = false := rfl
theorem add_tu (hu : A.units < cLine) (hB : ∀ l : List (List Int), l.Nodup → (∀ x ∈ l, P x) → l.length ≤ 4914) (T : SetTu prog w P led s.heap a xs) (hb : IsTupleKey (intKind prog w) s.heap k b) (hp : P k) {Q : Bool → Shared → Prop}
    (h : ∀ r h' xs', Heap.SameBut a s.heap h' → SetTu prog w P led h' a xs' → (∀ q, q ∈ xs' → q ∈ xs ∨ q = (k, b)) → (∀ k', k' ∈ xs'.map (·.1) ↔ k' ∈ xs.map (·.1) ∨ k' = k) → Q r { s with heap := h' }) :
    wpAny (model prog w) A (setAddHashed a (.ref b) (tupleKeyHash (intKind prog w) k)) Q E s := by
  obtain ⟨es, ep, t, T, hroom⟩ := T
  unfold setAddHashed
  refine wpAny_holding ?_
  rw [addIn_eq _ _ _ 99999]
  refine wpAny_bind (wpAny_setState_of T.o rfl T.fits ?_)
  dsimp only
  rw [byScan_ref, if_neg Bool.false_ne_true]
  obtain ⟨n0, hn0, he0⟩ := T.tb.free (Pr.st0 t.mask (tupleKeyHash (intKind prog w) k))
  have hmask : t.mask ≤ 8191 := by rcases T.tb.m with z | z | z | z | z | z <;> (first | lia | omega)
  unfold setSearch
  refine wpAny_bind (search_tu hu T hb ?_ ?_ hn0 he0 100000 0 none rfl (Nat.zero_le _) (by (first | lia | omega)) (fun m hm => absurd hm (Nat.not_lt_zero _)))
  · intro hmem
    dsimp only
    refine wpAny_pure ?_
    have := h false s.heap xs (Heap.SameBut.refl a s.heap) ⟨es, ep, t, T, hroom⟩ (fun q hq => .inl hq) (fun k' => ⟨.inl, fun z => z.elim id fun e => e ▸ hmem⟩)
    exact this
  · intro hmem n he hbef
    dsimp only
    refine wpAny_bind (wpAny_setState_of T.o rfl T.fits ?_)
    dsimp only
    rw [put_eq T.tb.d]
    dsimp only
    rw [if_pos T.pl]
    refine wpAny_bind (by_value hb ?_)
    rw [if_pos rfl]
    have hlen : (es.toList.map (·.1)).length = xs.length := by rw [List.length_map, Array.length_toList, T.size]
    have hm1 : xs.length + 1 ≤ t.mask := by
      have : 7 ≤ t.mask := by rcases T.tb.m with z | z | z | z | z | z <;> (first | lia | omega)
      (first | lia | omega)
    have tb' := T.tb.put (hv := tupleKeyHash (intKind prog w) k) (n := n) (by rw [hlen]; exact hm1) he hbef (at_in _ _ _)
    generalize ej : (nth t.mask n (st0 t.mask (tupleKeyHash (intKind prog w) k))).j = j at tb' ⊢
    have hpp : below t.place j ≤ xs.length := by
      have := below_le T.tb.u j
      rw [T.tb.sz, hlen] at this
      exact this
    generalize below t.place j = p at tb' hpp ⊢
    have eE : (insertAt es p (tupleKeyHash (intKind prog w) k, Value.ref b)).toList = (xs.take p ++ (k, b) :: xs.drop p).map (ent prog w) := by
      rw [insertAt_list, T.e, List.map_append, List.map_cons, List.map_take, List.map_drop]
      rfl
    have eH : (insertAt es p (tupleKeyHash (intKind prog w) k, Value.ref b)).toList.map (·.1) = (es.toList.map (·.1)).take p ++ tupleKeyHash (intKind prog w) k :: (es.toList.map (·.1)).drop p := by
      rw [insertAt_list, List.map_append, List.map_cons, List.map_take, List.map_drop]
    have pm := ins_perm xs p (k, b)
    have hnd : ((xs.take p ++ (k, b) :: xs.drop p).map (·.1)).Nodup := List.Perm.nodup ((pm.map (·.1)).symm) (by rw [List.map_cons]; exact List.nodup_cons.mpr ⟨hmem, T.n⟩)
    have hP : ∀ q ∈ xs.take p ++ (k, b) :: xs.drop p, P q.1 := fun q hq => by
      rcases List.mem_cons.mp (pm.mem_iff.mp hq) with rfl | hq
      · exact hp
      · exact T.p q hq
    have hL : (xs.take p ++ (k, b) :: xs.drop p).length = xs.length + 1 := by rw [pm.length_eq, List.length_cons]
    have hbd : xs.length + 1 ≤ 4914 := by
      have := hB _ hnd fun x hx => by
        obtain ⟨q, hq, rfl⟩ := List.mem_map.mp hx
        exact hP q hq
      rw [List.length_map, hL] at this
      exact this
    have T1 := T.store (es' := insertAt es p (tupleKeyHash (intKind prog w) k, Value.ref b)) (t' := { t with place := insertAt t.place p j }) eE (fun q hq => by
      rcases List.mem_cons.mp (pm.mem_iff.mp hq) with rfl | hq
      · exact hb
      · exact T.k q hq) hnd hP (by rw [eH]; exact tb') T.pl T.ld
    have memq : ∀ q, q ∈ xs.take p ++ (k, b) :: xs.drop p → q ∈ xs ∨ q = (k, b) := fun q hq => (List.mem_cons.mp (pm.mem_iff.mp hq)).symm
    have memk : ∀ k', k' ∈ (xs.take p ++ (k, b) :: xs.drop p).map (·.1) ↔ k' ∈ xs.map (·.1) ∨ k' = k := fun k' => by
      rw [(pm.map (·.1)).mem_iff, List.map_cons, List.mem_cons]
      exact Or.comm
    have hes : (insertAt es p (tupleKeyHash (intKind prog w) k, Value.ref b)).size = xs.length + 1 := by
      rw [← Array.length_toList, eE, List.length_map, hL]
    refine wpAny_bind (wpAny_storeSet_of T.o rfl ?_ (by rw [hes, sizeLine_eq]; (first | lia | omega)))
    have hfill : ({ t with place := insertAt t.place p j } : SetTable).tooFull = decide ((xs.length + 1) * 5 ≥ t.mask * 3) := by
      have e1 := tb'.sz
      have e2 : (insertAt t.place p j).size = xs.length + 1 := by
        rw [← eH, List.length_map, Array.length_toList, hes] at e1
        exact e1
      show decide (((insertAt t.place p j).size + t.dummies.size) * 5 ≥ t.mask * 3) = _
      rw [e2, T.tb.d]
      rfl
    rw [Bool.not_false, Bool.true_and, hfill]
    by_cases z : (xs.length + 1) * 5 ≥ t.mask * 3
    · rw [decide_eq_true z, if_pos rfl]
      obtain ⟨g1, g2, g3, g4⟩ := grow T.tb.m hroom z hbd
      rw [← T.size] at g1 g2 g3 g4
      refine wpAny_bind (relay_tu (s := { s with heap := s.heap.update a (Obj.putSet (insertAt es p (tupleKeyHash (intKind prog w) k, Value.ref b)) { t with place := insertAt t.place p j }) }) T1 (n := es.size + 1) (by rw [hL, T.size]) g1 g2 g3 g4 fun h' xs' sb S' px => wpAny_pure ?_)
      exact h true h' xs' ((Heap.SameBut.update s.heap a _).trans sb) S' (fun q hq => memq q (px.mem_iff.mp hq)) (fun k' => by rw [(px.map (·.1)).mem_iff]; exact memk k')
    · rw [decide_eq_false z, if_neg Bool.false_ne_true]
      refine wpAny_pure (h true _ _ (Heap.SameBut.update s.heap a _) ⟨_, _, _, T1, ?_⟩ memq memk)
      rw [hL]
      show (xs.length + 1) * 5 < t.mask * 3
      (first | lia | omega)
end
end SetT
namespace SetT
open PySem PySem.SetTable PyProof.Rows
section
variable {prog : Program} {w : World} {A : Around} {E : Value → Shared → Prop} {s : Shared} {R : Result → Shared → Prop} {I : Addr} {fp wr : List Addr} {G : Array GenState → Array GenState → Prop} {n : Nat} {Pv : Nat → Value → Prop} {St : Nat → Shared → Prop}
variable {P : List Int → Prop} {led : Bool}
theorem tup_move {h h' : Heap} {k : List Int} {b : Addr} (x : IsTupleKey (intKind prog w) h k b) (m : ∀ o, h.get? b = some o → h'.get? b = some o) : IsTupleKey (intKind prog w) h' k b := by
  obtain ⟨o, items, n, ho, r⟩ := x
  exact ⟨o, items, n, m o ho, r⟩
theorem SetTu.move {h h' : Heap} {a : Addr} {xs : List (List Int × Addr)} (S : SetTu prog w P led h a xs) (m : ∀ o, h.get? a = some o → h'.get? a = some o) (hk : ∀ q ∈ xs, IsTupleKey (intKind prog w) h' q.1 q.2) : SetTu prog w P led h' a xs := by
  obtain ⟨es, ep, t, T, hr⟩ := S
  exact ⟨es, ep, t, ⟨m _ T.o, T.e, hk, T.n, T.p, T.tb, T.pl, T.ld⟩, hr⟩
structure Got (val : Nat → List Int) (adr : Nat → Addr) (n i : Nat) (xs : List (List Int × Addr)) : Prop where
  k : ∀ k', k' ∈ xs.map (·.1) ↔ ∃ j, j < i ∧ val j = k'
  q : ∀ q ∈ xs, ∃ j, j < n ∧ q = (val j, adr j)
theorem upd_loop (W : WalksS prog w A.in1 I fp wr G n Pv St) (S : Addr) (hSf : S ∉ fp) (val : Nat → List Int) (adr : Nat → Addr) (hval : ∀ i v, Pv i v → v = .ref (adr i)) (hadr : ∀ i, i < n → adr i ∉ S :: wr) (hu : A.in1.units < cLine)
    (hB : ∀ l : List (List Int), l.Nodup → (∀ x ∈ l, P x) → l.length ≤ 4914) (hP : ∀ i, i < n → P (val i)) :
    ∀ (k i : Nat) (s : Shared) (xs : List (List Int × Addr)), n - i = k → i ≤ n → St i s → SetTu prog w P led s.heap S xs → (∀ j, j < n → IsTupleKey (intKind prog w) s.heap (val j) (adr j)) → Got val adr n i xs →
      (∀ s' xs', Moved (S :: wr) G s s' → SetTu prog w P led s'.heap S xs' → Got val adr n n xs' → R (.ok (.ret .none)) s') →
      codeAny (model prog w) A (.builtin "set.update.loop" ⟨[.ref S, .ref I], []⟩) R s := by
  have hSw : S ∉ wr := fun h => hSf (W.sub _ h)
  have hsub : ∀ b ∈ wr, b ∈ S :: wr := fun b hb => List.mem_cons_of_mem _ hb
  intro k
  induction k with
  | zero =>
    intro i s xs hk hi hst hS hT hG hR
    have hin : i = n := by (first | lia | omega)
    subst hin
    refine codeAny_builtin F.entry_set_update_loop ?_
    rw [Around.under_plainId F.plain_set_update_loop _]
    show wpAny _ A.in1 (pyNext (.ref I) >>= _) _ _ s
    refine wpAny_bind (W.done s _ _ hst fun s' hm => ?_)
    show wpAny _ A.in1 (ret Value.none) _ _ s'
    refine wpAny_pure (hR s' xs (hm.mono hsub) (hS.move (fun o e => hm.heap S _ hSw e) fun q hq => ?_) hG)
    obtain ⟨j, hj, rfl⟩ := hG.q q hq
    exact tup_move (hT j hj) fun o e => hm.heap _ _ (fun z => hadr j hj (hsub _ z)) e
  | succ k ih =>
    intro i s xs hk hi hst hS hT hG hR
    have hlt : i < n := by (first | lia | omega)
    refine codeAny_builtin F.entry_set_update_loop ?_
    rw [Around.under_plainId F.plain_set_update_loop _]
    show wpAny _ A.in1 (pyNext (.ref I) >>= _) _ _ s
    refine wpAny_bind (W.item i s _ _ hlt hst fun v s' hPv hst' hm => ?_)
    obtain rfl := hval i v hPv
    have hT' : ∀ j, j < n → IsTupleKey (intKind prog w) s'.heap (val j) (adr j) := fun j hj => tup_move (hT j hj) fun o e => hm.heap _ _ (fun z => hadr j hj (hsub _ z)) e
    have hS' : SetTu prog w P led s'.heap S xs := hS.move (fun o e => hm.heap S _ hSw e) fun q hq => by
      obtain ⟨j, hj, rfl⟩ := hG.q q hq
      exact hT' j hj
    show wpAny _ A.in1 (holding [Value.ref (adr i)] (setAdd S (.ref (adr i))) >>= _) _ _ s'
    refine wpAny_bind (wpAny_holding ?_)
    unfold setAdd
    refine wpAny_holding ?_
    refine wpAny_bind (wpAny_pyHash_tuple hu (hT' i hlt) ?_)
    refine add_tu (s := { s' with toks := s'.toks + ((val i).length + 1) }) hu hB hS' (hT' i hlt) (hP i hlt) fun r h' xs' hsb hS2 hq2 hk2 => ?_
    have hG' : Got val adr n (i + 1) xs' := by
      refine ⟨fun k' => ?_, fun q hq => ?_⟩
      · rw [hk2, hG.k]
        constructor
        · rintro (⟨j, hj, e⟩ | e)
          · exact ⟨j, by (first | lia | omega), e⟩
          · exact ⟨i, by (first | lia | omega), e.symm⟩
        · rintro ⟨j, hj, e⟩
          by_cases z : j = i
          · subst z; exact .inr e.symm
          · exact .inl ⟨j, by (first | lia | omega), e⟩
      · rcases hq2 q hq with z | z
        · exact hG.q q z
        · exact ⟨i, hlt, z⟩
    have hT2 : ∀ j, j < n → IsTupleKey (intKind prog w) h' (val j) (adr j) := fun j hj => tup_move (hT' j hj) fun o e => by
      rw [hsb.2 _ (fun z => hadr j hj (z ▸ List.mem_cons_self))]; exact e
    refine wpAny_pure ⟨plainId_quiet F.plain_set_update_loop _, ih (i + 1) _ xs' (by (first | lia | omega)) hlt (W.frame _ s' _ _ hst' (Nat.le_add_right _ _) fun b hb o e => ?_) hS2 hT2 hG' fun s'' xs'' hm'' hS'' hG'' => ?_⟩
    · rw [hsb.2 b (fun h : b = S => hSf (by rw [← h]; exact hb))]; exact e
    · refine hR s'' xs'' (Moved.trans W.gtrans ((hm.mono hsub).then_heap (Nat.le_add_right _ _) fun b o hb e => ?_) hm'') hS'' hG''
      rw [hsb.2 b (fun h : b = S => hb (by rw [h]; exact List.mem_cons_self))]; exact e
end
section
variable {prog : Program} {w : World} {A : Around} {E : Value → Shared → Prop} {s : Shared} {P : List Int → Prop}
noncomputable def ledOf (w : World) : Bool := !w.params.followText "set-order"
noncomputable def setO (led : Bool) : Obj := { cls := .type "set", dict := none, data := .set #[] 0 (.fresh 0 0 led) }
theorem set_new (x : Value) {Q₁ : Value → Shared → Prop} (h : Q₁ (.ref s.heap.objs.size) { s with heap := s.heap.push (setO (ledOf w)) }) :
    codeAny (model prog w) A (.call (.builtin "set.__new__") ⟨[.type "set", x], []⟩) (wants Q₁ E) s := by
  refine codeAny_of_tree ?_
  show wpAny _ A.in1 (do checkBuiltinCall "set.__new__" ⟨[.type "set", x], []⟩; again (.builtin "set.__new__" ⟨[.type "set", x], []⟩)) _ _ s
  refine wpAny_bind (wpAny_of_eq (F.newCall_set_1 x) (wpAny_pure ⟨plainId_quiet F.plain_set_new _, codeAny_builtin F.entry_set_new ?_⟩))
  rw [Around.under_plainId F.plain_set_new _]
  unfold Builtin.«set.__new__» Builtin.Frozenset.newClass
  have hsub := sub_set_self
  obtain ⟨hp, g, d, tk, os⟩ := s
  dsimp only
  wp_walk
  refine wpAny_askSetting (wpAny_pure ?_)
  dsimp only
  simp only [newObj]
  refine wpAny_bind (wpAny_alloc (wpAny_pure ?_))
  exact wpAny_pure h
theorem SetTu.fresh {h : Heap} {led : Bool} : SetTu prog w P led (h.push (setO led)) h.objs.size [] := by
  refine ⟨#[], 0, .fresh 0 0 led, ⟨Heap.get?_push_size _ rfl, rfl, fun q hq => absurd hq (by simp), List.nodup_nil, fun q hq => absurd hq (by simp), ⟨.inl rfl, rfl, rfl, Nat.zero_le _, fun i j hi => absurd hi (by show ¬ i < 0; (first | lia | omega)), fun q hq => absurd hq (by simp), fun j hj => absurd hj (by show ¬ j ∈ []; simp)⟩, rfl, rfl⟩, by show 0 * 5 < 7 * 3; decide⟩
set_option maxRecDepth 100000 in
set_option maxHeartbeats 3200000 in
theorem call_set_tu {l : Addr} {items : Array Value} {val : Nat → List Int} {adr : Nat → Addr} {Q : Value → Shared → Prop}
    (hh : A.handled = none) (hu : A.units + 64 < cLine) (hl : s.heap.IsList l items) (hv : ∀ (i : Nat) (v : Value), items[i]? = some v → v = Value.ref (adr i)) (hk : ∀ i, i < items.size → IsTupleKey (intKind prog w) s.heap (val i) (adr i))
    (hB : ∀ l : List (List Int), l.Nodup → (∀ x ∈ l, P x) → l.length ≤ 4914) (hP : ∀ i, i < items.size → P (val i))
    (h : ∀ (h' : Heap) (tk : Nat) (xs : List (List Int × Addr)), SetTu prog w P (ledOf w) h' s.heap.objs.size xs → Got val adr items.size items.size xs →
      (∀ b o, b < s.heap.objs.size → s.heap.get? b = some o → h'.get? b = some o) → Q (.ref s.heap.objs.size) { s with heap := h', toks := tk }) :
    wpAny (model prog w) A (call (.type "set") [.ref l]) Q E s := by
  obtain ⟨c, tl, hmro⟩ := F.called_set.mro
  have hmade := F.called_set.made
  have hsub := F.called_set.sub
  refine wpAny_call (codeAny_of_tree ?_)
  show wpAny _ _ (callAny (.type "set") _) _ _ _
  refine wpAny_pure ⟨Code.quiet_builtin _ (by decide +kernel), codeAny_builtin F.entry_type_call ?_⟩
  rw [Around.under_plain (weight_type_call_type "set" [.ref l] []) rfl]
  have h1 := F.called_set.notType
  have h2 := F.called_set.canCreate
  have hct := F.typeCall_set_1 (.ref l)
  repeat (any_goals (first | assumption | wp_step))
  refine codeAny_mono (set_new (.ref l) (E := E) (Q₁ := fun obj s₁ => obj = .ref s.heap.objs.size ∧ s₁ = { s with heap := s.heap.push (setO (ledOf w)) }) ⟨rfl, rfl⟩) fun r s₁ hr => ?_
  cases r with
  | error e => exact hr
  | ok fl =>
    cases fl with
    | ret obj =>
      obtain ⟨rfl, rfl⟩ := hr
      have hS : (s.heap.push (setO (ledOf w))).get? s.heap.objs.size = some (setO (ledOf w)) := Heap.get?_push_size _ rfl
      have hT : Shared.TypeIs { s with heap := s.heap.push (setO (ledOf w)) } (.ref s.heap.objs.size) "set" := ⟨_, hS, rfl⟩
      have hli := F.called_set.init.lookup
      have hbi := F.called_set.init.bind (.ref s.heap.objs.size)
      unfold setO at hS hT ⊢
      repeat (any_goals (first | assumption | wp_step))
      refine codeAny_mono (codeAny_call_builtin (R := wants (fun r s₂ => r = .none ∧ ∃ h' tk xs, s₂ = { s with heap := h', toks := tk } ∧ SetTu prog w P (ledOf w) h' s.heap.objs.size xs ∧ Got val adr items.size items.size xs ∧
          (∀ b o, b < s.heap.objs.size → s.heap.get? b = some o → h'.get? b = some o)) E) F.called_set.init.plain F.entry_set_init (check_set_init_1 hT ?_)) fun r₂ s₂ hr₂ => ?_
      · obtain ⟨ol, hol, hcl, nl, hdl⟩ := hl
        obtain ⟨ocls, odict, odata, oslots⟩ := ol
        simp only at hcl hdl
        subst hcl; subst hdl
        have hol' : (s.heap.push { cls := .type "set", dict := none, data := .set #[] 0 (.fresh 0 0 (ledOf w)) }).get? l = some { cls := .type "list", dict := odict, data := .seq items nl, slots := oslots } := Heap.get?_push_of_some _ hol
        have hsls := F.sub_list_set
        have hslf := F.sub_list_frozenset
        have hne : (Value.type "list" == Value.type "dict") = false := by decide
        have hl1 : (s.heap.push { cls := .type "set", dict := none, data := .set #[] 0 (.fresh 0 0 (ledOf w)) }).IsList l items := ⟨_, hol', rfl, nl, rfl⟩
        unfold Builtin.«set.__init__» noKeywords Builtin.Frozenset.updateFrom
        generalize hPI : pyIter = PI
        wp_walk
        subst hPI
        refine wpAny_pyIter_list hl1 ?_
        refine wpAny_bind (wpAny_runValue ?_)
        have hlS : l < s.heap.objs.size := Heap.lt_size hol
        have hh3 : A.in1.in1.in1.handled = none := by simp [hh]
        have hneI : l ≠ (s.heap.push { cls := .type "set", dict := none, data := .set #[] 0 (.fresh 0 0 (ledOf w)) }).objs.size := by
          rw [Heap.size_push]; exact Nat.ne_of_lt (Nat.lt_succ_of_lt hlS)
        have hSf : s.heap.objs.size ∉ [(s.heap.push { cls := .type "set", dict := none, data := .set #[] 0 (.fresh 0 0 (ledOf w)) }).objs.size, l] := by
          rw [Heap.size_push]; simp only [List.mem_cons, List.mem_singleton, List.not_mem_nil, or_false, not_or]
          exact ⟨Nat.ne_of_lt (Nat.lt_succ_self _), Nat.ne_of_gt hlS⟩
        have hlt : ∀ i, i < items.size → adr i < s.heap.objs.size := fun i hi => by
          obtain ⟨o, _, _, ho, _⟩ := hk i hi
          exact Heap.lt_size ho
        refine upd_loop (P := P) (led := ledOf w) ((Walks.list hh3 _ l hneI items).toS) s.heap.objs.size hSf val adr hv (fun i hi => ?hA) ?hU hB hP (items.size - 0) 0 _ [] (by (first | lia | omega)) (Nat.zero_le _)
          ⟨⟨_, Heap.get?_push_size _ rfl, rfl, rfl⟩, (hl1.push _)⟩ ?hS0 ?hK ⟨fun k' => ⟨fun z => absurd z (by simp), fun ⟨j, hj, _⟩ => absurd hj (Nat.not_lt_zero _)⟩, fun q hq => absurd hq (by simp)⟩ ?hR
        case hA =>
          have := hlt i hi
          rw [Heap.size_push]
          simp only [List.mem_cons, List.not_mem_nil, or_false, not_or]
          exact ⟨Nat.ne_of_lt this, Nat.ne_of_lt (Nat.lt_succ_of_lt this)⟩
        case hU =>
          show A.units + 1 + 1 + 1 < cLine
          (first | lia | omega)
        case hS0 =>
          exact SetTu.move (h := s.heap.push (setO (ledOf w))) SetTu.fresh (fun o e => Heap.get?_push_of_some _ e) (fun q hq => absurd hq (by simp))
        case hK =>
          exact fun j hj => tup_move (hk j hj) fun o e => Heap.get?_push_of_some _ (Heap.get?_push_of_some _ e)
        case hR =>
          intro s' xs' hm hS' hG'
          obtain ⟨h', g', d', tk', os'⟩ := s'
          have eg : g' = s.gens := hm.gens
          have ed : d' = s.drawn := hm.drawn
          have eo : os' = s.os := hm.os
          subst eg; subst ed; subst eo
          show wpAny _ _ _ _ _ _
          refine wpAny_pure ?_
          show wpAny _ _ (ret Value.none) _ _ _
          refine wpAny_pure ⟨rfl, h', tk', xs', rfl, hS', hG', fun b o hb e => ?_⟩
          have hb1 : b ≠ s.heap.objs.size := Nat.ne_of_lt hb
          have hb2 : b ≠ (s.heap.push { cls := .type "set", dict := none, data := .set #[] 0 (.fresh 0 0 (ledOf w)) }).objs.size := by
            rw [Heap.size_push]; exact Nat.ne_of_lt (Nat.lt_succ_of_lt hb)
          exact hm.heap b o (by simp only [List.mem_cons, List.mem_singleton, List.not_mem_nil, or_false, not_or]; exact ⟨hb1, hb2⟩) (Heap.get?_push_of_some _ (Heap.get?_push_of_some _ e))
      · cases r₂ with
        | error e => exact hr₂
        | ok fl₂ =>
          cases fl₂ with
          | ret r =>
            obtain ⟨rfl, h', tk, xs, rfl, hS', hG', hk'⟩ := hr₂
            repeat (any_goals (first | assumption | wp_step))
            exact h _ _ xs hS' hG' hk'
          | _ => exact hr₂.elim
    | _ => exact hr.elim
end
end SetT
namespace SetT
open PySem PySem.SetTable PyProof.Rows
theorem pick_go {α : Type} (next : Nat → Nat) : ∀ (fuel k : Nat) (left : List α) (out : Array α), left.length ≤ fuel → (pickOrder.go next fuel k left out).toList.Perm (out.toList ++ left)
  | 0, k, left, out, h => by
    have : left = [] := List.eq_nil_of_length_eq_zero (by (first | lia | omega))
    subst this
    rw [List.append_nil]
    exact List.Perm.refl _
  | fuel + 1, k, left, out, h => by
    unfold pickOrder.go
    cases e : left[next k % left.length]? with
    | none =>
      dsimp only
      have hl : left = [] := by
        cases left with
        | nil => rfl
        | cons x l =>
          rw [List.getElem?_eq_getElem (Nat.mod_lt _ (by simp))] at e
          cases e
      subst hl
      rw [List.append_nil]
    | some x =>
      dsimp only
      obtain ⟨hi, ex⟩ := List.getElem?_eq_some_iff.mp e
      refine (pick_go next fuel (k + 1) _ _ (by rw [List.length_eraseIdx_of_lt hi]; (first | lia | omega))).trans ?_
      rw [Array.toList_push, List.append_assoc]
      refine List.Perm.append_left _ ?_
      rw [List.eraseIdx_eq_take_drop_succ, ← ex]
      refine List.Perm.trans (List.perm_middle (a := left[next k % left.length]) (l₁ := left.take (next k % left.length)) (l₂ := left.drop (next k % left.length + 1))).symm (List.Perm.of_eq ?_)
      rw [← List.drop_eq_getElem_cons hi, List.take_append_drop]
theorem pick_perm {α : Type} (next : Nat → Nat) (xs : Array α) : (pickOrder next xs).toList.Perm xs.toList := pick_go next xs.size 0 xs.toList #[] (by rw [Array.length_toList]; exact Nat.le_refl _)
noncomputable def ordOf (w : World) (a : Addr) (ep : Nat) (es : Array (Int × Value)) : Array (Int × Value) := if ledOf w then es else pickOrder (w.params.setOrder a ep) es
theorem ordOf_perm (w : World) (a : Addr) (ep : Nat) (es : Array (Int × Value)) : (ordOf w a ep es).toList.Perm es.toList := by
  unfold ordOf
  split
  · exact List.Perm.refl _
  · exact pick_perm _ _
theorem ordOf_size (w : World) (a : Addr) (ep : Nat) (es : Array (Int × Value)) : (ordOf w a ep es).size = es.size := by
  rw [← Array.length_toList, (ordOf_perm w a ep es).length_eq, Array.length_toList]
theorem setNext_eq (a : Addr) (slot given epochThen : Nat) : setNext a slot given epochThen = (do
    let (es, epoch, t) ← setState a
    if ← setsByText then
      if epoch != epochThen then unsupported "set_iterator.__next__:elements-changed"
      return ((← setWalk a)[given]?).map fun e => (e.2, slot)
    if !t.plain && es.size > 1 then unsupported "set_iterator.__next__:the-table-is-plain-no-more"
    (if (!t.led && !es.isEmpty) = true then unsupported "set:maker-not-led" else pure () : Sem Unit)
    let i := SetTable.below t.place slot
    return match es[i]?, t.place[i]? with
      | some (_, x), some j => some (x, j + 1)
      | _, _ => none) := rfl
section
variable {prog : Program} {w : World} {A : Around} {E : Value → Shared → Prop} {s : Shared} {P : List Int → Prop} {a : Addr} {xs : List (List Int × Addr)} {es : Array (Int × Value)} {ep : Nat} {t : SetTable}
theorem byText {Q : Bool → Shared → Prop} (h : Q (!ledOf w) s) : wpAny (model prog w) A setsByText Q E s := by
  unfold setsByText
  refine wpAny_bind (wpAny_askSetting (wpAny_pure ?_))
  unfold ledOf at h
  rw [Bool.not_not] at h
  exact h
noncomputable def Far (w : World) (t : SetTable) (slot i : Nat) : Prop := ledOf w = true → below t.place slot = i
structure Wk (w : World) (es : Array (Int × Value)) (t : SetTable) : Prop where
  tb : Tb t (es.toList.map (·.1))
  pl : t.plain = true
  ld : t.led = ledOf w
theorem Wk.fits (T : Wk w es t) : t.fits es.size = true := by
  have h1 := T.tb.sz
  have h2 := T.tb.le
  have h3 := T.tb.d
  rw [List.length_map, Array.length_toList] at h1 h2
  unfold SetTable.fits SetTable.fill
  rw [h1, h3]
  simp
  (first | lia | omega)
theorem Tu.wk (T : Tu prog w P (ledOf w) s.heap a xs es ep t) : Wk w es t := ⟨T.tb, T.pl, T.ld⟩
noncomputable def stO (es : Array (Int × Value)) (ep : Nat) (t : SetTable) : Obj := { cls := .type "set", dict := none, data := .set es ep t }
theorem next_tu (T : Wk w es t) (ho : s.heap.get? a = some (stO es ep t)) {slot i : Nat} (hf : Far w t slot i) {Q : Option (Value × Nat) → Shared → Prop}
    (h1 : ∀ (hi : i < (ordOf w a ep es).size) next, Far w t next (i + 1) → Q (some ((ordOf w a ep es)[i].2, next)) s) (h2 : es.size ≤ i → Q none s) : wpAny (model prog w) A (setNext a slot i ep) Q E s := by
  rw [setNext_eq]
  refine wpAny_bind (wpAny_setState_of ho rfl T.fits ?_)
  dsimp only
  refine wpAny_bind (byText ?_)
  have hsz := ordOf_size w a ep es
  by_cases z : ledOf w = true
  · rw [z, Bool.not_true, if_neg Bool.false_ne_true, T.pl, Bool.not_true, Bool.false_and, if_neg Bool.false_ne_true, T.ld, z, Bool.not_true, Bool.false_and, if_neg Bool.false_ne_true]
    refine wpAny_bind (wpAny_pure ?_)
    have eo : ordOf w a ep es = es := by unfold ordOf; rw [if_pos z]
    have hps : t.place.size = es.size := by rw [T.tb.sz, List.length_map, Array.length_toList]
    rw [hf z]
    rcases Nat.lt_or_ge i es.size with hi | hi
    · rw [Array.getElem?_eq_getElem hi, Array.getElem?_eq_getElem (by rw [hps]; exact hi)]
      dsimp only
      have := h1 (by rw [hsz]; exact hi) (t.place[i]'(by rw [hps]; exact hi) + 1) fun _ => by
        have hip : i < t.place.size := by rw [hps]; exact hi
        have hb := below_le T.tb.u (t.place[i] + 1)
        apply Nat.le_antisymm
        · apply Nat.le_of_not_lt
          intro zz
          have hs : i + 1 < t.place.size := by (first | lia | omega)
          have a1 := below_lt T.tb.u (t.place[i] + 1) hs zz
          have a2 := T.tb.u i (i + 1) hip hs (Nat.lt_succ_self _)
          (first | lia | omega)
        · apply Nat.le_of_not_lt
          intro zz
          have a1 := below_ge T.tb.u (t.place[i] + 1) hip (by (first | lia | omega))
          (first | lia | omega)
      simp only [eo] at this
      exact wpAny_pure this
    · rw [Array.getElem?_eq_none hi]
      exact wpAny_pure (h2 hi)
  · rw [Bool.eq_false_iff.mpr z, Bool.not_false, if_pos rfl]
    rw [if_neg (by simp)]
    unfold setWalk
    have eo : ordOf w a ep es = pickOrder (w.params.setOrder a ep) es := by unfold ordOf; rw [if_neg z]
    refine wpAny_bind (wpAny_bind (wpAny_setState_of ho rfl T.fits ?_))
    dsimp only
    refine wpAny_bind (byText ?_)
    rw [Bool.eq_false_iff.mpr z, Bool.not_false, if_pos rfl]
    refine wpAny_bind (wpAny_askSetting (wpAny_pure ?_))
    show wpAny _ _ (pure (((pickOrder (w.params.setOrder a ep) es)[i]?).map fun e => (e.2, slot))) _ _ _
    rw [← eo]
    rcases Nat.lt_or_ge i es.size with hi | hi
    · have hi' : i < (ordOf w a ep es).size := by rw [hsz]; exact hi
      rw [Array.getElem?_eq_getElem hi']
      exact wpAny_pure (h1 hi' slot fun zz => absurd zz z)
    · rw [Array.getElem?_eq_none (by rw [hsz]; exact hi)]
      exact wpAny_pure (h2 hi)
theorem slot_si_next : Slot "set_iterator" "__next__" "set_iterator.__next__" :=
  .of (owner := "set_iterator") (n := "__next__") (by rw [typeLookup_type, builtinLookup_eq_fast]; kernel_rfl) (by decide +kernel) (by decide +kernel) (by decide +kernel)
    (by first | exact .inl (by decide +kernel) | exact .inr (by decide +kernel)) (by rw [isSubtype_type]; kernel_rfl)
theorem slot_si_iter : Slot "set_iterator" "__iter__" "set_iterator.__iter__" :=
  .of (owner := "set_iterator") (n := "__iter__") (by rw [typeLookup_type, builtinLookup_eq_fast]; kernel_rfl) (by decide +kernel) (by decide +kernel) (by decide +kernel)
    (by first | exact .inl (by decide +kernel) | exact .inr (by decide +kernel)) (by rw [isSubtype_type]; kernel_rfl)
theorem entry_si_next : entryFor table "set_iterator.__next__" = some Builtin.«set_iterator.__next__» := entryFor_of_fast (by kernel_rfl)
theorem entry_si_iter : entryFor table "set_iterator.__iter__" = some Builtin.«dict_keyiterator.__iter__» :=
  entryFor_alias (id' := "dict_keyiterator.__iter__") (by kernel_rfl) rfl (by decide +kernel) (by kernel_rfl)
theorem args_si_next (x : Value) : argsOk "set_iterator.__next__" ⟨[x], []⟩ := by unfold argsOk; kernel_rfl
theorem args_si_iter (x : Value) : argsOk "set_iterator.__iter__" ⟨[x], []⟩ := by unfold argsOk; kernel_rfl
theorem entry_st_iter : entryFor table "set.__iter__" = some Builtin.«frozenset.__iter__» :=
  entryFor_alias (id' := "frozenset.__iter__") (by kernel_rfl) rfl (by decide +kernel) (by kernel_rfl)
noncomputable def itO (slot i : Nat) (a : Addr) (n ep : Nat) : Obj := { cls := .type "set_iterator", dict := none, data := .fields #[.int slot 0, .int i 0, .ref a, .int n 0, .int ep 0] }
theorem setDrawn_eq (a : Addr) : setDrawn a = (do
    let (es, _, t) ← setState a
    let byText ← setsByText
    return !byText && (!t.plain && es.size > 1)) := rfl
theorem wpAny_setEntries {M : Model} {Q : Array (Int × Value) → Shared → Prop} (T : Wk w es t) (ho : s.heap.get? a = some (stO es ep t)) (h : Q es s) : wpAny (model prog w) A (setEntries a) Q E s := by
  unfold setEntries
  exact wpAny_bind (wpAny_setState_of ho rfl T.fits (wpAny_pure h))
theorem iter_tu (T : Wk w es t) (ho : s.heap.get? a = some (stO es ep t)) {Q : Value → Shared → Prop} (h : Q (.ref s.heap.objs.size) { s with heap := s.heap.push (itO 0 0 a es.size ep) }) : wpAny (model prog w) A (pyIter (.ref a)) Q E s := by
  have hT : s.TypeIs (.ref a) "set" := ⟨_, ho, rfl⟩
  refine wpAny_pyIter_slot hT F.slot_set_iter (wpAny_call_entry F.slot_set_iter hT entry_st_iter ?_ (F.args_set_iter_1 _))
  unfold Builtin.«frozenset.__iter__» Builtin.Frozenset.slot0 slotArgs
  simp only [List.isEmpty_nil, Bool.not_true, Bool.false_eq_true, ↓reduceIte, bind_assoc, List.length_nil, bne_self_eq_false]
  unfold Builtin.Frozenset.addrOf Builtin.Frozenset.sizeOf
  refine wpAny_bind (wpAny_pure ?_)
  dsimp only
  refine wpAny_bind (wpAny_pure ?_)
  refine wpAny_bind (wpAny_bind (wpAny_setEntries (M := model prog w) T ho (wpAny_pure ?_)))
  rw [setDrawn_eq]
  refine wpAny_bind (wpAny_bind (wpAny_setState_of ho rfl T.fits ?_))
  dsimp only
  refine wpAny_bind (byText (wpAny_pure ?_))
  rw [T.pl, Bool.not_true, Bool.false_and, Bool.and_false, if_neg Bool.false_ne_true]
  refine wpAny_bind (wpAny_pure ?_)
  refine wpAny_bind (wpAny_setEpoch_of ho rfl T.fits ?_)
  refine wpAny_bind (wpAny_newObj_type (wpAny_pure ⟨_, rfl, "set_iterator", _, ⟨_, Heap.get?_push_size _ rfl, rfl⟩, slot_si_next.lookup, ?_⟩))
  exact h
theorem nextI (T : Wk w es t) (ho : s.heap.get? a = some (stO es ep t)) {I : Addr} {slot i : Nat} (hI : s.heap.get? I = some (itO slot i a es.size ep)) (hf : Far w t slot i) (hi : i < (ordOf w a ep es).size) {Q : Option Value → Shared → Prop}
    (h : ∀ h' slot', h'.get? I = some (itO slot' (i + 1) a es.size ep) → Far w t slot' (i + 1) → Heap.SameBut I s.heap h' → Q (some (ordOf w a ep es)[i].2) { s with heap := h' }) : wpAny (model prog w) A (pyNext (.ref I)) Q E s := by
  have hT : s.TypeIs (.ref I) "set_iterator" := ⟨_, hI, rfl⟩
  unfold pyNext
  refine wpAny_bind (wpAny_attempt (wpAny_callSpecial?_slot (name := Str.ofString "__next__") hT slot_si_next
    (wpAny_call_entry slot_si_next hT entry_si_next ?_ (args_si_next _))))
  unfold Builtin.«set_iterator.__next__» slotArgs
  simp only [List.isEmpty_nil, Bool.not_true, Bool.false_eq_true, ↓reduceIte, bind_assoc, List.length_nil, bne_self_eq_false]
  refine wpAny_bind (wpAny_pure ?_)
  refine wpAny_bind (wpAny_fieldsOf hI rfl ?_)
  dsimp only
  refine wpAny_bind (wpAny_setEntries (M := model prog w) T ho ?_)
  rw [if_neg (by simp)]
  refine wpAny_bind (next_tu T ho (slot := slot) (i := i) hf ?_ ?_)
  · intro hi' next hfar
    dsimp only
    refine wpAny_bind (wpAny_setField_rec hI (by simp) fun h1 g1 sb1 => ?_)
    refine wpAny_bind (wpAny_setField_rec g1 (by simp) fun h2 g2 sb2 => wpAny_pure ⟨_, rfl, wpAny_pure (h h2 next ?_ hfar (sb1.trans sb2))⟩)
    rw [g2]
    simp [itO, rawInt]
  · intro hge
    rw [ordOf_size] at hi
    (first | lia | omega)
end
end SetT
namespace SetT
open PySem PySem.SetTable PyProof.Rows
section
variable {prog : Program} {w : World} {A : Around} {E : Value → Shared → Prop} {s : Shared} {a : Addr} {es : Array (Int × Value)} {ep : Nat} {t : SetTable}
theorem endI (hh : A.handled = none) (T : Wk w es t) (ho : s.heap.get? a = some (stO es ep t)) {I : Addr} {slot i : Nat} (hI : s.heap.get? I = some (itO slot i a es.size ep)) (hf : Far w t slot i) (hi : es.size ≤ i) {Q : Option Value → Shared → Prop}
    (h : ∀ h', Heap.ExtBut I s.heap h' → Q none { s with heap := h' }) : wpAny (model prog w) A (pyNext (.ref I)) Q E s := by
  have hT : s.TypeIs (.ref I) "set_iterator" := ⟨_, hI, rfl⟩
  unfold pyNext
  refine wpAny_bind (wpAny_attempt (wpAny_callSpecial?_slot (name := Str.ofString "__next__") hT slot_si_next
    (wpAny_call_entry slot_si_next hT entry_si_next ?_ (args_si_next _))))
  unfold Builtin.«set_iterator.__next__» slotArgs
  simp only [List.isEmpty_nil, Bool.not_true, Bool.false_eq_true, ↓reduceIte, bind_assoc, List.length_nil, bne_self_eq_false]
  refine wpAny_bind (wpAny_pure ?_)
  refine wpAny_bind (wpAny_fieldsOf hI rfl ?_)
  dsimp only
  refine wpAny_bind (wpAny_setEntries (M := model prog w) T ho ?_)
  rw [if_neg (by simp)]
  refine wpAny_bind (next_tu T ho (slot := slot) (i := i) hf ?_ ?_)
  · intro hi' next hfar
    rw [ordOf_size] at hi'
    (first | lia | omega)
  · intro _
    dsimp only
    refine wpAny_bind (wpAny_setField hI rfl (by simp) ?_)
    show wpAny _ _ (newExc (.type "StopIteration") [] >>= _) _ _ _
    refine wpAny_bind ?_
    simp only [newExc, newTuple]
    refine wpAny_bind (wpAny_newObj_type ?_ (by size_fits))
    refine wpAny_bind (m := firstArgMember _ _) (wpAny_of_eq (a := Value.none) (by first | rfl | (simp only [firstArgMember]; rfl)) ?_)
    refine wpAny_newObj_type ?_ (by size_fits)
    simp only [raiseNew]
    refine wpAny_bind (wpAny_handled ?_)
    rw [show A.in1.handled = none from hh]
    refine wpAny_bind (wpAny_pure (wpAny_throw ?_))
    refine wpAny_bind (wpAny_isInstance (T := "StopIteration") (b := true) ⟨_, Heap.get?_push_size _ rfl, rfl⟩ isSubtype_stop ?_)
    exact wpAny_pure (h _ (((Heap.SameBut.update ..).extBut.push _).push _))
theorem walk_set (hh : A.handled = none) (T : Wk w es t) {I : Addr} (hne : a ≠ I) :
    Walks prog w A I [I, a] [I] es.size (fun i v => ∃ e, (ordOf w a ep es)[i]? = some e ∧ v = e.2) (fun i h => (∃ slot, Far w t slot i ∧ h.get? I = some (itO slot i a es.size ep)) ∧ h.get? a = some (stO es ep t)) where
  sub := fun b hb => by simp at hb; simp [hb]
  frame := fun _ _ _ st hk => ⟨let ⟨sl, f, e⟩ := st.1; ⟨sl, f, hk I (by simp) _ e⟩, hk a (by simp) _ st.2⟩
  item := fun i s Q E hi st hQ => by
    obtain ⟨⟨sl, f, e⟩, ho⟩ := st
    have hi' : i < (ordOf w a ep es).size := by rw [ordOf_size]; exact hi
    refine nextI T ho e f hi' fun h' sl' e' f' sb => ?_
    exact hQ _ h' s.toks ⟨_, Array.getElem?_eq_getElem hi', rfl⟩ ⟨⟨sl', f', e'⟩, by rw [sb.2 a hne]; exact ho⟩ fun b o hb e => sb.extBut b o (fun h => hb (by simp [h])) e
  done := fun s Q E st hQ => by
    obtain ⟨⟨sl, f, e⟩, ho⟩ := st
    exact endI hh T ho e f (Nat.le_refl _) fun h' he' => hQ h' s.toks fun b o hb e => he' b o (fun h => hb (by simp [h])) e
  self := fun i s Q E st hQ => by
    obtain ⟨⟨sl, f, e⟩, ho⟩ := st
    have hT : s.TypeIs (.ref I) "set_iterator" := ⟨_, e, rfl⟩
    refine wpAny_pyIter_slot hT slot_si_iter (wpAny_call_entry slot_si_iter hT entry_si_iter ?_ (args_si_iter _))
    show wpAny _ _ (ret (.ref I)) _ _ s
    exact wpAny_pure ⟨_, rfl, "set_iterator", _, hT, slot_si_next.lookup, hQ⟩
theorem collect_set (hh : A.handled = none) (T : Wk w es t) (ho : s.heap.get? a = some (stO es ep t)) (hn : es.size ≤ 4914) {Q : List Value → Shared → Prop}
    (h : ∀ h' tk vs, vs.Perm (es.toList.map (·.2)) → (∀ b o, s.heap.get? b = some o → h'.get? b = some o) → Q vs { s with heap := h', toks := tk }) : wpAny (model prog w) A (collect (.ref a)) Q E s := by
  have hal : a < s.heap.objs.size := Heap.lt_size ho
  unfold collect
  refine wpAny_bind (wpAny_runValue (codeAny_builtin F.entry_proto_collect ?_))
  rw [Around.under_plainId F.plain_proto_collect _]
  show wpAny _ A.in1 (newList [] >>= fun l => again (.builtin "list.__iadd__" ⟨[l, .ref a], []⟩)) _ _ s
  refine wpAny_bind (wpAny_newObj_type ?_)
  refine wpAny_pure ⟨plainId_quiet F.plain_list_iadd _, codeAny_builtin F.entry_list_iadd ?_⟩
  rw [Around.under_plainId F.plain_list_iadd _]
  have hS₁ : (s.heap.push { cls := .type "list", data := .seq ([] : List Value).toArray }).get? s.heap.objs.size = some { cls := .type "list", data := .seq ([] : List Value).toArray } := Heap.get?_push_size _ rfl
  have ho1 : (s.heap.push { cls := .type "list", data := .seq ([] : List Value).toArray }).get? a = some (stO es ep t) := Heap.get?_push_of_some _ ho
  have hT1 : Shared.TypeIs { s with heap := s.heap.push { cls := .type "list", data := .seq ([] : List Value).toArray } } (.ref a) "set" := ⟨_, ho1, rfl⟩
  have h1 : Builtin.List.listSameRef (.ref s.heap.objs.size) (.ref a) = false := by
    have : s.heap.objs.size ≠ a := Nat.ne_of_gt hal
    simp [Builtin.List.listSameRef, this]
  show wpAny _ A.in1 (Builtin.List.listExtendWith (.ref s.heap.objs.size) (.ref a) (.ref s.heap.objs.size)) _ _ _
  unfold Builtin.List.listExtendWith
  refine wpAny_bind (wpAny_typeOf hT1 ?_)
  rw [if_neg (by rw [h1]; decide)]
  refine wpAny_bind (iter_tu T ho1 ?_)
  refine wpAny_bind (wpAny_holding ?_)
  have hT2 : Shared.TypeIs { s with heap := (s.heap.push { cls := .type "list", data := .seq ([] : List Value).toArray }).push (itO 0 0 a es.size ep) } (.ref a) "set" := ⟨_, Heap.get?_push_of_some _ ho1, rfl⟩
  unfold Builtin.List.listLengthHint
  have hsp : splitId "set.__len__" = some ("set", "__len__") := by kernel_rfl
  refine wpAny_bind (wpAny_specialOf hT2 F.slot_set_len.lookup ?_)
  dsimp only
  rw [hsp]
  dsimp only
  refine wpAny_bind (wpAny_isInstance hT2 sub_set_self ?_)
  rw [Bool.not_true, if_neg Bool.false_ne_true]
  rw [if_pos]
  rotate_left
  · kernel_rfl
  refine wpAny_bind (wpAny_typeOf hT2 ?_)
  dsimp only
  refine wpAny_pure ?_
  rw [if_pos]
  rotate_left
  · kernel_rfl
  refine wpAny_bind (wpAny_rule ?_)
  refine wpAny_bind ?_
  have hS1 : ((s.heap.push { cls := .type "list", data := .seq ([] : List Value).toArray }).push (itO 0 0 a es.size ep)).get? s.heap.objs.size = some { cls := .type "list", data := .seq ([] : List Value).toArray } := Heap.get?_push_of_some _ hS₁
  show wpAny _ A.in1 (updateSeq s.heap.objs.size (·.push .none) >>= fun _ => updateSeq s.heap.objs.size (·.pop)) _ _ _
  refine wpAny_bind (wpAny_updateSeq hS1 rfl ?_)
  have hS₂ := Heap.get?_update_self (Obj.mapSeq (·.push Value.none)) hS1 rfl
  refine wpAny_updateSeq hS₂ rfl ?_
  have hS₃ := Heap.get?_update_self (Obj.mapSeq (·.pop)) hS₂ rfl
  have oth : ∀ b o, b ≠ s.heap.objs.size → ((s.heap.push { cls := .type "list", data := .seq ([] : List Value).toArray }).push (itO 0 0 a es.size ep)).get? b = some o →
      ((((s.heap.push { cls := .type "list", data := .seq ([] : List Value).toArray }).push (itO 0 0 a es.size ep)).update s.heap.objs.size (Obj.mapSeq (·.push Value.none))).update s.heap.objs.size (Obj.mapSeq (·.pop))).get? b = some o :=
    fun b o hb e => (Heap.get?_update_other _ _ (Ne.symm hb)).trans ((Heap.get?_update_other _ _ (Ne.symm hb)).trans e)
  have hIsz : (s.heap.push { cls := .type "list", data := .seq ([] : List Value).toArray }).objs.size = s.heap.objs.size + 1 := Heap.size_push _ _
  have hne : a ≠ (s.heap.push { cls := .type "list", data := .seq ([] : List Value).toArray }).objs.size := by rw [hIsz]; exact Nat.ne_of_lt (Nat.lt_succ_of_lt hal)
  have hSf : s.heap.objs.size ∉ [(s.heap.push { cls := .type "list", data := .seq ([] : List Value).toArray }).objs.size, a] := by
    rw [hIsz]
    simp only [List.mem_cons, List.not_mem_nil, or_false, not_or]
    exact ⟨Nat.ne_of_lt (Nat.lt_succ_self _), Nat.ne_of_gt hal⟩
  have far0 : Far w t 0 0 := fun _ => by
    rcases Nat.eq_zero_or_pos (below t.place 0) with z | z
    · exact z
    · have hb := below_le T.tb.u 0
      have := below_lt T.tb.u 0 (i := 0) (by (first | lia | omega)) z
      (first | lia | omega)
  have W := walk_set (prog := prog) (w := w) (A := A.in1) (ep := ep) (by simpa using hh) T hne
  refine wpAny_pure ⟨plainId_quiet F.plain_extend_loop _, codeAny_extend_loopS W.toS (by rw [sizeLine_eq]; (first | lia | omega)) _ hSf _ es.size 0 _ _ _ rfl (Nat.zero_le _)
    ⟨⟨0, far0, oth _ _ (by rw [hIsz]; exact Nat.ne_of_gt (Nat.lt_succ_self _)) (Heap.get?_push_size _ rfl)⟩, oth _ _ (Nat.ne_of_lt hal) (Heap.get?_push_of_some _ ho1)⟩ hS₃ (ItemsOf.nil _) fun s' acc' c' hm hS' hacc => ?_⟩
  show wpAny _ A (load s.heap.objs.size >>= _) _ _ s'
  refine wpAny_bind (wpAny_load hS' ?_)
  refine wpAny_pure ?_
  obtain ⟨h', g', d', tk', os'⟩ := s'
  have eg : g' = s.gens := hm.gens
  have ed : d' = s.drawn := hm.drawn
  have eo : os' = s.os := hm.os
  subst eg; subst ed; subst eo
  refine h h' tk' acc'.toList ?_ fun b o e => ?_
  · have el : acc'.toList = (ordOf w a ep es).toList.map (·.2) := by
      apply List.ext_getElem?
      intro i
      rw [List.getElem?_map, Array.getElem?_toList, Array.getElem?_toList]
      rcases Nat.lt_or_ge i acc'.size with z | z
      · obtain ⟨e, e1, e2⟩ := hacc.2 i acc'[i] (Array.getElem?_eq_getElem z)
        rw [Array.getElem?_eq_getElem z, e1, e2]
        rfl
      · rw [Array.getElem?_eq_none z, Array.getElem?_eq_none (by rw [ordOf_size, ← hacc.1]; exact z)]
        rfl
    rw [el]
    exact (ordOf_perm w a ep es).map _
  · have hb : b < s.heap.objs.size := Heap.lt_size e
    refine hm.heap b o ?_ (oth b o (Nat.ne_of_lt hb) (Heap.get?_push_of_some _ (Heap.get?_push_of_some _ e)))
    rw [hIsz]
    simp only [List.mem_cons, List.not_mem_nil, or_false, not_or]
    exact ⟨Nat.ne_of_lt hb, Nat.ne_of_lt (Nat.lt_succ_of_lt hb)⟩
end
end SetT
namespace SetT
open PySem PySem.Spec PyProof.Rows L2 SrtA
open PySem.W (KatLex kat_lt kat_cons kat_yes kat_no kat_nil kat_one kat_kind KatTups)
section
variable {prog : Program} {w : World} {A : Around} {E : Value → Shared → Prop} {s : Shared}
theorem lex_any {fin : Bool} {Q : Bool → Shared → Prop} (h : ∀ b, Q b s) : ∀ {xs ys : List Value} {ks ls : List Int} (i : Nat), ItemsAre (intKind prog w) ks xs → ItemsAre (intKind prog w) ls ys → KatLex prog w A true fin Q (xs.zip ys) i s
  | [], _, _, _, i, _, _ => kat_nil (h _)
  | _ :: _, [], _, _, i, _, _ => kat_nil (h _)
  | x :: xs, y :: ys, _, _, i, .cons h1 r1, .cons h2 r2 => by
    obtain ⟨t, rfl⟩ := Value.isInt_shape h1
    obtain ⟨u, rfl⟩ := Value.isInt_shape h2
    rw [List.zip_cons_cons]
    refine kat_cons (wpAny_eqBool_int (PySem.W.kat_go (fun _ => kat_yes (lex_any h (i + 1) r1 r2)) (fun _ => kat_no ?_)))
    cases i with
    | zero => exact oneLt_int (h _)
    | succ i => exact kat_one _ _ (lt_int (h _))
noncomputable def TupK (prog : Program) (w : World) (s : Shared) (x : Keyed) : Prop := ∃ k b, x.1 = .ref b ∧ IsTupleKey (intKind prog w) s.heap k b
theorem lt_tups : LtOk prog w A E s (tuples' true) (TupK prog w s) := by
  rintro x y ⟨k, b, ex, ⟨o, items, n, ho, hc, hd, hi⟩⟩ ⟨l, c, ey, ⟨o', items', n', ho', hc', hd', hi'⟩⟩ st Q hk h
  rw [lt'_eq]
  refine wpS_bind (wpS_get ?_)
  rw [hk, ex, ey]
  refine wpS_bind (wpS_lift (wpAny_attempt (kat_lt ho hd ho' hd' (lex_any (fun c => ⟨rfl, ?_⟩) 0 hi hi'))))
  exact wpS_pure (h _)
theorem tup_firsts {h : Heap} : ∀ {ps : List (List Int × Addr)}, (∀ q ∈ ps, IsTupleKey (intKind prog w) h q.1 q.2 ∧ q.1 ≠ []) → ∃ fs, KatTups h (ps.map fun q => Value.ref q.2) fs ∧ fs.length = ps.length ∧ ∀ f ∈ fs, ∃ i t, f = .int i t
  | [], _ => ⟨[], trivial, rfl, fun _ z => by cases z⟩
  | q :: ps, hp => by
    obtain ⟨fs, k, hl, hf⟩ := tup_firsts (ps := ps) fun q hq => hp q (List.mem_cons_of_mem _ hq)
    obtain ⟨⟨o, items, n, ho, hc, hd, hi⟩, hne⟩ := hp q List.mem_cons_self
    obtain ⟨q1, q2⟩ := q
    obtain ⟨its⟩ := items
    cases hi with
    | nil => exact absurd rfl hne
    | @cons kk v ks vs h1 _ =>
      obtain ⟨t, rfl⟩ := Value.isInt_shape h1
      refine ⟨_ :: fs, ⟨⟨q2, o, _, n, rfl, ho, hc, hd, rfl⟩, k⟩, by rw [List.length_cons, List.length_cons, hl], fun f hf' => ?_⟩
      rcases List.mem_cons.mp hf' with rfl | z
      · exact ⟨_, _, rfl⟩
      · exact hf f z
theorem sort_tups {a : Addr} {ps : List (List Int × Addr)} {n : Nat} {P : PySem.Fin → Shared → Prop} (ho : s.heap.get? a = some (seqObj "list" (ps.map fun q => Value.ref q.2).toArray n)) (hk : ∀ q ∈ ps, IsTupleKey (intKind prog w) s.heap q.1 q.2) (hne : 2 ≤ ps.length → ∀ q ∈ ps, q.1 ≠ []) (hz : ps.length ≤ 4914)
    (h : ∀ ps' : List (List Int × Addr), ps'.Perm ps → P (.done (.ret .none)) { s with heap := sortedHeap s.heap a (ps.map fun q => Value.ref q.2) (ps'.map fun q => Value.ref q.2).toArray }) :
    wpAny (model prog w) A (Builtin.«list.sort» ⟨[.ref a], []⟩) P E s := by
  have hlv : (ps.map fun q => Value.ref q.2).length = ps.length := List.length_map _
  generalize hvs : (ps.map fun q => Value.ref q.2) = vs at ho h hlv
  have ha : a < s.heap.objs.size := Heap.lt_size ho
  obtain ⟨e1, ho1⟩ : ∃ e1, (s.heap.update a (Obj.mapSeq fun _ => (#[] : Array Value))).get? a = some (seqObj "list" #[] e1) := ⟨_, get?_update_seq ho fun _ => #[]⟩
  have keep : ∀ b o, s.heap.get? b = some o → o.cls = .type "tuple" → (((s.heap.update a (Obj.mapSeq fun _ => (#[] : Array Value))).push (seqObj "tuple" vs.toArray 0)).push (seqObj "list" #[] 0)).get? b = some o := fun b o e hc => by
    have hba : b ≠ a := fun z => by
      rw [z, ho] at e
      cases e
      exact absurd hc (by show ¬ Value.type "list" = Value.type "tuple"; intro z; injection z with z; exact absurd z (by decide))
    exact Heap.get?_push_of_some _ (Heap.get?_push_of_some _ (by rw [Heap.get?_update_ne _ _ _ _ hba]; exact e))
  have ho6 : (((s.heap.update a (Obj.mapSeq fun _ => (#[] : Array Value))).push (seqObj "tuple" vs.toArray 0)).push (seqObj "list" #[] 0)).get? a = some (seqObj "list" #[] e1) := Heap.get?_push_of_some _ (Heap.get?_push_of_some _ ho1)
  have hk2 : ∀ q ∈ ps, IsTupleKey (intKind prog w) (((s.heap.update a (Obj.mapSeq fun _ => (#[] : Array Value))).push (seqObj "tuple" vs.toArray 0)).push (seqObj "list" #[] 0)) q.1 q.2 := fun q hq => by
    obtain ⟨o, items, n, ho', hc, r⟩ := hk q hq
    exact ⟨o, items, n, keep _ _ ho' hc, hc, r⟩
  rw [list_sort_plain]
  refine wpAny_bind (listItems_at ho rfl ?_)
  refine wpAny_bind (listUpdate_at ho rfl ?_ (by rw [List.size_toArray, sizeLine_eq]; (first | lia | omega)) (Nat.zero_le _))
  refine wpAny_bind (seqEpoch_at ho1 rfl (wpAny_bind (wpAny_newTuple ?_ (by show vs.length ≤ _; rw [sizeLine_eq]; (first | lia | omega)))))
  refine wpAny_bind (wpAny_newList (wpAny_holding ?_) (Nat.zero_le _))
  show wpAny (model prog w) A _ P E { s with heap := ((s.heap.update a (Obj.mapSeq fun _ => (#[] : Array Value))).push (seqObj "tuple" vs.toArray 0)).push (seqObj "list" #[] 0) }
  dsimp only
  have fin : ∀ (st : SortSt), failedOf st = none → (arrOf st).toList.Perm (vs.toArray.zip vs.toArray).toList →
      wpAny (model prog w) A (do
        let touched := (← seqEpoch a) != e1
        Builtin.List.listUpdate (.ref a) fun _ => (arrOf st).map (·.2)
        if let some e := failedOf st then rule "list.sort.comparison-raised"; throw e
        if touched then rule "list.sort.modified"; raiseError "ValueError" "list modified during sort"
        ret .none) P E { s with heap := ((s.heap.update a (Obj.mapSeq fun _ => (#[] : Array Value))).push (seqObj "tuple" vs.toArray 0)).push (seqObj "list" #[] 0) } := fun st hf har => by
    have hp2 : ((arrOf st).toList.map (·.2)).Perm vs := by
      have := har.map (·.2)
      refine this.trans (List.Perm.of_eq ?_)
      rw [Array.toList_zip]
      show (vs.zip vs).map (·.2) = vs
      rw [List.map_snd_zip (Nat.le_refl _)]
    obtain ⟨ps', px, ex⟩ := perm_map_inv (fun q : List Int × Addr => Value.ref q.2) hp2 hvs.symm
    have hart : (arrOf st).map (·.2) = (ps'.map fun q => Value.ref q.2).toArray := by
      apply Array.ext'
      rw [Array.toList_map, ex]
    refine wpAny_bind (seqEpoch_at ho6 rfl (wpAny_bind (listUpdate_at ho6 rfl ?_ (Nat.zero_le _) (by rw [hart, List.size_toArray, List.length_map, px.length_eq, sizeLine_eq]; (first | lia | omega)))))
    rw [hf, hart]
    simp only [bne_self_eq_false, Bool.false_eq_true, if_false]
    exact wpAny_pure (h ps' px)
  by_cases h2 : vs.toArray.size < 2
  · rw [if_pos h2, if_pos h2]
    refine wpAny_bind (wpAny_pure ?_)
    rw [StateT.run_pure]
    refine wpAny_bind (wpAny_pure ?_)
    exact fin (SortSt.mk' general' (vs.toArray.zip vs.toArray) #[] 7 none) rfl (List.Perm.refl _)
  · rw [if_neg h2, if_neg h2]
    rw [List.size_toArray] at h2
    obtain ⟨fs, kt, hfl, hf⟩ := tup_firsts (ps := ps) fun q hq => ⟨hk2 q hq, hne (by (first | lia | omega)) q hq⟩
    rw [hvs] at kt
    refine wpAny_bind (kat_kind (s := { s with heap := ((s.heap.update a (Obj.mapSeq fun _ => (#[] : Array Value))).push (seqObj "tuple" vs.toArray 0)).push (seqObj "list" #[] 0) }) (T := .type "int") kt (by (first | lia | omega)) (fun f hf' => ?_) rfl ?_)
    · obtain ⟨i, t, rfl⟩ := hf f hf'
      exact PySem.W.Looks.of_pure rfl
    have hS : ∀ x ∈ (vs.toArray.zip vs.toArray).toList, TupK prog w { s with heap := ((s.heap.update a (Obj.mapSeq fun _ => (#[] : Array Value))).push (seqObj "tuple" vs.toArray 0)).push (seqObj "list" #[] 0) } x := fun x hx => by
      rw [Array.toList_zip] at hx
      have := (mem_zip_self hx).2
      rw [← hvs] at this
      obtain ⟨q, hq, e⟩ := List.mem_map.mp this
      exact ⟨q.1, q.2, e.symm, hk2 q hq⟩
    have go := wpS_sortA (prog := prog) (w := w) (A := A) (E := E) (s := { s with heap := ((s.heap.update a (Obj.mapSeq fun _ => (#[] : Array Value))).push (seqObj "tuple" vs.toArray 0)).push (seqObj "list" #[] 0) }) (κ := tuples' ((Value.type "int") != Value.type "tuple")) (a₀ := vs.toArray.zip vs.toArray) lt_tups hS
      (st := SortSt.mk' (tuples' ((Value.type "int") != Value.type "tuple")) (vs.toArray.zip vs.toArray) #[] 7 none) (Q := fun _ st' => (arrOf st').toList.Perm (vs.toArray.zip vs.toArray).toList ∧ failedOf st' = none) ⟨rfl, List.Perm.refl _, rfl, rfl, Nat.zero_le _⟩ fun st' hp hf => ⟨hp, hf⟩
    refine wpAny_bind (wpAny_mono go ?_ fun _ _ e => e)
    rintro ⟨⟨⟩, st'⟩ s' ⟨rfl, hp, hf'⟩
    exact fin st' hf' hp
end
end SetT
namespace L2
open PySem PySem.Spec PyProof.Rows SetT SrtA
noncomputable def refA : Value → Addr
  | .ref a => a
  | _ => 0
theorem paired_at {α β : Type} {R : α → β → Prop} : ∀ {as : List α} {bs : List β} (_ : Paired R as bs) (da : α) (db : β) {i : Nat}, i < as.length → R (as.getD i da) (bs.getD i db)
  | _, _, .cons h r, da, db, 0, _ => h
  | _, _, .cons h r, da, db, i + 1, hi => paired_at r da db (i := i) (by simpa using hi)
section
variable {X : Cx} {prog : Program} {w : World}
theorem items_of : ∀ {ns : List Int} {its : List Value}, Vals (ns.map V.int) its → ItemsAre (intKind prog w) ns its
  | [], _, h => by cases h; exact .nil
  | n :: ns, _, h => by
    cases h with
    | cons r t =>
      obtain ⟨u, rfl⟩ := r
      exact .cons (intKind_is _ _ _ _) (items_of t)
theorem tup_key {pins : List (Addr × Obj)} {σ : St} {H : Hp} {s : Shared} (I : Inv X pins σ H s) {p : Addr} {k : List Int} (h : H p = some (.tup (k.map V.int))) : IsTupleKey (intKind X.prog X.w) s.heap k p := by
  obtain ⟨_, its, rv, o, ho, hc, _, n, hd⟩ := I.hok p _ h
  exact ⟨o, its.toArray, n, ho, hc, hd, items_of rv⟩
noncomputable def rSS (K : PySem.W.Frag) : V → Hp → VK → Prop := fun x H Q => ∃ (p : Addr) (ys : List V) (W : List (List Int)) (P : List Int → Prop), x = .ref p ∧ SqL K H p ys ∧ Paired (dT H) W ys ∧ (∀ k ∈ W, P k) ∧ (∀ l : List (List Int), l.Nodup → (∀ x ∈ l, P x) → l.length ≤ 4914) ∧ ([] ∈ W → ∀ k ∈ W, k = []) ∧
  ∀ (l : Addr) (ys' : List V) (W' : List (List Int)), H l = none → W'.Nodup → (∀ k, k ∈ W' ↔ k ∈ W) → Paired (dT H) W' ys' → Q (.ref l) (upd H l (.lst ys'))
theorem sorted_seen {h : Heap} {a : Addr} {vs : List Value} {n : Nat} {out : List Value} (ho : h.get? a = some (seqObj "list" vs.toArray n)) : ∃ e, (sortedHeap h a vs out.toArray).get? a = some (seqObj "list" out.toArray e) := by
  obtain ⟨e1, ho1⟩ : ∃ e1, (h.update a (Obj.mapSeq fun _ => (#[] : Array Value))).get? a = some (seqObj "list" #[] e1) := ⟨_, get?_update_seq ho fun _ => #[]⟩
  have ho6 : (((h.update a (Obj.mapSeq fun _ => (#[] : Array Value))).push (seqObj "tuple" vs.toArray 0)).push (seqObj "list" #[] 0)).get? a = some (seqObj "list" #[] e1) := Heap.get?_push_of_some _ (Heap.get?_push_of_some _ ho1)
  exact ⟨_, get?_update_seq ho6 fun _ => out.toArray⟩
theorem sorted_kept {h : Heap} {a b : Addr} {vs : List Value} {out : Array Value} {o : Obj} (hb : b ≠ a) (e : h.get? b = some o) : (sortedHeap h a vs out).get? b = some o := by
  unfold sortedHeap
  rw [Heap.get?_update_ne _ _ _ _ hb]
  exact Heap.get?_push_of_some _ (Heap.get?_push_of_some _ (by rw [Heap.get?_update_ne _ _ _ _ hb]; exact e))
theorem run_ss (hc : X.calm = true) (hu : X.A.units + 64 < cLine) {pins : List (Addr × Obj)} {s : Shared} {σ : St} {H : Hp} {x : V} {u : Value} {Q : VK} (I : Inv X pins σ H s) (rx : RelV x u) (h : rSS X.K x H Q) :
    wpAny (model X.prog X.w) X.A (call (.type "set") [u]) (fun v s1 => wpAny (model X.prog X.w) X.A (call (.builtin "sorted") [v]) (EP X pins σ Q) X.xe s1) X.xe s := by
  obtain ⟨p, ys, W, P, rfl, hq, pw, hP, hB, hE, q⟩ := h
  cases rx
  obtain ⟨its, rv, pl, hz⟩ := I.list hq
  have hl : W.length = ys.length := Paired.length pw
  have hl2 : ys.length = its.length := rv.length
  have hd : ∀ i, i < W.length → dT H (W.getD i []) (V.ref (refA (its.getD i .none))) ∧ its.getD i .none = .ref (refA (its.getD i .none)) := fun i hi => by
    obtain ⟨a, e, ha⟩ := paired_at pw [] V.non hi
    have hr : RelV (ys.getD i V.non) (its.getD i .none) := by
      obtain ⟨u, e1, e2⟩ := rv.get (i := i) (List.getElem?_eq_getElem (by (first | lia | omega)))
      rw [List.getD_eq_getElem?_getD, List.getD_eq_getElem?_getD, e1, List.getElem?_eq_getElem (by (first | lia | omega))]
      exact e2
    rw [e] at hr
    have hr' : its.getD i .none = .ref a := hr
    rw [hr']
    exact ⟨⟨a, rfl, ha⟩, rfl⟩
  have hk : ∀ i, i < W.length → IsTupleKey (intKind X.prog X.w) s.heap (W.getD i []) (refA (its.getD i .none)) := fun i hi => by
    obtain ⟨⟨a, e, ha⟩, _⟩ := hd i hi
    injection e with e
    rw [e]
    exact tup_key I ha
  have hsz : its.toArray.size = W.length := by rw [List.size_toArray]; (first | lia | omega)
  have hmemW : ∀ i, i < W.length → W.getD i [] ∈ W := fun i hi => by
    rw [List.getD_eq_getElem?_getD, List.getElem?_eq_getElem hi]
    exact List.getElem_mem hi
  refine call_set_tu (P := P) (val := fun i => W.getD i []) (adr := fun i => refA (its.getD i .none)) (I.ok.hd hc) hu pl.isList (fun i v e => ?_) (fun i hi => hk i (by (first | lia | omega))) hB (fun i hi => hP _ (hmemW i (by (first | lia | omega)))) fun h' tk xs S G keep => ?_
  · obtain ⟨hi, e'⟩ := Array.getElem?_eq_some_iff.mp e
    rw [List.size_toArray] at hi
    have := (hd i (by (first | lia | omega))).2
    rw [List.getD_eq_getElem?_getD, List.getElem?_eq_getElem hi, Option.getD_some] at this
    rw [← e']
    show its[i] = _
    rw [this]
    rw [List.getD_eq_getElem?_getD, List.getElem?_eq_getElem hi, Option.getD_some]
  · have hl0 : s.heap.objs.size < h'.objs.size := by
      obtain ⟨es, ep, t, T, _⟩ := S
      exact Heap.lt_size T.o
    have hxl : xs.length ≤ 4914 := by
      obtain ⟨es, ep, t, T, _⟩ := S
      have := hB _ T.n fun x hx => by
        obtain ⟨q, hq, rfl⟩ := List.mem_map.mp hx
        exact T.p q hq
      rwa [List.length_map] at this
    have hkx : ∀ q ∈ xs, IsTupleKey (intKind X.prog X.w) h' q.1 q.2 := by
      obtain ⟨es, ep, t, T, _⟩ := S
      exact T.k
    have hnd : (xs.map (·.1)).Nodup := by
      obtain ⟨es, ep, t, T, _⟩ := S
      exact T.n
    refine Calls.call_function_entry kind_sorted plain_sorted entry_sorted (args_sorted1 _) ?_
    unfold Builtin.«sorted»
    obtain ⟨es, ep, t, T, hroom⟩ := S
    refine wpAny_bind (m := checkCount "sorted" 1 1 _) (wpAny_pure (wpAny_bind (collect_set (s := { s with heap := h', toks := tk }) (by simpa using I.ok.hd hc) (Tu.wk (s := { s with heap := h', toks := tk }) T) T.o (by rw [Tu.size (s := { s with heap := h', toks := tk }) T]; exact hxl) fun h2 tk2 vs pv keep2 => ?_)))
    have pv' : vs.Perm (xs.map fun q => Value.ref q.2) := by
      rw [T.e, List.map_map] at pv
      exact pv
    obtain ⟨ps, px, rfl⟩ := perm_map_inv (fun q : List Int × Addr => Value.ref q.2) pv' rfl
    have hl2 : s.heap.objs.size < h2.objs.size := Heap.lt_size (keep2 _ _ T.o)
    have hlp : ps.length ≤ 4914 := by rw [px.length_eq]; exact hxl
    have hmw : ∀ k, k ∈ xs.map (·.1) ↔ k ∈ W := fun k => by
      rw [G.k]
      constructor
      · rintro ⟨j, hj, rfl⟩
        exact hmemW j (by (first | lia | omega))
      · intro hk'
        obtain ⟨j, hj, e⟩ := List.getElem_of_mem hk'
        refine ⟨j, by (first | lia | omega), ?_⟩
        show W.getD j [] = k
        rw [List.getD_eq_getElem?_getD, List.getElem?_eq_getElem hj, ← e]
        rfl
    have hoL : (h2.push { cls := .type "list", data := .seq (ps.map fun q => Value.ref q.2).toArray }).get? h2.objs.size = some (seqObj "list" (ps.map fun q => Value.ref q.2).toArray 0) := Heap.get?_push_size _ rfl
    refine wpAny_bind (wpAny_newList ?_ (by rw [List.length_map, sizeLine_eq]; (first | lia | omega)))
    have hkp : ∀ q ∈ ps, IsTupleKey (intKind X.prog X.w) (h2.push { cls := .type "list", data := .seq (ps.map fun q => Value.ref q.2).toArray }) q.1 q.2 := fun q hq => tup_move (hkx q (px.mem_iff.mp hq)) fun o e => Heap.get?_push_of_some _ (keep2 _ _ e)
    have hne : 2 ≤ ps.length → ∀ q ∈ ps, q.1 ≠ [] := fun h2 q hq z => by
      have hnp : (ps.map (·.1)).Nodup := (px.map (·.1)).nodup_iff.mpr hnd
      have hall : ∀ q' ∈ ps, q'.1 = [] := fun q' hq' => by
        have m0 : [] ∈ W := (hmw []).mp (List.mem_map.mpr ⟨q, px.mem_iff.mp hq, z⟩)
        exact hE m0 _ ((hmw _).mp (List.mem_map.mpr ⟨q', px.mem_iff.mp hq', rfl⟩))
      match ps, h2, hnp, hall with
      | a :: b :: l, _, hnp, hall =>
        rw [List.map_cons, List.map_cons, List.nodup_cons] at hnp
        exact hnp.1 (by rw [hall a (by simp), hall b (by simp)]; exact List.mem_cons_self)
    refine wpAny_bind (wpAny_holding (wpAny_call_entry slot_list_sort ⟨_, hoL, rfl⟩ entry_list_sort (sort_tups (s := { s with heap := h2.push { cls := .type "list", data := .seq (ps.map fun q => Value.ref q.2).toArray }, toks := tk2 }) hoL hkp hne hlp fun ps' pp => ⟨_, rfl, wpAny_pure ⟨_, rfl, ?_⟩⟩) (args_list_sort _)))
    obtain ⟨e, he⟩ := sorted_seen (out := ps'.map fun q => Value.ref q.2) hoL
    have pp' := pp.trans px
    have hdq : ∀ q ∈ xs, dT H q.1 (V.ref q.2) := fun q hq => by
      obtain ⟨j, hj, rfl⟩ := G.q q hq
      exact (hd j (by (first | lia | omega))).1
    refine ⟨.ref h2.objs.size, _, I.laid (t' := tk2) (o := .lst (ps'.map fun q => V.ref q.2)) (fun b ob z => ?_) (Nat.le_of_lt hl2) ?_, rfl,
      q _ _ (ps'.map (·.1)) (I.hok.fresh (Nat.le_of_lt hl2)) ((pp'.map (·.1)).nodup_iff.mpr hnd) (fun k => by rw [(pp'.map (·.1)).mem_iff]; exact hmw k) ?_⟩
    · have hb : b < s.heap.objs.size := Heap.lt_size z
      exact sorted_kept (Nat.ne_of_lt (Nat.lt_trans hb hl2)) (Heap.get?_push_of_some _ (keep2 _ _ (keep _ _ hb z)))
    · refine ⟨by rw [List.length_map, pp'.length_eq, sizeLine_eq]; (first | lia | omega), ps'.map fun q => Value.ref q.2, e, ?_, he⟩
      clear he pp pp' hne hkp hoL
      induction ps' with
      | nil => exact .nil
      | cons q l ih => exact .cons rfl ih
    · have : ∀ l : List (List Int × Addr), (∀ q ∈ l, dT H q.1 (V.ref q.2)) → Paired (dT H) (l.map (·.1)) (l.map fun q => V.ref q.2) := by
        intro l
        induction l with
        | nil => intro _; exact .nil
        | cons q l ih => intro hh; exact .cons (hh q List.mem_cons_self) (ih fun q hq => hh q (List.mem_cons_of_mem _ hq))
      exact this ps' fun q hq => hdq q (pp'.mem_iff.mp hq)
noncomputable def tSS (K : PySem.W.Frag) (t : TE) : TE := fun σ H Q => t σ H fun x H1 => rSS K x H1 Q
theorem pe_sortSet {e : Expr} {te : TE} {p1 p2 p3 p4 : Pos} (hc : X.calm = true) (hu : X.A.units + 64 < cLine) (hg1 : Gl X "sorted") (hm1 : X.mg "sorted" = none) (hg2 : Gl X "set") (hm2 : X.mg "set" = none) (he : PE X e te)
    (hs1 : starEach [.Call (.Name "set" p2) [e] [] p3] X.env = (false, eval (.Call (.Name "set" p2) [e] [] p3) X.env) :: starEach [] X.env := by rfl) (hs2 : starEach [e] X.env = (false, eval e X.env) :: starEach [] X.env := by rfl) :
    PE X (.Call (.Name "sorted" p1) [.Call (.Name "set" p2) [e] [] p3] [] p4) (tSS X.K te) := by
  intro pins s σ H Q I h
  refine wpAny_Call_Name_kw (ld_blt I hg1 hm1 PyProof.Rows.boot_sorted ?_)
  refine PyProof.Rows.callWith_builtin1 ?_ hs1 rfl
  rw [hs1]
  show wpAny _ _ (spliced ((false, eval (.Call (.Name "set" p2) [e] [] p3) X.env) :: backTo p4 (starEach [] X.env))) _ _ s
  refine Calls.spliced_cons ?_
  refine wpAny_Call_Name_kw (ld_blt I hg2 hm2 PyProof.Rows.boot_set ?_)
  refine PyProof.Rows.callWith_type1 ?_ hs2 rfl
  rw [hs2]
  show wpAny _ _ (spliced ((false, eval e X.env) :: backTo p3 (starEach [] X.env))) _ _ s
  refine Calls.spliced_cons (thn (he pins s σ H _ I h) fun u s1 ⟨x, H1, I1, r1, q1⟩ => Calls.spliced_nil ?_)
  exact thn (run_ss hc hu I1 r1 q1) fun v s2 hq => Calls.spliced_nil hq
end
end L2
namespace L2
open PySem PySem.Spec PyProof.Rows
structure OFScope (X : Cx) (scope : Scope) (y : Str) (fs : List (Nat × Str)) : Prop where
  kind : scope.kind = .function
  locs : ∀ z ∈ scope.names, z.2 = .local → scope.names.lookup z.1 = some .local
  own : ∀ z ∈ scope.names, z.2 = .cell → z.1 = y
  ycell : scope.names.lookup y = some .cell
  frees : ∀ z ∈ scope.names, z.2 = .free → X.env.kindOf z.1 = some .cell ∨ X.env.kindOf z.1 = some .free
  fs : FsOk X.N scope fs
  cells : ∀ n cl, cellsFrom n scope.names cl = (y, n) :: cl
noncomputable def cxOF (X : Cx) (scope : Scope) (y : Str) (C : Addr) (N : List Str) (s0 : Shared) (H0 : Hp) (ex : List Addr) : Cx :=
  { X with N := N, s₀ := s0, H₀ := H0, env := compEnvC scope ((y, C + 1) :: clOf scope X.env) C X.env, outer := X.stack, stack := X.stack, ex := ex, fn := fun x => x == y, pn := [], xe := fun _ _ => False }
theorem one_more {x y : Str} {c c' : Addr} {cl : List (Str × Addr)} (h : List.lookup x ((y, c) :: cl) = some c') : (x = y ∧ c' = c) ∨ (x ≠ y ∧ cl.lookup x = some c') := by
  rw [List.lookup_cons] at h
  cases hx : x == y with
  | true => rw [hx] at h; cases h; exact .inl ⟨beq_iff_eq.mp hx, rfl⟩
  | false => rw [hx] at h; exact .inr ⟨(fun e => by rw [e, beq_self_eq_true] at hx; cases hx), h⟩
theorem newEnv_ownF {M : Model} {A : Around} {E : Value → Shared → Prop} {s : Shared} {scope : Scope} {globals : Addr} {qual : Str} {outer : Env} {y : Str} {cl : List (Str × Addr)} {Q : Env → Shared → Prop} (hk : scope.kind = .function) (hc : ∀ n cl, cellsFrom n scope.names cl = (y, n) :: cl)
    (hQ : ∀ h', h'.Ns s.heap.objs.size (fun _ => none) → (∀ b o, s.heap.get? b = some o → h'.get? b = some o) → h'.IsCell (s.heap.objs.size + 1) none → Q (newEnv scope s.heap.objs.size globals ((y, s.heap.objs.size + 1) :: cl) qual none .none (some outer) builtinsNs) { s with heap := h' }) :
    wpAny M A (newFunctionEnv scope globals cl [] qual none .none (some outer)) Q E s := by
  simp only [newFunctionEnv, Option.isSome_some, if_true]
  refine wpAny_bind (wpAny_alloc ?_)
  refine wpAny_bind (wpAny_layCells _ (fun name kind cells => by cases hkc : kind == NameKind.cell <;> simp [hkc]) _ _ _ _ ?_)
  have ok := cellsFrom_ok scope.names (s.heap.push { cls := .type "dict", data := .dict #[] }) (s.heap.objs.size + 1) [] ⟨fun _ _ hm => (nomatch hm), List.Pairwise.nil⟩ (by rw [Heap.size_push]; exact Nat.le_refl _)
  rw [Heap.size_push] at ok
  rw [show ({ s with heap := s.heap.push { cls := .type "dict", data := .dict #[] } } : Shared).heap.objs.size = s.heap.objs.size + 1 from Heap.size_push ..]
  rw [hc] at ok ⊢
  rw [List.forIn_nil]
  refine wpAny_bind (wpAny_pure (wpAny_pure ?_))
  exact hQ _ ((Heap.Ns.new s.heap (.type "dict")).keeps (pushCells_keeps _ _)) (fun b o e => pushCells_keeps _ _ b o (Heap.get?_push_of_some _ e)) (ok.empty y _ (List.mem_singleton.mpr rfl)).1
section
variable {X : Cx} {scope : Scope} {y : Str} {fs : List (Nat × Str)} {pins : List (Addr × Obj)} {σ : St} {H : Hp} {s : Shared}
theorem OFScope.has (S : OFScope X scope y fs) (ok : X.Ok) : HasFree scope X.env := fun z hz hk => ok.has z.1 (S.frees z hz hk)
theorem OFScope.ne (S : OFScope X scope y fs) {x : Str} (h : scope.names.lookup x = some .free) : x ≠ y := fun e => by
  rw [e, S.ycell] at h
  cases h
theorem OFScope.lt (S : OFScope X scope y fs) (I : Inv X pins σ H s) {x : Str} {c : Addr} (h : (clOf scope X.env).lookup x = some c) : c < s.heap.objs.size := by
  obtain ⟨v, o, ho, _⟩ := I.cell x c (clOf_sub (S.has I.ok) h)
  exact Heap.lt_size ho
theorem ok_compOF (S : OFScope X scope y fs) (I : Inv X pins σ H s) {fp : List Addr} (hf : ∀ b ∈ fp, FpOk X pins H b) (ho : ∀ b ∈ fp, b < s.heap.objs.size) {C : Addr} (hC : s.heap.objs.size ≤ C) (N : List Str) : (cxOF X scope y C N s H fp).Ok where
  mod := I.ok.mod
  kind := S.kind
  glob := I.ok.glob
  blt := I.ok.blt
  above := hC
  inj := fun x x' c h1 h2 => by
    rcases one_more (show List.lookup x ((y, C + 1) :: clOf scope X.env) = some c from h1) with ⟨e1, e2⟩ | ⟨e1, e2⟩ <;> rcases one_more (show List.lookup x' ((y, C + 1) :: clOf scope X.env) = some c from h2) with ⟨e3, e4⟩ | ⟨e3, e4⟩
    · exact e1.trans e3.symm
    · exact absurd (S.lt I e4) (by rw [e2]; exact Nat.not_lt.mpr (Nat.le_succ_of_le hC))
    · exact absurd (S.lt I e2) (by rw [e4]; exact Nat.not_lt.mpr (Nat.le_succ_of_le hC))
    · exact I.ok.inj x x' c (clOf_sub (S.has I.ok) e2) (clOf_sub (S.has I.ok) e4)
  has := fun x hx => by
    have hx' : (relabel scope X.env).names.lookup x = some .cell ∨ (relabel scope X.env).names.lookup x = some .free := hx
    have fr : scope.names.lookup x = some .free → ∃ c, List.lookup x ((y, C + 1) :: clOf scope X.env) = some c := fun h => by
      obtain ⟨c, hc⟩ := clOf_has (env := X.env) h
      have hne := S.ne h
      exact ⟨c, by rw [List.lookup_cons, beq_eq_false_iff_ne.mpr hne]; exact hc⟩
    rcases hx' with h | h
    · rcases relabel_kind h with h | ⟨h, _⟩
      · have e : x = y := S.own _ (PySem.mem_of_lookup h) rfl
        exact ⟨C + 1, by show List.lookup x ((y, C + 1) :: clOf scope X.env) = some (C + 1); rw [e, List.lookup_cons, beq_self_eq_true]⟩
      · exact fr h
    · rcases relabel_kind h with h | ⟨h, _⟩
      · exact fr h
      · exact fr h
  cab := fun x c hx e => by
    have hx' : x = y := beq_iff_eq.mp hx
    rcases one_more (show List.lookup x ((y, C + 1) :: clOf scope X.env) = some c from e) with ⟨_, e2⟩ | ⟨e1, _⟩
    · rw [e2]; exact Nat.le_succ_of_le hC
    · exact absurd hx' e1
  hd := I.ok.hd
  frames := I.ok.frames
  stk := .inl rfl
  exf := fun b hb => ⟨Nat.ne_of_lt (Nat.lt_of_lt_of_le (ho b hb) hC), fun x c e => by
    rcases one_more (show List.lookup x ((y, C + 1) :: clOf scope X.env) = some c from e) with ⟨_, e2⟩ | ⟨_, e2⟩
    · rw [e2]
      exact Nat.ne_of_gt (Nat.lt_succ_of_lt (Nat.lt_of_lt_of_le (ho b hb) hC))
    · exact (hf b hb).2.2.2.2.1 x c (clOf_sub (S.has I.ok) e2)⟩
  bs := I.bs
  bsz := Nat.le_trans I.ok.bsz I.sz
  noex := fun b o e hb => by
    rcases (hf b hb).2.2.2.1 with z | z
    · exact I.ok.noex b o e z
    · exact absurd (Nat.lt_of_lt_of_le (Heap.lt_size e) (Nat.le_trans I.ok.bsz z)) (Nat.lt_irrefl _)
  exfs := fun b hb => fp_stack I (hf b hb)
  funs := I.stack
  frf := I.stkFree
theorem inv_compOF (S : OFScope X scope y fs) (I : Inv X pins σ H s) {fp : List Addr} (hf : ∀ b ∈ fp, FpOk X pins H b) (ho : ∀ b ∈ fp, b < s.heap.objs.size) {h₁ : Heap} {tk : Nat} {m : Str → Option Value}
    (hn : h₁.Ns s.heap.objs.size m) (k : ∀ b o, s.heap.get? b = some o → h₁.get? b = some o) (hcell : h₁.IsCell (s.heap.objs.size + 1) none) :
    Inv (cxOF X scope y s.heap.objs.size ([y] ++ fs.map (·.2)) s H fp) [] (sgC 1 fs σ) H { s with heap := h₁, toks := tk } := by
  have hh := S.has I.ok
  refine ⟨ok_compOF S I hf ho (Nat.le_refl _) _, rfl, I.bare, Un.kept k, ⟨m, hn, fun i x v h1 h2 h3 => ?_⟩, fun x c e => ?_, I.hok.fresh (Nat.le_refl _), fun x c e => ?_, fun p hp => absurd (show p ∈ ([] : List (Addr × Obj)) from hp) (by simp), I.hok.kept k, ?_⟩
  · obtain ⟨hi, p, hp, hv⟩ := sgC_get h2
    have h1' : ([y] ++ fs.map (·.2))[i]? = some x := h1
    rw [List.getElem?_append_right hi, List.getElem?_map, show ([y] : List Str).length = 1 from rfl, hp] at h1'
    have hx : p.2 = x := Option.some.inj h1'
    obtain ⟨hN, hl⟩ := S.fs.mem p (List.mem_of_getElem? hp)
    rw [hx] at hN hl
    have hk : X.env.kindOf x = some .cell ∨ X.env.kindOf x = some .free := S.frees (x, .free) (PySem.mem_of_lookup hl) rfl
    obtain ⟨m0, _, hm0⟩ := I.loc
    obtain ⟨u, r, l⟩ := hm0 p.1 x v hN hv (.inr hk)
    refine ⟨u, r, ?_⟩
    rcases l with ⟨z, _⟩ | ⟨_, c, hc, hcell⟩
    · rcases hk with hk | hk <;> · rw [hk] at z; cases z
    · refine .inr ⟨(relabel_free hl).symm, c, ?_, ?_⟩
      · obtain ⟨c', hc'⟩ := clOf_has (env := X.env) hl
        have e := clOf_sub hh hc'
        rw [hc] at e
        cases e
        show List.lookup x ((y, _) :: clOf scope X.env) = some c
        rw [List.lookup_cons, beq_eq_false_iff_ne.mpr (S.ne hl)]
        exact hc'
      · obtain ⟨o, ho, hd⟩ := hcell
        exact ⟨o, k _ _ ho, hd⟩
  · rcases one_more (show List.lookup x ((y, _) :: clOf scope X.env) = some c from e) with ⟨_, e2⟩ | ⟨_, e2⟩
    · rw [e2]
      exact ⟨none, hcell⟩
    · obtain ⟨v, o, ho, hd⟩ := I.cell x c (clOf_sub hh e2)
      exact ⟨v, o, k _ _ ho, hd⟩
  · rcases one_more (show List.lookup x ((y, _) :: clOf scope X.env) = some c from e) with ⟨_, e2⟩ | ⟨_, e2⟩
    · rw [e2]
      exact I.hok.fresh (Nat.le_succ _)
    · exact I.freeC x c (clOf_sub hh e2)
  · show (sgC 1 fs σ).length = ([y] ++ fs.map (·.2)).length
    unfold sgC
    rw [List.length_append, List.length_append, List.length_replicate, List.length_map, List.length_map]
    rfl
end
section
variable {X : Cx} {scope : Scope} {y : Str} {fs : List (Nat × Str)} {pins : List (Addr × Obj)} {σ : St} {elt target iter : Expr} {ifs : List Expr} {pos : Pos} {g : TG} {tc : TT} {te : TE} {wi : TI}
theorem comp_coreOF {H1 : Hp} {s2 : Shared} {it : Addr} {fp : List Addr} {tn : Nat → Heap → Prop} {J : It} {Q : VK} {E : Value → Shared → Prop} {RR : Value → Addr → Result → Shared → Prop} (hc : X.calm = true) (S : OFScope X scope y fs)
    (hg : ∀ C s0 H0 ex, PG (cxOF X scope y C ([y] ++ fs.map (·.2)) s0 H0 ex) target g) (ht : ∀ C s0 H0 ex, PTs (cxOF X scope y C ([y] ++ fs.map (·.2)) s0 H0 ex) ifs tc) (he : ∀ C s0 H0 ex, PE (cxOF X scope y C ([y] ++ fs.map (·.2)) s0 H0 ex) elt te)
    (I : Inv X pins σ H1 s2) (T : Turn X.prog X.w X.K target J fp it tn) (t0 : tn 0 s2.heap) (hf : ∀ b ∈ fp, FpOk X pins H1 b)
    (R : ∀ l, H1 l = none → CompW 1 fs J g tc te σ H1 Q l)
    (hRR : ∀ l C s' H' m, Inv X pins σ H' s' → Q (.ref l) H' → s'.heap.Ns C m → FpOk X pins H' C → RR (.ref l) C (.ok .next) s') :
    wpAny (model X.prog X.w) X.A (newList []) (fun acc s₃ => wpAny (model X.prog X.w) X.A (newFunctionEnv scope X.env.globals (clOf scope X.env) [] X.env.qual none .none (some X.env)) (fun cenv s₄ =>
      codeAny (model X.prog X.w) X.A (.compStart (.ListComp elt [⟨target, iter, ifs, 0⟩] scope pos) 0 (.ref it) acc { cenv with scope := relabel scope X.env }) (RR acc cenv.locals) s₄) E s₃) E s2 := by
  refine wpAny_newObj_type (newEnv_ownF S.kind S.cells fun h₁ hns k hcell => ?_)
  try dsimp only at hns k hcell ⊢
  have ho2 : ∀ b ∈ fp, b < s2.heap.objs.size := fun b hb => by
    obtain ⟨o, e, _⟩ := T.obj _ _ t0 b hb
    exact Heap.lt_size e
  have I3 : Inv X pins σ (upd H1 s2.heap.objs.size (.lst [])) { s2 with heap := s2.heap.push { cls := .type "list", dict := none, data := .seq ([] : List Value).toArray }, toks := s2.toks } := I.lnew (its := []) (t' := s2.toks) .nil (Nat.zero_le _)
  obtain ⟨W, ⟨m0, w0⟩, step⟩ := R s2.heap.objs.size I.fresh
  have hf3 : ∀ b ∈ fp, FpOk X pins (upd H1 s2.heap.objs.size (.lst [])) b := fun b hb => ⟨by rw [upd_ne (Nat.ne_of_lt (ho2 b hb))]; exact (hf b hb).1, (hf b hb).2⟩
  have ho3 : ∀ b ∈ fp, b < (s2.heap.push { cls := .type "list", dict := none, data := .seq ([] : List Value).toArray }).objs.size := fun b hb => by
    rw [Heap.size_push]; exact Nat.lt_succ_of_lt (ho2 b hb)
  have I4 := inv_compOF (σ := σ) (tk := s2.toks) S I3 hf3 ho3 hns k hcell
  have st4 : tn 0 h₁ := T.keep _ _ _ t0 fun b hb o e => k b o (Heap.get?_push_of_some _ e)
  generalize hX : cxOF X scope y (s2.heap.push { cls := .type "list", dict := none, data := .seq ([] : List Value).toArray }).objs.size ([y] ++ fs.map (·.2)) { s2 with heap := s2.heap.push { cls := .type "list", dict := none, data := .seq ([] : List Value).toArray }, toks := s2.toks } (upd H1 s2.heap.objs.size (.lst [])) fp = X' at I4
  have fpk : ∀ {H' : Hp}, (∀ b ∈ fp, H' b = none) → ∀ b ∈ fp, FpOk X' [] H' b := fun {H'} hn b hb => by
    subst hX
    refine ⟨hn b hb, Nat.ne_of_lt (ho3 b hb), fp_stack I3 (hf3 b hb), .inl hb, fun x c e => (by
      rcases one_more (show List.lookup x ((y, _) :: clOf scope X.env) = some c from e) with ⟨_, e2⟩ | ⟨_, e2⟩
      · rw [e2]
        exact Nat.ne_of_gt (Nat.lt_succ_of_lt (ho3 b hb))
      · exact (hf3 b hb).2.2.2.2.1 x c (clOf_sub (S.has I.ok) e2)), fun p hp => absurd (show p ∈ ([] : List (Addr × Obj)) from hp) (by simp)⟩
  have hP : X'.prog = X.prog := by subst hX; rfl
  have hW : X'.w = X.w := by subst hX; rfl
  have hK : X'.K = X.K := by subst hX; rfl
  have hcalm : X'.calm = true := by subst hX; exact hc
  have hA : X'.A = X.A := by subst hX; rfl
  have hEnv : X'.env = compEnvC scope ((y, (s2.heap.push { cls := .type "list", dict := none, data := .seq ([] : List Value).toArray }).objs.size + 1) :: clOf scope X.env) (s2.heap.push { cls := .type "list", dict := none, data := .seq ([] : List Value).toArray }).objs.size X.env := by subst hX; rfl
  have hxe : X'.xe = fun _ _ => False := by subst hX; rfl
  have hg' : PG X' target g := by subst hX; exact hg _ _ _ _
  have ht' : PTs X' ifs tc := by subst hX; exact ht _ _ _ _
  have he' : PE X' elt te := by subst hX; exact he _ _ _ _
  have back : ∀ {H' : Hp} {s' : Shared}, Inv X' [] (sgC 1 fs σ) H' s' → Inv X pins σ H' s' ∧ (∃ m, s'.heap.Ns X'.env.locals m) ∧ FpOk X pins H' X'.env.locals := fun {H' s'} J' => by
    subst hX
    refine ⟨I3.call' (ch := fp) J'.os J'.base J'.hok J'.bare fun b hb => ⟨(hf3 b hb).2.2.2.1, (hf3 b hb).2.1, (hf3 b hb).2.2.2.2.1, (hf3 b hb).2.2.2.2.2⟩, ?_, I3.fpOk (Nat.le_refl _) J'.free⟩
    obtain ⟨m, hn, _⟩ := J'.loc
    exact ⟨m, hn⟩
  clear hX
  have loop : codeAny (model X.prog X.w) X.A (.compLoop (.ListComp elt [⟨target, iter, ifs, 0⟩] scope pos) 0 (.ref it) (.ref s2.heap.objs.size) X'.env) (RR (.ref s2.heap.objs.size) X'.env.locals)
      { s2 with heap := h₁, toks := s2.toks } := by
    refine compLoop_own (fun n s' => ∃ i acc H', Inv X' [] (sgC 1 fs σ) H' s' ∧ tn i s'.heap ∧ (∀ b ∈ fp, H' b = none) ∧ W i n acc H') ?_ m0 ⟨0, [], _, I4, st4, fun b hb => (hf3 b hb).1, w0⟩
    rintro n s5 ⟨i, acc, H5, I5, st5, fr5, w5⟩
    obtain ⟨hl, alt⟩ := step i n acc H5 w5
    rw [← hP, ← hW, ← hK] at T
    rcases alt with ⟨stop, q⟩ | ⟨hz, go, stp⟩
    · have d := T.done X' rfl rfl rfl hcalm i [] s5 _ H5 (fun _ _ => False) I5 (fpk fr5) st5 stop
      rw [hP, hW, hA] at d
      refine thn d fun r s6 ⟨hr, I6⟩ => ?_
      subst hr
      obtain ⟨b1, ⟨m, b2⟩, b3⟩ := back I6
      exact hRR _ _ s6 H5 m b1 q b2 b3
    · have d := T.item X' rfl rfl rfl hcalm i [] s5 _ H5 (fun _ _ => False) I5 (fpk fr5) st5 go
      rw [hP, hW, hA] at d
      refine thn d fun r s6 ⟨u, hr, h6⟩ => ?_
      subst hr
      refine thn h6 fun _ s7 ⟨x, H7, I7, r7, y7, st7, fr7⟩ => ?_
      have I7' := I7.pinned (fpk fr7) (T.obj _ _ st7)
      have a := hg' _ s7 _ H7 x u _ I7' r7 (stp x H7 y7)
      rw [hP, hW, hA, hxe] at a
      refine thn a fun _ s8 ⟨σ8, H8, I8, wk, q8⟩ => ?_
      have b := ht' _ s8 σ8 H8 _ I8 q8
      rw [hP, hW, hA, hxe] at b
      have again : ∀ {s9 : Shared} {H9 : Hp} {acc' : List V}, Inv X' ([] ++ pinsAt fp s7.heap) σ8 H9 s9 → (∃ m', m' < n ∧ W (i + 1) m' acc' H9) → ∃ m, m < n ∧ ∃ i acc H', Inv X' [] (sgC 1 fs σ) H' s9 ∧ tn i s9.heap ∧ (∀ b ∈ fp, H' b = none) ∧ W i m acc H' := fun {s9 H9 acc'} I9 ⟨m', hm, w9⟩ => by
        refine ⟨m', hm, i + 1, acc', H9, wk_weak (fs := fs) I9.unpinned wk, T.keep _ _ _ st7 fun b hb o e => (I9.pin (b, o) (List.mem_append_right _ (List.mem_append_right _ (mem_pinsAt hb e)))).1, fun b hb => ?_, w9⟩
        obtain ⟨o, e, d⟩ := T.obj _ _ st7 b hb
        exact (I9.pin (b, o) (List.mem_append_right _ (List.mem_append_right _ (mem_pinsAt hb e)))).2.1
      refine thn b fun ok s9 ⟨H9, I9, q9⟩ => ?_
      cases ok with
      | false =>
        rw [if_neg Bool.false_ne_true] at q9 ⊢
        exact again I9 q9
      | true =>
        rw [if_pos rfl] at q9 ⊢
        have c := he' _ s9 σ8 H9 _ I9 q9
        rw [hP, hW, hA, hxe] at c
        refine thn c fun y s10 ⟨v, H10, I10, r10, hl10, q10⟩ => ?_
        have d := mt_append (X := X') _ s10 σ8 H10 (.ref s2.heap.objs.size) [v] (.ref s2.heap.objs.size) [y] (fun v' H' => H' = upd H10 s2.heap.objs.size (.lst (acc ++ [v]))) I10 rfl (.cons r10 .nil) ⟨_, acc, v, rfl, rfl, hl10, hz, rfl⟩
        rw [hP, hW, hA, hxe] at d
        refine thn d fun _ s11 ⟨_, H11, I11, _, e11⟩ => ?_
        subst e11
        exact again I11 q10
  rw [hEnv] at loop
  exact codeAny_compStart_list loop (T.self _ 0 _ _ _ st4 loop)
theorem pe_compOF {gF : Addr → Shared → Hp → List Addr → TG} {tF : Addr → Shared → Hp → List Addr → TT} {eF : Addr → Shared → Hp → List Addr → TE} (hc : X.calm = true) (S : OFScope X scope y fs) (hi : PI X target iter wi)
    (hg : ∀ C s0 H0 ex, PG (cxOF X scope y C ([y] ++ fs.map (·.2)) s0 H0 ex) target (gF C s0 H0 ex)) (ht : ∀ C s0 H0 ex, PTs (cxOF X scope y C ([y] ++ fs.map (·.2)) s0 H0 ex) ifs (tF C s0 H0 ex)) (he : ∀ C s0 H0 ex, PE (cxOF X scope y C ([y] ++ fs.map (·.2)) s0 H0 ex) elt (eF C s0 H0 ex))
    (eg : ∀ C s0 H0 ex, gF C s0 H0 ex = gF 0 X.s₀ X.H₀ [] := by intros; rfl) (et : ∀ C s0 H0 ex, tF C s0 H0 ex = tF 0 X.s₀ X.H₀ [] := by intros; rfl) (ee : ∀ C s0 H0 ex, eF C s0 H0 ex = eF 0 X.s₀ X.H₀ [] := by intros; rfl)
    (hs : ∀ x, foldedSetIterable iter X.env x = pure x := by intro _; rfl) : PE X (.ListComp elt [⟨target, iter, ifs, 0⟩] scope pos) (tComp 1 fs wi (gF 0 X.s₀ X.H₀ []) (tF 0 X.s₀ X.H₀ []) (eF 0 X.s₀ X.H₀ [])) := by
  intro pins s σ H Q I h
  rw [eval_ListComp]
  refine wpAny_comprehension_free (use := none) rfl hs (closure_ok (S.has I.ok)) S.kind S.locs (thn (hi pins s σ H _ I h) fun v s1 h1 => thn h1 fun itv s2 h2 => ?_)
  obtain ⟨it, fp, tn, J, H2, e, I2, T, st2, f2, R⟩ := h2
  subst e
  refine comp_coreOF (RR := fun acc C => compPost (model X.prog X.w) X.A X.xe none (EP X pins σ Q) acc C) hc S (fun C s0 H0 ex => by rw [← eg C s0 H0 ex]; exact hg C s0 H0 ex) (fun C s0 H0 ex => by rw [← et C s0 H0 ex]; exact ht C s0 H0 ex) (fun C s0 H0 ex => by rw [← ee C s0 H0 ex]; exact he C s0 H0 ex) I2 T st2 f2 R fun l C s' H' m I' q hn f => ?_
  refine ⟨m, hn, fun h' hs' => ⟨.ref l, H', ?_, rfl, q⟩⟩
  obtain ⟨f0, f1, f2, f3, f4, f5⟩ := f
  exact I'.turned (t' := s'.toks) (fun b o hb e => hs'.extBut b o hb e) f0 f1 f3 f4 f5
end
end L2
namespace L2
open PySem
theorem OFScope.mk' {X : Cx} {scope : Scope} {y : Str} {fs : List (Nat × Str)} (kind : scope.kind = .function) (locs : ∀ z ∈ scope.names, z.2 = .local → scope.names.lookup z.1 = some .local) (own : ∀ z ∈ scope.names, z.2 = .cell → z.1 = y) (ycell : scope.names.lookup y = some .cell)
    (c : (scope.names.all fun z => (z.2 != NameKind.free || X.env.scope.names.lookup z.1 == some .cell || X.env.scope.names.lookup z.1 == some .free)) = true) (f : FsOk X.N scope fs) (cells : ∀ n cl, cellsFrom n scope.names cl = (y, n) :: cl) : OFScope X scope y fs := by
  refine ⟨kind, locs, own, ycell, fun z hz e => ?_, f, cells⟩
  have h := List.all_eq_true.mp c z hz
  rw [e] at h
  simp at h
  exact h
end L2
namespace Bm
open PySem L2
noncomputable def top (i : Nat) : Stmt := PySem.Challenge.pw_beatmakers_k04_whole_the_fewest_voters.main.body.getD i (.Pass ⟨0, 0, 0, 0⟩)
noncomputable abbrev sCheckCount : Stmt := top 7
noncomputable abbrev sCheckWeb : Stmt := top 8
noncomputable abbrev sLeadAmong : Stmt := top 10
noncomputable abbrev sFewest : Stmt := top 13
noncomputable abbrev sPlaces : Stmt := top 14
noncomputable abbrev sInReach : Stmt := top 15
noncomputable abbrev sPairsOf : Stmt := top 16
noncomputable abbrev sWishOf : Stmt := top 17
noncomputable abbrev sOrdersOf : Stmt := top 18
noncomputable abbrev sStepsOf : Stmt := top 19
noncomputable abbrev sCellAt : Stmt := top 21
noncomputable abbrev sWhole : Stmt := top 22
noncomputable abbrev sOrder : Stmt := top 23
noncomputable abbrev sVoters : Stmt := top 24
noncomputable abbrev sLawLead : Stmt := top 25
noncomputable abbrev sBeats : Stmt := top 26
noncomputable abbrev sLawWeb : Stmt := top 27
noncomputable abbrev sOrders : Stmt := top 28
noncomputable abbrev sIsOrder : Stmt := top 30
noncomputable abbrev sIsVoters : Stmt := top 31
noncomputable abbrev sLeads : Stmt := top 32
noncomputable abbrev sSigns : Stmt := top 33
noncomputable abbrev sLeast : Stmt := top 34
noncomputable abbrev sWished : Stmt := top 35
noncomputable abbrev sLaw : Stmt := top 36
end Bm
namespace L2
theorem tYes_mk {σ : St} {H : Hp} {A B : Hp → Prop} (h : A H) : tYes σ H fun b H3 => if b = true then A H3 else B H3 := by
  show if true = true then A H else B H
  rw [if_pos rfl]; exact h
end L2
namespace L2
open PySem
theorem hu2_of {A : Around} {k : Nat} (hr : Room k A) : A.units + 2 < cLine := Nat.lt_of_le_of_lt (Nat.add_le_add_left (by decide : 2 ≤ 64) _) hr.units
end L2
namespace Bm
open PySem L2
structure Blt (mg : Str → Option Value) : Prop where
  range : mg "range" = none
  len : mg "len" = none
  list : mg "list" = none
  sorted : mg "sorted" = none
  tuple : mg "tuple" = none
  isi : mg "isinstance" = none
  int : mg "int" = none
  bool : mg "bool" = none
  all : mg "all" = none
  set : mg "set" = none
  reversed : mg "reversed" = none
  str : mg "str" = none
structure Glob (mg : Str → Option Value) : Prop where
  most : ∃ t, mg "MOST_THINGS" = some (.int 6 t)
noncomputable def rangeK (k : Nat) : List Int := (List.range k).map fun i => (0 : Int) + (i : Nat)
noncomputable def rangeI (n : Int) : List Int := rangeK n.toNat
noncomputable def spCount : Sp := fun vs H Q _ => ∃ n : Int, vs = [.int n] ∧ 1 ≤ n ∧ n ≤ 6 ∧ Q .non H
noncomputable def VAt (K : PySem.W.Frag) (H : Hp) (a : Addr) (L : List (List Int)) : Prop := ∃ xs, SqL K H a xs ∧ Paired (dT H) L xs
theorem VAt.same {K : PySem.W.Frag} {H H' : Hp} {a : Addr} {L : List (List Int)} (h : VAt K H a L) (s : Same H H') : VAt K H' a L := let ⟨xs, h1, h2⟩ := h; ⟨xs, s.seq h1, pd_same (dT_same s) h2⟩
noncomputable def Ords (n : Int) (L : List (List Int)) : Prop := ∀ o ∈ L, o.Perm (rangeI n)
noncomputable def before (one other : Int) (o : List Int) : Bool := decide ((o.idxOf one : Int) < (o.idxOf other : Int))
noncomputable def leadM (L : List (List Int)) (one other : Int) : Int := 2 * ((L.filter (before one other)).length : Int) - (L.length : Int)
theorem rangeK_mem {k : Nat} {i : Int} : i ∈ rangeK k ↔ 0 ≤ i ∧ i < k := by
  unfold rangeK
  rw [List.mem_map]
  constructor
  · rintro ⟨j, hj, rfl⟩
    have := List.mem_range.mp hj
    (first | lia | omega)
  · intro h
    exact ⟨i.toNat, List.mem_range.mpr (by (first | lia | omega)), by (first | lia | omega)⟩
theorem rangeI_mem {n i : Int} (h : 0 ≤ i) (h2 : i < n) : i ∈ rangeI n := rangeK_mem.mpr (by (first | lia | omega))
theorem rangeK_len (k : Nat) : (rangeK k).length = k := by unfold rangeK; rw [List.length_map, List.length_range]
theorem rangeK_succ (k : Nat) : rangeK (k + 1) = rangeK k ++ [(0 : Int) + (k : Nat)] := by unfold rangeK; rw [List.range_succ, List.map_append]; rfl
theorem rangeK_sorted (k : Nat) : (rangeK k).Pairwise (· ≤ ·) := by
  induction k with
  | zero => exact .nil
  | succ k ih =>
    rw [rangeK_succ, List.pairwise_append]
    refine ⟨ih, List.pairwise_singleton _ _, fun a ha b hb => ?_⟩
    have h1 := rangeK_mem.mp ha
    have h2 : b = (0 : Int) + (k : Nat) := by simpa using hb
    (first | lia | omega)
theorem rangeK_nodup (k : Nat) : (rangeK k).Nodup := by
  induction k with
  | zero => exact List.nodup_nil
  | succ k ih =>
    rw [rangeK_succ, List.nodup_append]
    refine ⟨ih, by simp, fun a ha b hb => ?_⟩
    have h1 := rangeK_mem.mp ha
    have h2 : b = (0 : Int) + (k : Nat) := by simpa using hb
    (first | lia | omega)
theorem things_eq (n : Int) : ((List.range (n - 0).toNat).map fun i => V.int ((0 : Int) + (i : Nat))) = (rangeI n).map V.int := by
  unfold rangeI rangeK
  rw [List.map_map, Int.sub_zero]
  rfl
noncomputable def spAmong (K : PySem.W.Frag) : Sp := fun vs H Q _ => ∃ (a : Addr) (L : List (List Int)) (one other : Int), vs = [.ref a, .int one, .int other] ∧ VAt K H a L ∧ (∀ o ∈ L, one ∈ o ∧ other ∈ o) ∧ L.length ≤ 1000 ∧ ∀ H', Same H H' → Q (.int (leadM L one other)) H'
theorem erase_map {α β : Type} (f : α → β) : ∀ (l : List α) (i : Nat), (l.map f).eraseIdx i = (l.eraseIdx i).map f
  | [], _ => rfl
  | _ :: _, 0 => rfl
  | a :: l, i + 1 => by rw [List.map_cons, List.eraseIdx_cons_succ, List.eraseIdx_cons_succ, List.map_cons, erase_map f l i]
theorem erase_perm {α : Type} : ∀ {l : List α} {i : Nat} (h : i < l.length), (l[i] :: l.eraseIdx i).Perm l
  | [], _, h => by simp at h
  | _ :: _, 0, _ => .refl _
  | a :: l, i + 1, h => by
    have h' : i < l.length := by simpa using h
    show (l[i] :: a :: l.eraseIdx i).Perm (a :: l)
    exact (List.Perm.swap a l[i] _).trans ((erase_perm h').cons a)
noncomputable def spCell (K : PySem.W.Frag) : Sp := fun vs H Q _ => ∃ (a : Addr) (ns : List Int) (k : Int), vs = [.ref a, .int k] ∧ SqL K H a (ns.map V.int) ∧ 0 ≤ k ∧ Q (.int (ns.getD k.toNat 0)) H
noncomputable def spWhole : Sp := fun vs H Q _ => ∃ i : Int, vs = [.int i] ∧ Q (.bl true) H
noncomputable def spOrder : Sp := fun vs H Q _ => ∃ c n : Int, vs = [.int c, .int n] ∧ 1 ≤ n ∧ n ≤ 6 ∧ ∀ H' p (o : List Int), Same H H' → H p = none → H' p = some (.tup (o.map V.int)) → o.Perm (rangeI n) → Q (.ref p) H'
noncomputable def spLawVoters (K : PySem.W.Frag) : Sp := fun vs H Q _ => ∃ (a : Addr) (ns : List Int) (start n most : Int), vs = [.ref a, .int start, .int n, .int most] ∧ SqL K H a (ns.map V.int) ∧ 0 ≤ start ∧ 1 ≤ n ∧ n ≤ 6 ∧ 0 ≤ most ∧ most ≤ 60 ∧
  ∀ H' p xs L, Same H H' → H p = none → H' p = some (.lst xs) → Paired (dT H') L xs → Ords n L → L.length ≤ 100 → Q (.ref p) H'
theorem ords_take {n : Int} {L : List (List Int)} (h : Ords n L) (k : Nat) : Ords n (L.take k) := fun o ho => h o (List.mem_of_mem_take ho)
theorem ords_append {n : Int} {L M : List (List Int)} (h : Ords n L) (h' : Ords n M) : Ords n (L ++ M) := fun o ho => (List.mem_append.mp ho).elim (h o) (h' o)
theorem ords_rep {n : Int} {L : List (List Int)} (h : Ords n L) (k : Nat) : Ords n (List.replicate k L).flatten := fun o ho => by
  obtain ⟨M, hM, hm⟩ := List.mem_flatten.mp ho
  rw [(List.mem_replicate.mp hM).2] at hm
  exact h o hm
theorem cut_take (xs : List V) {e : Int} (h : 0 ≤ e) : cutV xs none (some e) = xs.take e.toNat := by
  unfold cutV
  have h1 : HT.sIx xs.length 0 none = 0 := rfl
  have h2 : HT.sIx xs.length xs.length (some e) = min e.toNat xs.length := by
    show (if e < 0 then _ else min e.toNat xs.length) = _
    rw [if_neg (by (first | lia | omega))]
  rw [h1, h2, List.drop_zero, Nat.sub_zero]
  by_cases hl : e.toNat ≤ xs.length
  · rw [Nat.min_eq_left hl]
  · rw [Nat.min_eq_right (by (first | lia | omega)), List.take_length, List.take_of_length_le (by (first | lia | omega))]
noncomputable def winB (L : List (List Int)) (one other : Int) : Bool := !decide (one = other) && decide (0 < leadM L one other)
noncomputable def rowM (L : List (List Int)) (one : Int) (k : Nat) : List (List Int) := ((rangeK k).filter (winB L one)).map fun other => [one, other]
noncomputable def beatsM (L : List (List Int)) (n i : Nat) : List (List Int) := (rangeK i).flatMap fun one => rowM L one n
theorem rowM_succ (L : List (List Int)) (one : Int) (k : Nat) : rowM L one (k + 1) = rowM L one k ++ (if winB L one ((0 : Int) + (k : Nat)) = true then [[one, (0 : Int) + (k : Nat)]] else []) := by
  unfold rowM
  rw [rangeK_succ, List.filter_append, List.map_append]
  congr 1
  by_cases h : winB L one ((0 : Int) + (k : Nat)) = true
  · rw [if_pos h, List.filter_cons_of_pos h]; rfl
  · rw [if_neg h, List.filter_cons_of_neg h]; rfl
theorem beatsM_succ (L : List (List Int)) (n i : Nat) : beatsM L n (i + 1) = beatsM L n i ++ rowM L ((0 : Int) + (i : Nat)) n := by
  unfold beatsM
  rw [rangeK_succ, List.flatMap_append]
  congr 1
  rw [List.flatMap_cons, List.flatMap_nil, List.append_nil]
noncomputable def spWeb (K : PySem.W.Frag) : Sp := fun vs H Q _ => ∃ (n : Int) (a : Addr) (L : List (List Int)), vs = [.int n, .ref a] ∧ 1 ≤ n ∧ n ≤ 6 ∧ VAt K H a L ∧ Ords n L ∧ L.length ≤ 1000 ∧
  ∀ H' wb ws, Same H H' → H wb = none → H' wb = some (.lst ws) → Paired (dT H') (beatsM L n.toNat n.toNat) ws → Q (.ref wb) H'
theorem dT_keep {H H' : Hp} {wb : Addr} {ws : List V} {o : HO} (hw : H wb = some (.lst ws)) (s : ∀ b u, H b = some u → b ≠ wb → H' b = some u) : ∀ a x, dT H a x → dT H' a x := fun _ _ ⟨p, e, h⟩ => ⟨p, e, s _ _ h (ne_of h hw (by intro z; cases z))⟩
theorem take_filter_succ {α : Type} (p : α → Bool) {l : List α} {i : Nat} {v : α} (h : l[i]? = some v) : (l.take (i + 1)).filter p = (l.take i).filter p ++ (if p v = true then [v] else []) := PySem.take_succ_filter p l i v h
theorem ord_mem {n : Int} {L : List (List Int)} (hO : Ords n L) {i : Int} (h : 0 ≤ i ∧ i < n) : ∀ o ∈ L, i ∈ o := fun o ho => (hO o ho).mem_iff.mpr (rangeI_mem h.1 h.2)
end Bm
namespace Bm
structure Good (n : Int) (W : List (Int × Int)) : Prop where
  rng : ∀ b ∈ W, (0 ≤ b.1 ∧ b.1 < n) ∧ (0 ≤ b.2 ∧ b.2 < n)
  irr : ∀ b ∈ W, b.1 ≠ b.2
  nodup : W.Nodup
  asym : ∀ b ∈ W, (b.2, b.1) ∉ W
  len : W.length ≤ 40
inductive Walk (W : List (Int × Int)) : Nat → Int → Int → Prop
  | nil (a : Int) : Walk W 0 a a
  | snoc {m : Nat} {a b c : Int} : Walk W m a b → (b, c) ∈ W → Walk W (m + 1) a c
theorem nodup_len {α : Type} [DecidableEq α] : ∀ {a b : List α}, a.Nodup → (∀ x ∈ a, x ∈ b) → a.length ≤ b.length
  | [], _, _, _ => Nat.zero_le _
  | x :: a, b, h, hs => by
    have hx := hs x List.mem_cons_self
    have hn := List.nodup_cons.mp h
    have := nodup_len (a := a) (b := b.erase x) hn.2 fun y hy => (List.mem_erase_of_ne (fun e => hn.1 (by rw [← e]; exact hy))).mpr (hs y (List.mem_cons_of_mem _ hy))
    rw [List.length_erase_of_mem hx] at this
    have h0 : 0 < b.length := List.length_pos_of_mem hx
    rw [List.length_cons]
    (first | lia | omega)
theorem perm_of_sub {α : Type} [DecidableEq α] : ∀ {a b : List α}, a.Nodup → (∀ x ∈ a, x ∈ b) → b.length ≤ a.length → b.Perm a
  | [], b, _, _, hl => by
    have : b = [] := List.eq_nil_of_length_eq_zero (by simpa using hl)
    rw [this]
  | x :: a, b, h, hs, hl => by
    have hx := hs x List.mem_cons_self
    have hn := List.nodup_cons.mp h
    have h0 : 0 < b.length := List.length_pos_of_mem hx
    refine (List.perm_cons_erase hx).trans ((perm_of_sub hn.2 (fun y hy => (List.mem_erase_of_ne (fun e => hn.1 (by rw [← e]; exact hy))).mpr (hs y (List.mem_cons_of_mem _ hy))) ?_).cons x)
    rw [List.length_erase_of_mem hx]
    rw [List.length_cons] at hl
    (first | lia | omega)
noncomputable def cands (n : Int) (r : List Int) : List Int := (rangeI n).filter fun t => !decide (t ∈ r)
noncomputable def stepO (n : Int) (r : List Int) : List (List Int) := (cands n r).map fun t => r ++ [t]
noncomputable def ordersM (n : Int) : Nat → List (List Int)
  | 0 => [[]]
  | k + 1 => (ordersM n k).flatMap (stepO n)
noncomputable def extM (n : Int) : Nat → List Int → List (List Int)
  | 0, r => [r]
  | k + 1, r => (cands n r).flatMap fun t => extM n k (r ++ [t])
theorem extM_succ (n : Int) : ∀ (k : Nat) (r : List Int), extM n (k + 1) r = (extM n k r).flatMap (stepO n)
  | 0, r => by
    show (cands n r).flatMap (fun t => [r ++ [t]]) = [r].flatMap (stepO n)
    rw [List.flatMap_cons, List.flatMap_nil, List.append_nil]
    unfold stepO
    rw [List.map_eq_flatMap]
  | k + 1, r => by
    show (cands n r).flatMap (fun t => extM n (k + 1) (r ++ [t])) = ((cands n r).flatMap fun t => extM n k (r ++ [t])).flatMap (stepO n)
    rw [List.flatMap_assoc]
    congr 1
    funext t
    exact extM_succ n k _
theorem ordersM_eq (n : Int) : ∀ k : Nat, ordersM n k = extM n k []
  | 0 => rfl
  | k + 1 => by rw [extM_succ, ← ordersM_eq n k]; rfl
theorem cands_mem {n : Int} {r : List Int} {t : Int} : t ∈ cands n r ↔ t ∈ rangeI n ∧ t ∉ r := by
  unfold cands
  rw [List.mem_filter]
  simp
theorem rangeI_nodup (n : Int) : (rangeI n).Nodup := rangeK_nodup _
theorem cands_nodup (n : Int) (r : List Int) : (cands n r).Nodup := (rangeI_nodup n).filter _
theorem cands_snoc {n : Int} {r : List Int} {t : Int} : cands n (r ++ [t]) = (cands n r).erase t := by
  rw [(cands_nodup n r).erase_eq_filter]
  unfold cands
  rw [List.filter_filter]
  congr 1
  funext x
  rw [Bool.eq_iff_iff]
  simp
  exact And.comm
theorem cands_len {n : Int} {r : List Int} {t : Int} (h : t ∈ cands n r) : (cands n (r ++ [t])).length + 1 = (cands n r).length := by
  rw [cands_snoc, List.length_erase_of_mem h]
  have := List.length_pos_of_mem h
  (first | lia | omega)
theorem cands_nil (n : Int) : cands n [] = rangeI n := by
  unfold cands
  rw [List.filter_eq_self]
  intro a _
  simp
theorem ext_full {n : Int} : ∀ {k : Nat} {r o : List Int}, (cands n r).length = k → o ∈ extM n k r → ∀ x ∈ rangeI n, x ∈ o
  | 0, r, o, hk, h, x, hx => by
    rw [List.mem_singleton.mp h]
    have e : cands n r = [] := List.eq_nil_of_length_eq_zero hk
    by_cases hr : x ∈ r
    · exact hr
    · have := cands_mem.mpr ⟨hx, hr⟩
      rw [e] at this
      cases this
  | k + 1, r, o, hk, h, x, hx => by
    obtain ⟨t, ht, h⟩ := List.mem_flatMap.mp h
    exact ext_full (by have := cands_len ht; (first | lia | omega)) h x hx
structure Pre (n : Int) (W : List (Int × Int)) (r : List Int) : Prop where
  nodup : r.Nodup
  sub : ∀ x ∈ r, x ∈ rangeI n
  ok : ∀ b ∈ W, b.2 ∈ r → b.1 ∈ r ∧ r.idxOf b.1 < r.idxOf b.2
theorem Good.mem {n : Int} {W : List (Int × Int)} (g : Good n W) {b : Int × Int} (h : b ∈ W) : b.1 ∈ rangeI n ∧ b.2 ∈ rangeI n :=
  ⟨rangeI_mem (g.rng b h).1.1 (g.rng b h).1.2, rangeI_mem (g.rng b h).2.1 (g.rng b h).2.2⟩
structure Stuck (n : Int) (W : List (Int × Int)) (S : List Int) : Prop where
  ne : S ≠ []
  nodup : S.Nodup
  sub : ∀ x ∈ S, x ∈ rangeI n
  pred : ∀ t ∈ S, ∃ u ∈ S, (u, t) ∈ W
structure RingOk (W : List (Int × Int)) (r : List Int) : Prop where
  ne : r ≠ []
  nodup : r.Nodup
  step : ∀ k a b, r[k]? = some a → r[k + 1]? = some b → (a, b) ∈ W
  close : ∀ a b, r[r.length - 1]? = some a → r[0]? = some b → (a, b) ∈ W
structure Row (W : List (Int × Int)) (s : Int) (k : Nat) (R row : List Int) : Prop where
  len : row.length = k + 1
  head : row[0]? = some s
  step : ∀ k a b, row[k]? = some a → row[k + 1]? = some b → (a, b) ∈ W
  nodup : row.Nodup
  sub : ∀ x ∈ row, x ∈ R
  walk : ∀ l, row[k]? = some l → Walk W k s l
structure Lev (n : Int) (W : List (Int × Int)) (s : Int) (k : Nat) (R : List Int) (rows : List (List Int)) : Prop where
  row : ∀ row ∈ rows, Row W s k R row
  rng : ∀ x ∈ R, x ∈ rangeI n
  nodup : R.Nodup
  st : s ∈ R
  all : ∀ m u, m ≤ k → Walk W m s u → u ∈ R
  noc : ∀ m, m < k → ¬ Walk W (m + 1) s s
  loc : ∀ u v, (u, v) ∈ W → u ∈ R → (∃ row ∈ rows, row[k]? = some u) ∨ (v ≠ s ∧ v ∈ R)
  cnt : rows.length ≤ R.length
structure Mid (n : Int) (W : List (Int × Int)) (s : Int) (k : Nat) (R0 R : List Int) (longer : List (List Int)) : Prop where
  row : ∀ row ∈ longer, Row W s (k + 1) R row
  rng : ∀ x ∈ R, x ∈ rangeI n
  nodup : R.Nodup
  sub0 : ∀ x ∈ R0, x ∈ R
  new : ∀ x ∈ R, x ∈ R0 ∨ ∃ row ∈ longer, row[k + 1]? = some x
  cnt : longer.length ≤ R.length
structure Found (W : List (Int × Int)) (s : Int) (r : List Int) : Prop where
  ring : RingOk W r
  walk : Walk W r.length s s
  least : ∀ m, Walk W (m + 1) s s → r.length ≤ m + 1
end Bm
namespace Bm
open PySem L2
noncomputable def dP : Den (Int × Int) := fun H b v => dT H [b.1, b.2] v
theorem dP_same {H H' : Hp} (s : Same H H') : ∀ a x, dP H a x → dP H' a x := fun _ _ h => dT_same s _ _ h
theorem dP_inj : ∀ (H : Hp) (a b : Int × Int) (x : V), dP H a x → dP H b x → a = b := fun H a b x h1 h2 => by
  have e := dT_inj H _ _ x h1 h2
  injection e with e1 e2
  injection e2 with e2 _
  exact Prod.ext e1 e2
theorem eq_dP_ok {X : Cx} : EqOk X dP 1 := by
  intro A pins s σ H a b x y u v hu I ha hb ru rv
  have h := eq_dT_ok (X := X) A pins s σ H [a.1, a.2] [b.1, b.2] x y u v hu I ha hb ru rv
  have e : decide (([a.1, a.2] : List Int) = [b.1, b.2]) = decide (a = b) := by
    rw [Bool.eq_iff_iff, decide_eq_true_eq, decide_eq_true_eq]
    constructor
    · intro e
      injection e with e1 e2
      injection e2 with e2 _
      exact Prod.ext e1 e2
    · intro e; rw [e]
  rw [e] at h
  exact h
noncomputable def WAt (K : PySem.W.Frag) (H : Hp) (a : Addr) (W : List (Int × Int)) : Prop := ∃ xs, SqL K H a xs ∧ Paired (dP H) W xs
theorem WAt.same {K : PySem.W.Frag} {H H' : Hp} {a : Addr} {W : List (Int × Int)} (h : WAt K H a W) (s : Same H H') : WAt K H' a W := let ⟨xs, h1, h2⟩ := h; ⟨xs, s.seq h1, pd_same (dP_same s) h2⟩
noncomputable def spCheckWeb (K : PySem.W.Frag) : Sp := fun vs H Q _ => ∃ (n : Int) (a : Addr) (W : List (Int × Int)), vs = [.int n, .ref a] ∧ 1 ≤ n ∧ n ≤ 6 ∧ WAt K H a W ∧ Good n W ∧ ∀ H', Same H H' → Q .non H'
structure Least (n : Int) (W : List (Int × Int)) (r : List Int) : Prop where
  ring : RingOk W r
  walk : ∃ s, s ∈ rangeI n ∧ Walk W r.length s s
  least : ∀ s ∈ rangeI n, ∀ m, Walk W (m + 1) s s → r.length ≤ m + 1
theorem map_get {ns : List Int} {i : Nat} {x : V} (h : (ns.map V.int)[i]? = some x) : ∃ t, ns[i]? = some t ∧ x = .int t := by
  rw [List.getElem?_map] at h
  cases e : ns[i]? with
  | none => rw [e] at h; cases h
  | some t => rw [e] at h; cases h; exact ⟨t, rfl, rfl⟩
end Bm
namespace Bm
noncomputable def canonP (n : Nat) (p : Int → Int → Bool) : List (Int × Int) := (rangeK n).flatMap fun i => ((rangeK n).filter fun j => !decide (i = j) && p i j).map fun j => (i, j)
noncomputable def ltP (b c : Int × Int) : Prop := b.1 < c.1 ∨ (b.1 = c.1 ∧ b.2 < c.2)
theorem canon_mem {n : Nat} {p : Int → Int → Bool} {b : Int × Int} : b ∈ canonP n p ↔ b.1 ∈ rangeK n ∧ b.2 ∈ rangeK n ∧ b.1 ≠ b.2 ∧ p b.1 b.2 = true := by
  unfold canonP
  rw [List.mem_flatMap]
  constructor
  · rintro ⟨i, hi, h⟩
    obtain ⟨j, hj, rfl⟩ := List.mem_map.mp h
    rw [List.mem_filter, Bool.and_eq_true] at hj
    exact ⟨hi, hj.1, by simpa using hj.2.1, hj.2.2⟩
  · rintro ⟨h1, h2, h3, h4⟩
    refine ⟨b.1, h1, List.mem_map.mpr ⟨b.2, List.mem_filter.mpr ⟨h2, ?_⟩, rfl⟩⟩
    rw [Bool.and_eq_true]
    exact ⟨by simpa using h3, h4⟩
theorem rangeK_lt (k : Nat) : (rangeK k).Pairwise (· < ·) := by
  induction k with
  | zero => exact .nil
  | succ k ih =>
    rw [rangeK_succ, List.pairwise_append]
    refine ⟨ih, List.pairwise_singleton _ _, fun a ha b hb => ?_⟩
    have h1 := rangeK_mem.mp ha
    have h2 : b = (0 : Int) + (k : Nat) := by simpa using hb
    (first | lia | omega)
theorem flat_pairwise {g : Int → List (Int × Int)} : ∀ {l : List Int}, l.Pairwise (· < ·) → (∀ i ∈ l, (g i).Pairwise ltP ∧ ∀ b ∈ g i, b.1 = i) → (l.flatMap g).Pairwise ltP
  | [], _, _ => .nil
  | i :: l, h, k => by
    rw [List.flatMap_cons, List.pairwise_append]
    have hc := List.pairwise_cons.mp h
    refine ⟨(k i List.mem_cons_self).1, flat_pairwise hc.2 fun j hj => k j (List.mem_cons_of_mem _ hj), fun a ha b hb => ?_⟩
    obtain ⟨j, hj, hb⟩ := List.mem_flatMap.mp hb
    have e1 := (k i List.mem_cons_self).2 a ha
    have e2 := (k j (List.mem_cons_of_mem _ hj)).2 b hb
    have := hc.1 j hj
    exact .inl (by rw [e1, e2]; exact this)
theorem canon_sorted (n : Nat) (p : Int → Int → Bool) : (canonP n p).Pairwise ltP := by
  refine flat_pairwise (rangeK_lt n) fun i _ => ⟨?_, fun b hb => ?_⟩
  · refine List.pairwise_map.mpr (((rangeK_lt n).filter _).imp ?_)
    intro a b h
    exact .inr ⟨rfl, h⟩
  · obtain ⟨j, _, rfl⟩ := List.mem_map.mp hb
    rfl
theorem sorted_unique : ∀ {a b : List (Int × Int)}, a.Pairwise ltP → b.Pairwise ltP → (∀ x, x ∈ a ↔ x ∈ b) → a = b
  | [], [], _, _, _ => rfl
  | [], y :: b, _, _, h => by have := (h y).mpr List.mem_cons_self; cases this
  | x :: a, [], _, _, h => by have := (h x).mp List.mem_cons_self; cases this
  | x :: a, y :: b, ha, hb, h => by
    have h1 := List.pairwise_cons.mp ha
    have h2 := List.pairwise_cons.mp hb
    have e : x = y := by
      rcases List.mem_cons.mp ((h x).mp List.mem_cons_self) with e | e
      · exact e
      · rcases List.mem_cons.mp ((h y).mpr List.mem_cons_self) with e' | e'
        · exact e'.symm
        · have l1 := h1.1 y e'
          have l2 := h2.1 x e
          unfold ltP at l1 l2
          (first | lia | omega)
    subst e
    refine congrArg (x :: ·) (sorted_unique h1.2 h2.2 fun z => ⟨fun hz => ?_, fun hz => ?_⟩)
    · rcases List.mem_cons.mp ((h z).mp (List.mem_cons_of_mem _ hz)) with e | e
      · have l := h1.1 z hz
        rw [e] at l
        unfold ltP at l
        (first | lia | omega)
      · exact e
    · rcases List.mem_cons.mp ((h z).mpr (List.mem_cons_of_mem _ hz)) with e | e
      · have l := h2.1 z hz
        rw [e] at l
        unfold ltP at l
        (first | lia | omega)
      · exact e
noncomputable def webC (n : Int) (W : List (Int × Int)) : List (Int × Int) := canonP n.toNat fun i j => decide ((i, j) ∈ W)
noncomputable def beatsC (n : Int) (L : List (List Int)) : List (Int × Int) := canonP n.toNat fun i j => decide (0 < leadM L i j)
theorem webC_of {n : Int} {W W' : List (Int × Int)} (g : Good n W) (hp : ∀ x, x ∈ W' ↔ x ∈ W) (hs : W'.Pairwise ltP) : W' = webC n W := by
  refine sorted_unique hs (canon_sorted _ _) fun x => ?_
  rw [hp, webC, canon_mem]
  constructor
  · intro hx
    exact ⟨(g.mem hx).1, (g.mem hx).2, g.irr x hx, decide_eq_true hx⟩
  · rintro ⟨_, _, _, h⟩
    exact of_decide_eq_true h
theorem webC_mem {n : Int} {W : List (Int × Int)} (g : Good n W) {x : Int × Int} : x ∈ webC n W ↔ x ∈ W := by
  rw [webC, canon_mem]
  constructor
  · rintro ⟨_, _, _, h⟩
    exact of_decide_eq_true h
  · intro hx
    exact ⟨(g.mem hx).1, (g.mem hx).2, g.irr x hx, decide_eq_true hx⟩
theorem canon_congr {n : Nat} {p q : Int → Int → Bool} (h : ∀ i ∈ rangeK n, ∀ j ∈ rangeK n, i ≠ j → p i j = q i j) : canonP n p = canonP n q := by
  refine sorted_unique (canon_sorted _ _) (canon_sorted _ _) fun x => ?_
  rw [canon_mem, canon_mem]
  constructor
  · rintro ⟨h1, h2, h3, h4⟩
    exact ⟨h1, h2, h3, by rw [← h _ h1 _ h2 h3]; exact h4⟩
  · rintro ⟨h1, h2, h3, h4⟩
    exact ⟨h1, h2, h3, by rw [h _ h1 _ h2 h3]; exact h4⟩
theorem canon_len (n : Nat) (p : Int → Int → Bool) : (canonP n p).length ≤ n * n := by
  have key : ∀ (l : List Int), (l.flatMap fun i => ((rangeK n).filter fun j => !decide (i = j) && p i j).map fun j => (i, j)).length ≤ l.length * n := by
    intro l
    induction l with
    | nil => exact Nat.zero_le _
    | cons i l ih =>
      rw [List.flatMap_cons, List.length_append, List.length_map, List.length_cons, Nat.succ_mul]
      have := List.length_filter_le (fun j => !decide (i = j) && p i j) (rangeK n)
      rw [rangeK_len] at this
      (first | lia | omega)
  have := key (rangeK n)
  rw [rangeK_len] at this
  exact this
theorem lead_append (L M : List (List Int)) (x y : Int) : leadM (L ++ M) x y = leadM L x y + leadM M x y := by
  unfold leadM
  rw [List.filter_append, List.length_append, List.length_append]
  (first | lia | omega)
theorem lead_one (o : List Int) (x y : Int) : leadM [o] x y = if before x y o = true then 1 else -1 := by
  unfold leadM
  by_cases h : before x y o = true
  · rw [List.filter_cons_of_pos h, if_pos h]; rfl
  · rw [List.filter_cons_of_neg h, if_neg h]; rfl
theorem lead_cons (o : List Int) (L : List (List Int)) (x y : Int) : leadM (o :: L) x y = leadM [o] x y + leadM L x y := lead_append [o] L x y
theorem idx_inj {o : List Int} {x y : Int} (hx : x ∈ o) (hy : y ∈ o) (h : o.idxOf x = o.idxOf y) : x = y := by
  have e1 := List.getElem_idxOf (List.idxOf_lt_length_iff.mpr hx)
  have e2 := List.getElem_idxOf (List.idxOf_lt_length_iff.mpr hy)
  rw [← e1, ← e2]
  congr 1
theorem before_flip {o : List Int} {x y : Int} (hx : x ∈ o) (hy : y ∈ o) (hne : x ≠ y) : before y x o = !before x y o := by
  have : o.idxOf x ≠ o.idxOf y := fun e => hne (idx_inj hx hy e)
  unfold before
  by_cases h : (o.idxOf x : Int) < (o.idxOf y : Int)
  · rw [decide_eq_true h, decide_eq_false (by (first | lia | omega))]; rfl
  · rw [decide_eq_false h, decide_eq_true (by (first | lia | omega))]; rfl
theorem lead_flip {n : Int} {L : List (List Int)} (hO : Ords n L) {x y : Int} (hx : x ∈ rangeI n) (hy : y ∈ rangeI n) (hne : x ≠ y) : leadM L y x = - leadM L x y := by
  induction L with
  | nil => rfl
  | cons o L ih =>
    have hp := hO o List.mem_cons_self
    rw [lead_cons, lead_cons (x := x), ih fun o ho => hO o (List.mem_cons_of_mem _ ho), lead_one, lead_one, before_flip (hp.mem_iff.mpr hx) (hp.mem_iff.mpr hy) hne]
    by_cases h : before x y o = true
    · rw [h]; simp only [Bool.not_true, Bool.false_eq_true, if_false, if_true]; (first | lia | omega)
    · rw [Bool.eq_false_iff.mpr h]; simp only [Bool.not_false, if_true, Bool.false_eq_true, if_false]; (first | lia | omega)
theorem idx_get {o : List Int} (hn : o.Nodup) {i : Nat} (h : i < o.length) : o.idxOf o[i] = i := by
  have hm : o[i] ∈ o := List.getElem_mem h
  have h1 := List.idxOf_lt_length_iff.mpr hm
  have e := List.getElem_idxOf h1
  exact (List.getElem?_inj h1 hn).mp (by rw [List.getElem?_eq_getElem h1, List.getElem?_eq_getElem h, e])
theorem idx_rev {o : List Int} (hn : o.Nodup) {x : Int} (hx : x ∈ o) : o.reverse.idxOf x + o.idxOf x + 1 = o.length := by
  have h1 := List.idxOf_lt_length_iff.mpr hx
  have hr : o.length - 1 - o.idxOf x < o.reverse.length := by rw [List.length_reverse]; (first | lia | omega)
  have e : o.reverse[o.length - 1 - o.idxOf x] = x := by
    rw [List.getElem_reverse]
    have : o.length - 1 - (o.length - 1 - o.idxOf x) = o.idxOf x := by (first | lia | omega)
    simp only [this]
    exact List.getElem_idxOf h1
  have := idx_get ((List.reverse_perm o).nodup_iff.mpr hn) hr
  rw [e] at this
  (first | lia | omega)
noncomputable def restM (n : Int) (b : Int × Int) : List Int := (rangeI n).filter fun t => !decide (t = b.1) && !decide (t = b.2)
noncomputable def twoM (n : Int) (b : Int × Int) : List (List Int) := [[b.1, b.2] ++ restM n b, (restM n b).reverse ++ [b.1, b.2]]
noncomputable def dueM (n : Int) (W : List (Int × Int)) : List (List Int) := W.flatMap (twoM n)
theorem rest_mem {n : Int} {b : Int × Int} {t : Int} : t ∈ restM n b ↔ t ∈ rangeI n ∧ t ≠ b.1 ∧ t ≠ b.2 := by
  unfold restM
  rw [List.mem_filter, Bool.and_eq_true]
  simp
theorem rest_nodup (n : Int) (b : Int × Int) : (restM n b).Nodup := (rangeI_nodup n).filter _
theorem first_perm {n : Int} {b : Int × Int} (h1 : b.1 ∈ rangeI n) (h2 : b.2 ∈ rangeI n) (hne : b.1 ≠ b.2) : ([b.1, b.2] ++ restM n b).Perm (rangeI n) := by
  refine (List.perm_ext_iff_of_nodup ?_ (rangeI_nodup n)).mpr fun x => ?_
  · rw [List.nodup_append]
    refine ⟨by simp [hne], rest_nodup n b, fun x hx y hy e => ?_⟩
    have := rest_mem.mp hy
    rw [← e] at this
    simp at hx
    rcases hx with z | z
    · exact this.2.1 z
    · exact this.2.2 z
  · rw [List.mem_append, rest_mem]
    simp
    constructor
    · rintro ((rfl | rfl) | ⟨h, _⟩)
      · exact h1
      · exact h2
      · exact h
    · intro h
      by_cases e1 : x = b.1
      · exact .inl (.inl e1)
      · by_cases e2 : x = b.2
        · exact .inl (.inr e2)
        · exact .inr ⟨h, e1, e2⟩
theorem second_perm {n : Int} {b : Int × Int} (h1 : b.1 ∈ rangeI n) (h2 : b.2 ∈ rangeI n) (hne : b.1 ≠ b.2) : ((restM n b).reverse ++ [b.1, b.2]).Perm (rangeI n) :=
  (List.perm_append_comm.trans ((List.reverse_perm _).append_left _)).trans (first_perm h1 h2 hne)
theorem due_ords {n : Int} {W : List (Int × Int)} (g : Good n W) : Ords n (dueM n W) := fun o ho => by
  obtain ⟨b, hb, ho⟩ := List.mem_flatMap.mp ho
  have hm := g.mem hb
  have hi := g.irr b hb
  unfold twoM at ho
  rcases List.mem_cons.mp ho with rfl | ho
  · exact first_perm hm.1 hm.2 hi
  · rw [List.mem_singleton.mp ho]
    exact second_perm hm.1 hm.2 hi
theorem due_len (n : Int) (W : List (Int × Int)) : (dueM n W).length = 2 * W.length := by
  induction W with
  | nil => rfl
  | cons b W ih =>
    unfold dueM at ih ⊢
    rw [List.flatMap_cons, List.length_append, ih, List.length_cons]
    show 2 + _ = _
    (first | lia | omega)
noncomputable def dirM (b : Int × Int) (x y : Int) : Int := (if b = (x, y) then 1 else 0) - (if b = (y, x) then 1 else 0)
theorem two_lead {n : Int} {b : Int × Int} (h1 : b.1 ∈ rangeI n) (h2 : b.2 ∈ rangeI n) (hne : b.1 ≠ b.2) {x y : Int} (hx : x ∈ rangeI n) (hy : y ∈ rangeI n) (hxy : x ≠ y) : leadM (twoM n b) x y = 2 * dirM b x y := by
  have pos1 : ∀ z, ([b.1, b.2] ++ restM n b).idxOf z = if z = b.1 then 0 else if z = b.2 then 1 else (restM n b).idxOf z + 2 := fun z => by
    rw [List.cons_append, List.cons_append, List.nil_append, List.idxOf_cons, List.idxOf_cons]
    by_cases e1 : z = b.1
    · rw [if_pos e1, e1]; simp
    · rw [if_neg e1, show (b.1 == z) = false from beq_eq_false_iff_ne.mpr (Ne.symm e1)]
      by_cases e2 : z = b.2
      · rw [if_pos e2, e2]; simp
      · rw [if_neg e2, show (b.2 == z) = false from beq_eq_false_iff_ne.mpr (Ne.symm e2)]; rfl
  have hlast : ∀ z, ([b.1, b.2] : List Int).idxOf z = if z = b.1 then 0 else if z = b.2 then 1 else 2 := fun z => by
    rw [List.idxOf_cons, List.idxOf_cons, List.idxOf_nil]
    by_cases e1 : z = b.1
    · rw [if_pos e1, e1]; simp
    · rw [if_neg e1, show (b.1 == z) = false from beq_eq_false_iff_ne.mpr (Ne.symm e1)]
      by_cases e2 : z = b.2
      · rw [if_pos e2, e2]; simp
      · rw [if_neg e2, show (b.2 == z) = false from beq_eq_false_iff_ne.mpr (Ne.symm e2)]; rfl
  have pos2 : ∀ z ∈ rangeI n, (((restM n b).reverse ++ [b.1, b.2]).idxOf z : Int) = if z = b.1 then ((restM n b).length : Int) else if z = b.2 then ((restM n b).length : Int) + 1 else ((restM n b).length : Int) - 1 - ((restM n b).idxOf z : Int) := fun z hz => by
    rw [List.idxOf_append]
    by_cases e1 : z = b.1
    · rw [if_pos e1, if_neg (by rw [List.mem_reverse, rest_mem]; exact fun q => q.2.1 e1), hlast, if_pos e1, List.length_reverse]
      (first | lia | omega)
    · rw [if_neg e1]
      by_cases e2 : z = b.2
      · rw [if_pos e2, if_neg (by rw [List.mem_reverse, rest_mem]; exact fun q => q.2.2 e2), hlast, if_neg e1, if_pos e2, List.length_reverse]
        (first | lia | omega)
      · have hm : z ∈ restM n b := rest_mem.mpr ⟨hz, e1, e2⟩
        rw [if_neg e2, if_pos (List.mem_reverse.mpr hm)]
        have := idx_rev (rest_nodup n b) hm
        (first | lia | omega)
  have inj : ∀ z w, z ∈ restM n b → w ∈ restM n b → z ≠ w → (restM n b).idxOf z ≠ (restM n b).idxOf w := fun z w hz hw h e => h (idx_inj hz hw e)
  have lt : ∀ z, z ∈ restM n b → (restM n b).idxOf z < (restM n b).length := fun z hz => List.idxOf_lt_length_iff.mpr hz
  unfold twoM
  rw [lead_cons, lead_one, lead_one]
  unfold before dirM
  rw [pos1 x, pos1 y, pos2 x hx, pos2 y hy]
  simp only [Prod.ext_iff, decide_eq_true_eq]
  by_cases x1 : x = b.1
  · have ny : y ≠ b.1 := fun e => hxy (x1.trans e.symm)
    by_cases y2 : y = b.2
    · subst x1 y2
      simp [hne, Ne.symm hne]
      split <;> (first | lia | omega)
    · have hmy : y ∈ restM n b := rest_mem.mpr ⟨hy, ny, y2⟩
      have := lt y hmy
      subst x1
      simp [ny, y2, hne, Ne.symm ny, Ne.symm y2]
      (first | lia | omega)
  · by_cases x2 : x = b.2
    · by_cases y1 : y = b.1
      · subst x2 y1
        simp [hne, Ne.symm hne]
        split <;> (first | lia | omega)
      · have ny : y ≠ b.2 := fun e => hxy (x2.trans e.symm)
        have hmy : y ∈ restM n b := rest_mem.mpr ⟨hy, y1, ny⟩
        have := lt y hmy
        subst x2
        simp [y1, ny, Ne.symm hne, Ne.symm y1, Ne.symm ny]
        (first | lia | omega)
    · have hmx : x ∈ restM n b := rest_mem.mpr ⟨hx, x1, x2⟩
      have hlx := lt x hmx
      by_cases y1 : y = b.1
      · subst y1
        simp [x1, x2, Ne.symm x1, Ne.symm x2]
        (first | lia | omega)
      · by_cases y2 : y = b.2
        · subst y2
          simp [x1, x2, y1, Ne.symm x1, Ne.symm x2]
          (first | lia | omega)
        · have hmy : y ∈ restM n b := rest_mem.mpr ⟨hy, y1, y2⟩
          have hly := lt y hmy
          have hi := inj x y hmx hmy hxy
          simp [x1, x2, y1, y2, Ne.symm x1, Ne.symm x2, Ne.symm y1, Ne.symm y2]
          split <;> split <;> (first | lia | omega)
noncomputable def netM (W : List (Int × Int)) (x y : Int) : Int := (if (x, y) ∈ W then 1 else 0) - (if (y, x) ∈ W then 1 else 0)
theorem due_lead {n : Int} : ∀ {W : List (Int × Int)}, Good n W → ∀ {x y : Int}, x ∈ rangeI n → y ∈ rangeI n → x ≠ y → leadM (dueM n W) x y = 2 * netM W x y
  | [], _, x, y, _, _, _ => by simp [dueM, leadM, netM]
  | b :: W, g, x, y, hx, hy, hxy => by
    have hb := g.mem (b := b) List.mem_cons_self
    have hn := List.nodup_cons.mp g.nodup
    have g' : Good n W := ⟨fun c hc => g.rng c (List.mem_cons_of_mem _ hc), fun c hc => g.irr c (List.mem_cons_of_mem _ hc), hn.2, fun c hc z => g.asym c (List.mem_cons_of_mem _ hc) (List.mem_cons_of_mem _ z), by have := g.len; rw [List.length_cons] at this; (first | lia | omega)⟩
    unfold dueM
    rw [List.flatMap_cons, lead_append, two_lead hb.1 hb.2 (g.irr b List.mem_cons_self) hx hy hxy]
    have ih := due_lead g' hx hy hxy
    unfold dueM at ih
    rw [ih]
    unfold dirM netM
    have m1 : b = (x, y) → (x, y) ∉ W := fun e => by rw [← e]; exact hn.1
    have m2 : b = (y, x) → (y, x) ∉ W := fun e => by rw [← e]; exact hn.1
    have e1 : ((x, y) ∈ b :: W) ↔ (b = (x, y) ∨ (x, y) ∈ W) := by rw [List.mem_cons]; exact ⟨fun z => z.imp Eq.symm id, fun z => z.imp Eq.symm id⟩
    have e2 : ((y, x) ∈ b :: W) ↔ (b = (y, x) ∨ (y, x) ∈ W) := by rw [List.mem_cons]; exact ⟨fun z => z.imp Eq.symm id, fun z => z.imp Eq.symm id⟩
    simp only [e1, e2]
    by_cases q1 : b = (x, y)
    · by_cases q2 : b = (y, x)
      · exact absurd (by rw [q1] at q2; exact (Prod.mk.inj q2).1) hxy
      · simp only [q1, if_pos, true_or, m1 q1, if_false]
        have : ¬ ((x, y) = (y, x)) := fun z => hxy (Prod.mk.inj z).1
        simp only [this, false_or, if_false]
        (first | lia | omega)
    · by_cases q2 : b = (y, x)
      · simp only [q2, if_pos, true_or, m2 q2, if_false]
        have : ¬ ((y, x) = (x, y)) := fun z => hxy (Prod.mk.inj z).2
        simp only [this, false_or, if_false]
        (first | lia | omega)
      · simp only [q1, q2, false_or, if_false]
        (first | lia | omega)
theorem net_pos {n : Int} {W : List (Int × Int)} (g : Good n W) {x y : Int} : decide (0 < 2 * netM W x y) = decide ((x, y) ∈ W) := by
  unfold netM
  by_cases h : (x, y) ∈ W
  · have h2 : (y, x) ∉ W := g.asym (x, y) h
    rw [if_pos h, if_neg h2, decide_eq_true h]
    rfl
  · rw [if_neg h, decide_eq_false h]
    split <;> rfl
theorem due_web {n : Int} {W : List (Int × Int)} (g : Good n W) : beatsC n (dueM n W) = webC n W :=
  canon_congr fun i hi j hj hij => by rw [due_lead g hi hj hij, net_pos g]
theorem beats_good {n : Int} {L : List (List Int)} (h6 : n ≤ 6) (hO : Ords n L) : Good n (beatsC n L) := by
  have hm : ∀ b, b ∈ beatsC n L ↔ _ := fun b => canon_mem
  refine ⟨fun b hb => ?_, fun b hb => ((hm b).mp hb).2.2.1, ?_, fun b hb hb' => ?_, ?_⟩
  · have h := (hm b).mp hb
    have h1 := rangeK_mem.mp h.1
    have h2 := rangeK_mem.mp h.2.1
    (first | lia | omega)
  · refine (canon_sorted _ _).imp ?_
    intro a b h e
    rw [e] at h
    unfold ltP at h
    (first | lia | omega)
  · have h := (hm b).mp hb
    have h' := (hm _).mp hb'
    have e := lead_flip hO h.1 h.2.1 h.2.2.1
    have p1 := of_decide_eq_true h.2.2.2
    have p2 := of_decide_eq_true h'.2.2.2
    simp only at p2
    (first | lia | omega)
  · have := canon_len n.toNat fun i j => decide (0 < leadM L i j)
    have h36 : n.toNat * n.toNat ≤ 6 * 6 := Nat.mul_le_mul (by (first | lia | omega)) (by (first | lia | omega))
    unfold beatsC
    (first | lia | omega)
end Bm
namespace Bm
theorem beats_mem {n : Int} {L : List (List Int)} {x y : Int} : (x, y) ∈ beatsC n L ↔ x ∈ rangeI n ∧ y ∈ rangeI n ∧ x ≠ y ∧ 0 < leadM L x y := by
  unfold beatsC
  rw [canon_mem, decide_eq_true_eq]
  rfl
theorem webC_self {n : Int} {L : List (List Int)} (h6 : n ≤ 6) (hO : Ords n L) : webC n (beatsC n L) = beatsC n L :=
  (webC_of (beats_good h6 hO) (fun _ => Iff.rfl) (canon_sorted _ _)).symm
end Bm
namespace Bm
theorem net_flip (W : List (Int × Int)) (x y : Int) : netM W y x = - netM W x y := by
  unfold netM
  (first | lia | omega)
theorem net_range {n : Int} {W : List (Int × Int)} (g : Good n W) (x y : Int) : netM W x y = 1 ∧ (x, y) ∈ W ∧ (y, x) ∉ W ∨ netM W x y = -1 ∧ (x, y) ∉ W ∧ (y, x) ∈ W ∨ netM W x y = 0 ∧ (x, y) ∉ W ∧ (y, x) ∉ W := by
  unfold netM
  by_cases h1 : (x, y) ∈ W
  · have h2 : (y, x) ∉ W := g.asym _ h1
    exact .inl ⟨by rw [if_pos h1, if_neg h2]; rfl, h1, h2⟩
  · by_cases h2 : (y, x) ∈ W
    · exact .inr (.inl ⟨by rw [if_neg h1, if_pos h2]; rfl, h1, h2⟩)
    · exact .inr (.inr ⟨by rw [if_neg h1, if_neg h2]; rfl, h1, h2⟩)
end Bm
namespace Bm
noncomputable def upP (n : Nat) (i : Int) : List (Int × Int) := ((rangeK n).filter fun j => !decide (i = j) && decide (i < j)).map fun j => (i, j)
noncomputable def pairsM (n : Int) : List (Int × Int) := (rangeK n.toNat).flatMap (upP n.toNat)
theorem pairs_canon (n : Int) : pairsM n = canonP n.toNat fun i j => decide (i < j) := rfl
theorem pairs_mem {n x y : Int} : (x, y) ∈ pairsM n ↔ x ∈ rangeI n ∧ y ∈ rangeI n ∧ x < y := by
  rw [pairs_canon, canon_mem, decide_eq_true_eq]
  exact ⟨fun h => ⟨h.1, h.2.1, h.2.2.2⟩, fun h => ⟨h.1, h.2.1, by have := h.2.2; show x ≠ y; (first | lia | omega), h.2.2⟩⟩
theorem up_eq (m i : Nat) : upP m ((0 : Int) + (i : Nat)) = (List.range (m - (i + 1))).map fun j => ((0 : Int) + (i : Nat), (0 : Int) + (i : Nat) + 1 + (j : Nat)) := by
  unfold upP
  induction m with
  | zero => rw [Nat.zero_sub]; rfl
  | succ m ih =>
    rw [rangeK_succ, List.filter_append, List.map_append, ih]
    by_cases h : i + 1 ≤ m
    · have e : m + 1 - (i + 1) = (m - (i + 1)) + 1 := by (first | lia | omega)
      rw [e, List.range_succ, List.map_append]
      congr 1
      rw [List.filter_cons_of_pos (by rw [Bool.and_eq_true]; exact ⟨by simp; (first | lia | omega), by simp; (first | lia | omega)⟩)]
      show [((0 : Int) + (i : Nat), (0 : Int) + (m : Nat))] = [((0 : Int) + (i : Nat), (0 : Int) + (i : Nat) + 1 + ((m - (i + 1) : Nat) : Int))]
      have : (0 : Int) + (m : Nat) = (0 : Int) + (i : Nat) + 1 + ((m - (i + 1) : Nat) : Int) := by (first | lia | omega)
      rw [this]
    · have e : m + 1 - (i + 1) = 0 := by (first | lia | omega)
      have e' : m - (i + 1) = 0 := by (first | lia | omega)
      rw [e, e', List.filter_cons_of_neg (by rw [Bool.and_eq_true]; rintro ⟨_, z⟩; have := of_decide_eq_true z; (first | lia | omega))]
      rfl
theorem pairs_len {n : Int} (h6 : n ≤ 6) : (pairsM n).length ≤ 36 := by
  rw [pairs_canon]
  have := canon_len n.toNat fun i j => decide (i < j)
  have h36 : n.toNat * n.toNat ≤ 6 * 6 := Nat.mul_le_mul (by (first | lia | omega)) (by (first | lia | omega))
  (first | lia | omega)
noncomputable def sgI (x : Int) : Int := if 0 < x then 1 else if x < 0 then -1 else 0
theorem sg_spec {x w : Int} (hw : w = 1 ∨ w = -1 ∨ w = 0) : sgI x = w ↔ ((0 < x ↔ w = 1) ∧ (x < 0 ↔ w = -1)) := by
  unfold sgI
  by_cases h : 0 < x
  · rw [if_pos h]
    (first | lia | omega)
  · rw [if_neg h]
    by_cases h2 : x < 0
    · rw [if_pos h2]
      (first | lia | omega)
    · rw [if_neg h2]
      (first | lia | omega)
end Bm
namespace Bm
noncomputable def addL (a b : List Int) : List Int := List.zipWith (fun x y => x + y) a b
noncomputable def okP (w x k : Int) : Prop := (w = 0 → (-k ≤ x ∧ x ≤ k) ∧ (x + k) % 2 = 0) ∧ (w ≠ 0 → 1 ≤ x * w + k)
noncomputable def Reach (ws ls : List Int) (k : Int) : Prop := ∀ (i : Nat) (w x : Int), ws[i]? = some w → ls[i]? = some x → okP w x k
noncomputable def Sol (S : List (List Int)) (ws : List Int) : Nat → List Int → Nat → List Nat → Prop
  | 0, ls, _, ps => ps = [] ∧ Reach ws ls 0
  | k + 1, ls, f, ps => ∃ p rest s, ps = p :: rest ∧ f ≤ p ∧ S[p]? = some s ∧ Sol S ws k (addL ls s) p rest
noncomputable def Units (S : List (List Int)) (m : Nat) : Prop := ∀ s ∈ S, s.length = m ∧ ∀ x ∈ s, x = 1 ∨ x = -1
noncomputable def Wishes (ws : List Int) : Prop := ∀ w ∈ ws, w = 1 ∨ w = -1 ∨ w = 0
theorem addL_len {a b : List Int} (h : a.length = b.length) : (addL a b).length = b.length := by
  unfold addL
  rw [List.length_zipWith]
  (first | lia | omega)
theorem addL_get {a b : List Int} {i : Nat} {x y : Int} (h1 : a[i]? = some x) (h2 : b[i]? = some y) : (addL a b)[i]? = some (x + y) := by
  unfold addL
  rw [List.getElem?_zipWith, h1, h2]
theorem sol_reach {S : List (List Int)} {ws : List Int} (hS : Units S ws.length) (hw : Wishes ws) : ∀ {k : Nat} {ls : List Int} {f : Nat} {ps : List Nat}, ls.length = ws.length → Sol S ws k ls f ps → Reach ws ls k
  | 0, _, _, _, _, h => h.2
  | k + 1, ls, f, ps, hl, h => by
    obtain ⟨p, rest, s, rfl, hf, hs, h⟩ := h
    obtain ⟨u1, u2⟩ := hS s (List.mem_of_getElem? hs)
    have ih := sol_reach hS hw (k := k) (by rw [addL_len (by (first | lia | omega))]; exact u1) h
    intro i w x e1 e2
    have hi : i < s.length := by have := (List.getElem?_eq_some_iff.mp e1).1; (first | lia | omega)
    have e3 : s[i]? = some s[i] := List.getElem?_eq_getElem hi
    have r := ih i w _ e1 (addL_get e2 e3)
    have hu := u2 s[i] (List.getElem_mem hi)
    have hww := hw w (List.mem_of_getElem? e1)
    generalize s[i] = u at hu r
    unfold okP at r ⊢
    obtain ⟨r1, r2⟩ := r
    refine ⟨fun z => ?_, fun z => ?_⟩
    · have := r1 z
      rcases hu with rfl | rfl <;> (first | lia | omega)
    · have := r2 z
      rcases hww with rfl | rfl | rfl
      · rcases hu with rfl | rfl <;> (first | lia | omega)
      · rcases hu with rfl | rfl <;> (first | lia | omega)
      · exact absurd rfl z
noncomputable def permsM : Nat → List Int → List (List Int)
  | 0, _ => [[]]
  | m + 1, ts => ts.flatMap fun f => (permsM m (ts.filter fun t => !decide (t = f))).map (f :: ·)
theorem without_len {ts : List Int} (hn : ts.Nodup) {f : Int} (hf : f ∈ ts) : (ts.filter fun t => !decide (t = f)).length + 1 = ts.length := by
  have hp : (f :: ts.filter fun t => !decide (t = f)).Perm ts := by
    refine (List.perm_ext_iff_of_nodup ?_ hn).mpr fun x => ?_
    · exact List.nodup_cons.mpr ⟨fun z => by simp at z, hn.filter _⟩
    · by_cases e : x = f
      · subst e; simp [hf]
      · simp [e]
  have := hp.length_eq
  simpa using this
theorem perms_mem : ∀ {m : Nat} {ts : List Int}, ts.Nodup → ts.length = m → ∀ {o : List Int}, o ∈ permsM m ts ↔ o.Perm ts
  | 0, ts, _, hl, o => by
    have e : ts = [] := List.length_eq_zero_iff.mp hl
    subst e
    unfold permsM
    rw [List.mem_singleton]
    exact ⟨fun h => by rw [h], fun h => h.eq_nil⟩
  | m + 1, ts, hn, hl, o => by
    unfold permsM
    rw [List.mem_flatMap]
    have key : ∀ f ∈ ts, (f :: ts.filter fun t => !decide (t = f)).Perm ts := fun f hf => by
      refine (List.perm_ext_iff_of_nodup ?_ hn).mpr fun x => ?_
      · exact List.nodup_cons.mpr ⟨fun z => by simp at z, hn.filter _⟩
      · by_cases e : x = f
        · subst e; simp [hf]
        · simp [e]
    constructor
    · rintro ⟨f, hf, h⟩
      obtain ⟨o', ho, rfl⟩ := List.mem_map.mp h
      have := without_len hn hf
      exact (((perms_mem (hn.filter _) (by (first | lia | omega))).mp ho).cons f).trans (key f hf)
    · intro h
      match o, h with
      | [], h => rw [← h.length_eq] at hl; simp at hl
      | f :: o', h =>
        have hf : f ∈ ts := h.mem_iff.mp List.mem_cons_self
        have := without_len hn hf
        exact ⟨f, hf, List.mem_map.mpr ⟨o', (perms_mem (hn.filter _) (by (first | lia | omega))).mpr (h.trans (key f hf).symm).cons_inv, rfl⟩⟩
theorem flat_len {α β : Type} {g : α → List β} {b : Nat} : ∀ {l : List α}, (∀ x ∈ l, (g x).length ≤ b) → (l.flatMap g).length ≤ l.length * b
  | [], _ => Nat.zero_le _
  | x :: l, h => by
    rw [List.flatMap_cons, List.length_append, List.length_cons, Nat.succ_mul]
    have h1 := h x List.mem_cons_self
    have h2 := flat_len (l := l) fun y hy => h y (List.mem_cons_of_mem _ hy)
    (first | lia | omega)
theorem perms_len : ∀ {m : Nat} {ts : List Int}, ts.length ≤ 4 → (permsM m ts).length ≤ 4 ^ m
  | 0, _, _ => Nat.le_refl _
  | m + 1, ts, h => by
    unfold permsM
    refine Nat.le_trans (flat_len (b := 4 ^ m) fun f _ => ?_) ?_
    · rw [List.length_map]
      exact perms_len (Nat.le_trans (List.length_filter_le _ _) h)
    · rw [Nat.pow_succ, Nat.mul_comm]
      exact Nat.mul_le_mul_left _ h
noncomputable def leadsM (n : Int) (L : List (List Int)) : List Int := (pairsM n).map fun b => leadM L b.1 b.2
noncomputable def wishM (n : Int) (W : List (Int × Int)) : List Int := (pairsM n).map fun b => netM W b.1 b.2
theorem leads_add (n : Int) (L : List (List Int)) (o : List Int) : addL (leadsM n L) (leadsM n [o]) = leadsM n (L ++ [o]) := by
  unfold addL leadsM
  rw [List.zipWith_map, List.zipWith_self]
  refine List.map_congr_left fun b _ => ?_
  rw [lead_append]
theorem leads_nil (n : Int) : leadsM n [] = (pairsM n).map fun _ => 0 := List.map_congr_left fun _ _ => rfl
theorem lead_perm {L M : List (List Int)} (h : L.Perm M) (x y : Int) : leadM L x y = leadM M x y := by
  unfold leadM
  rw [(h.filter _).length_eq, h.length_eq]
theorem unit_leads {n : Int} {o : List Int} : ∀ x ∈ leadsM n [o], x = 1 ∨ x = -1 := fun x hx => by
  obtain ⟨b, _, rfl⟩ := List.mem_map.mp hx
  rw [lead_one]
  split
  · exact .inl rfl
  · exact .inr rfl
theorem wishM_ok {n : Int} {W : List (Int × Int)} (g : Good n W) : Wishes (wishM n W) := fun w hw => by
  obtain ⟨b, _, rfl⟩ := List.mem_map.mp hw
  rcases net_range g b.1 b.2 with ⟨z, _⟩ | ⟨z, _⟩ | ⟨z, _⟩
  · exact .inl z
  · exact .inr (.inl z)
  · exact .inr (.inr z)
theorem web_pairs {n : Int} {L : List (List Int)} (hO : Ords n L) {W : List (Int × Int)} (g : Good n W) : beatsC n L = webC n W ↔ ∀ x ∈ rangeI n, ∀ y ∈ rangeI n, x < y → ((0 < leadM L x y ↔ netM W x y = 1) ∧ (leadM L x y < 0 ↔ netM W x y = -1)) := by
  constructor
  · intro e x hx y hy hxy
    have f := lead_flip hO hx hy (by (first | lia | omega))
    have m1 : (x, y) ∈ beatsC n L ↔ (x, y) ∈ W := by rw [e]; exact webC_mem g
    have m2 : (y, x) ∈ beatsC n L ↔ (y, x) ∈ W := by rw [e]; exact webC_mem g
    rw [beats_mem] at m1 m2
    rcases net_range g x y with ⟨z, w1, w2⟩ | ⟨z, w1, w2⟩ | ⟨z, w1, w2⟩
    · have := (m1.mpr w1).2.2.2
      (first | lia | omega)
    · have := (m2.mpr w2).2.2.2
      (first | lia | omega)
    · have q1 : ¬ 0 < leadM L x y := fun q => w1 (m1.mp ⟨hx, hy, by (first | lia | omega), q⟩)
      have q2 : ¬ 0 < leadM L y x := fun q => w2 (m2.mp ⟨hy, hx, by (first | lia | omega), q⟩)
      (first | lia | omega)
  · intro h
    refine canon_congr fun i hi j hj hij => ?_
    rw [Bool.eq_iff_iff, decide_eq_true_eq, decide_eq_true_eq]
    rcases Int.lt_or_gt_of_ne hij with z | z
    · have := h i hi j hj z
      rcases net_range g i j with ⟨q, w1, w2⟩ | ⟨q, w1, w2⟩ | ⟨q, w1, w2⟩
      · exact ⟨fun _ => w1, fun _ => by (first | lia | omega)⟩
      · exact ⟨fun c => by (first | lia | omega), fun c => absurd c w1⟩
      · exact ⟨fun c => by (first | lia | omega), fun c => absurd c w1⟩
    · have := h j hj i hi z
      have f := lead_flip hO hi hj hij
      have fn := net_flip W i j
      rcases net_range g i j with ⟨q, w1, w2⟩ | ⟨q, w1, w2⟩ | ⟨q, w1, w2⟩
      · exact ⟨fun _ => w1, fun _ => by (first | lia | omega)⟩
      · exact ⟨fun c => by (first | lia | omega), fun c => absurd c w1⟩
      · exact ⟨fun c => by (first | lia | omega), fun c => absurd c w1⟩
theorem reach_web {n : Int} {L : List (List Int)} (hO : Ords n L) {W : List (Int × Int)} (g : Good n W) : Reach (wishM n W) (leadsM n L) 0 ↔ beatsC n L = webC n W := by
  rw [web_pairs hO g]
  have hw : ∀ x y, netM W x y = 1 ∨ netM W x y = -1 ∨ netM W x y = 0 := fun x y => by
    rcases net_range g x y with ⟨z, _⟩ | ⟨z, _⟩ | ⟨z, _⟩
    · exact .inl z
    · exact .inr (.inl z)
    · exact .inr (.inr z)
  constructor
  · intro h x hx y hy hxy
    obtain ⟨i, hi⟩ := List.getElem?_of_mem (pairs_mem.mpr ⟨hx, hy, hxy⟩)
    have r := h i (netM W x y) (leadM L x y) (by unfold wishM; rw [List.getElem?_map, hi]; rfl) (by unfold leadsM; rw [List.getElem?_map, hi]; rfl)
    unfold okP at r
    obtain ⟨r1, r2⟩ := r
    rcases hw x y with e | e | e
    · rw [e] at r2 ⊢
      have := r2 (by decide)
      (first | lia | omega)
    · rw [e] at r2 ⊢
      have := r2 (by decide)
      (first | lia | omega)
    · rw [e] at r1 ⊢
      have := r1 rfl
      (first | lia | omega)
  · intro h i w x e1 e2
    unfold wishM at e1
    unfold leadsM at e2
    rw [List.getElem?_map] at e1 e2
    cases hb : (pairsM n)[i]? with
    | none => rw [hb] at e1; cases e1
    | some b =>
      rw [hb] at e1 e2
      obtain ⟨x', y'⟩ := b
      have e1' : netM W x' y' = w := Option.some.inj e1
      have e2' : leadM L x' y' = x := Option.some.inj e2
      have hm := pairs_mem.mp (List.mem_of_getElem? hb)
      have := h x' hm.1 y' hm.2.1 hm.2.2
      unfold okP
      rw [e1', e2'] at this
      rcases hw x' y' with e | e | e
      · rw [e1'] at e; subst e; (first | lia | omega)
      · rw [e1'] at e; subst e; (first | lia | omega)
      · rw [e1'] at e; subst e; (first | lia | omega)
noncomputable def atO (O : List (List Int)) (p : Nat) : List Int := O.getD p []
noncomputable def stepsM (n : Int) (O : List (List Int)) : List (List Int) := O.map fun o => leadsM n [o]
theorem steps_get {n : Int} {O : List (List Int)} {p : Nat} {s : List Int} (h : (stepsM n O)[p]? = some s) : p < O.length ∧ atO O p ∈ O ∧ s = leadsM n [atO O p] := by
  unfold stepsM at h
  rw [List.getElem?_map] at h
  cases e : O[p]? with
  | none => rw [e] at h; cases h
  | some o =>
    rw [e] at h
    have hs : leadsM n [o] = s := Option.some.inj h
    have ha : atO O p = o := by unfold atO; rw [List.getD_eq_getElem?_getD, e]; rfl
    rw [ha]
    exact ⟨(List.getElem?_eq_some_iff.mp e).1, List.mem_of_getElem? e, hs.symm⟩
theorem sol_out {n : Int} {O : List (List Int)} {ws : List Int} : ∀ {k : Nat} {L : List (List Int)} {f : Nat} {ps : List Nat}, Sol (stepsM n O) ws k (leadsM n L) f ps → ps.length = k ∧ (∀ p ∈ ps, p < O.length) ∧ Reach ws (leadsM n (L ++ ps.map (atO O))) 0
  | 0, L, _, _, ⟨e, h⟩ => by
    subst e
    exact ⟨rfl, fun p hp => (by cases hp), by rw [List.map_nil, List.append_nil]; exact h⟩
  | k + 1, L, f, ps, h => by
    obtain ⟨p, rest, s, rfl, hf, hs, h⟩ := h
    obtain ⟨hp, _, rfl⟩ := steps_get hs
    rw [leads_add] at h
    obtain ⟨h1, h2, h3⟩ := sol_out h
    refine ⟨by rw [List.length_cons, h1], fun q hq => ?_, ?_⟩
    · rcases List.mem_cons.mp hq with rfl | hq
      · exact hp
      · exact h2 q hq
    · rw [List.map_cons]
      rw [List.append_assoc] at h3
      exact h3
theorem sol_in {n : Int} {O : List (List Int)} {ws : List Int} : ∀ {ps : List Nat} {L : List (List Int)} {f : Nat}, ps.Pairwise (· ≤ ·) → (∀ p ∈ ps, f ≤ p ∧ p < O.length) → Reach ws (leadsM n (L ++ ps.map (atO O))) 0 → Sol (stepsM n O) ws ps.length (leadsM n L) f ps
  | [], L, f, _, _, h => ⟨rfl, by rw [List.map_nil, List.append_nil] at h; exact h⟩
  | p :: ps, L, f, hs, hp, h => by
    have hc := List.pairwise_cons.mp hs
    obtain ⟨h1, h2⟩ := hp p List.mem_cons_self
    refine ⟨p, ps, leadsM n [atO O p], rfl, h1, ?_, ?_⟩
    · unfold stepsM atO
      rw [List.getElem?_map, List.getD_eq_getElem?_getD, List.getElem?_eq_getElem h2]
      rfl
    · rw [leads_add]
      refine sol_in hc.2 (fun q hq => ⟨hc.1 q hq, (hp q (List.mem_cons_of_mem _ hq)).2⟩) ?_
      rw [List.append_assoc]
      rw [List.map_cons] at h
      exact h
theorem sol_of {n : Int} {O : List (List Int)} (hO : ∀ o, o ∈ O ↔ o.Perm (rangeI n)) {W : List (Int × Int)} (g : Good n W) {L : List (List Int)} (hL : Ords n L) (hb : beatsC n L = webC n W) : ∃ ps, Sol (stepsM n O) (wishM n W) L.length (leadsM n []) 0 ps := by
  have hq : (L.map fun o => O.idxOf o).map (atO O) = L := by
    rw [List.map_map]
    have : ∀ o ∈ L, (atO O ∘ fun o => O.idxOf o) o = o := fun o ho => by
      have hm : o ∈ O := (hO o).mpr (hL o ho)
      have hi := List.idxOf_lt_length_of_mem hm
      show atO O (O.idxOf o) = o
      unfold atO
      rw [List.getD_eq_getElem?_getD, List.getElem?_eq_getElem hi]
      exact List.getElem_idxOf hi
    exact (List.map_congr_left this).trans (List.map_id' L)
  have hp : (List.mergeSort (L.map fun o => O.idxOf o) (fun a b => decide (a ≤ b))).Perm (L.map fun o => O.idxOf o) := List.mergeSort_perm _ _
  have hsorted : (List.mergeSort (L.map fun o => O.idxOf o) (fun a b => decide (a ≤ b))).Pairwise (· ≤ ·) := by
    have := List.pairwise_mergeSort (le := fun a b : Nat => decide (a ≤ b)) (by intro a b c; simp; (first | lia | omega)) (by intro a b; simp; (first | lia | omega)) (L.map fun o => O.idxOf o)
    exact this.imp (fun h => of_decide_eq_true h)
  generalize List.mergeSort (L.map fun o => O.idxOf o) (fun a b => decide (a ≤ b)) = ps at hp hsorted
  have hlen : ps.length = L.length := by rw [hp.length_eq, List.length_map]
  refine ⟨ps, ?_⟩
  rw [← hlen]
  refine sol_in hsorted (fun p h => ⟨Nat.zero_le _, ?_⟩) ?_
  · obtain ⟨o, ho, rfl⟩ := List.mem_map.mp (hp.mem_iff.mp h)
    exact List.idxOf_lt_length_of_mem ((hO o).mpr (hL o ho))
  · have hpm : (ps.map (atO O)).Perm L := (hp.map (atO O)).trans (List.Perm.of_eq hq)
    have e : leadsM n ([] ++ ps.map (atO O)) = leadsM n L := List.map_congr_left fun b _ => by rw [List.nil_append]; exact lead_perm hpm _ _
    rw [e]
    exact (reach_web hL g).mpr hb
theorem sol_ords {n : Int} {O : List (List Int)} (hO : ∀ o, o ∈ O ↔ o.Perm (rangeI n)) {ps : List Nat} (h : ∀ p ∈ ps, p < O.length) : Ords n (ps.map (atO O)) := fun o ho => by
  obtain ⟨p, hp, rfl⟩ := List.mem_map.mp ho
  refine (hO _).mp ?_
  unfold atO
  rw [List.getD_eq_getElem?_getD, List.getElem?_eq_getElem (h p hp)]
  exact List.getElem_mem _
theorem web_len {n : Int} (h1 : 1 ≤ n) (h4 : n ≤ 4) {W : List (Int × Int)} (g : Good n W) : W.length ≤ 6 := by
  have hn : (W.map fun b => (min b.1 b.2, max b.1 b.2)).Nodup := by
    refine List.pairwise_map.mpr (List.Pairwise.imp_of_mem ?_ g.nodup)
    intro a b ha hb hne e
    injection e with e1 e2
    have i1 := g.irr a ha
    by_cases hab : a.1 = b.1
    · exact hne (Prod.ext hab (by (first | lia | omega)))
    · have q : (a.2, a.1) = b := Prod.ext (by show a.2 = b.1; (first | lia | omega)) (by show a.1 = b.2; (first | lia | omega))
      exact g.asym a ha (q ▸ hb)
  have hl := nodup_len hn (b := pairsM n) fun c hc => by
    obtain ⟨b, hb, rfl⟩ := List.mem_map.mp hc
    have i1 := g.irr b hb
    obtain ⟨⟨r1, r2⟩, r3, r4⟩ := g.rng b hb
    exact pairs_mem.mpr ⟨rangeI_mem (by (first | lia | omega)) (by (first | lia | omega)), rangeI_mem (by (first | lia | omega)) (by (first | lia | omega)), by (first | lia | omega)⟩
  rw [List.length_map] at hl
  have : (pairsM n).length ≤ 6 := by
    have hc : n = 1 ∨ n = 2 ∨ n = 3 ∨ n = 4 := by (first | lia | omega)
    rcases hc with rfl | rfl | rfl | rfl <;> decide
  (first | lia | omega)
end Bm
namespace Bm
open PySem L2
open PySem.Spec PyProof.Rows
theorem arr_perm {N : Nat} {p : Array Nat} (a : Srt.Arr N p) : p.toList.Perm (List.range N) := by
  have g : ∀ i (h : i < p.toList.length), p.toList[i] = p.getD i 0 := fun i h => by
    have h' : i < p.size := by simpa using h
    rw [Array.getD_eq_getD_getElem?, getElem?_pos p i h']
    simp
  have hl : p.toList.length = N := by rw [Array.length_toList, a.size]
  refine (perm_of_sub (b := List.range N) ?_ (fun x hx => ?_) ?_).symm
  · rw [List.Nodup, List.pairwise_iff_getElem]
    intro i j hi hj hij
    rw [g i hi, g j hj]
    exact a.inj i j (by (first | lia | omega)) (by (first | lia | omega)) (by (first | lia | omega))
  · obtain ⟨i, hi, rfl⟩ := List.mem_iff_getElem.mp hx
    rw [g i hi]
    exact List.mem_range.mpr (a.low i (by (first | lia | omega)))
  · rw [List.length_range, hl]
    exact Nat.le_refl _
theorem getD_range {α : Type} (W : List α) (d : α) : (List.range W.length).map (fun i => W.getD i d) = W := by
  refine List.ext_getElem? fun i => ?_
  rw [List.getElem?_map]
  by_cases h : i < W.length
  · rw [List.getElem?_range h, List.getElem?_eq_getElem h]
    show some (W.getD i d) = _
    rw [List.getD_eq_getElem?_getD, List.getElem?_eq_getElem h]
    rfl
  · rw [List.getElem?_eq_none (by rw [List.length_range]; (first | lia | omega)), List.getElem?_eq_none (by (first | lia | omega))]
    rfl
theorem paired_pick {α β : Type} {F : α → β → Prop} {as : List α} {bs : List β} (r : Paired F as bs) (d : α) (e : β) : ∀ {l : List Nat}, (∀ i ∈ l, i < as.length) → Paired F (l.map fun i => as.getD i d) (l.map fun i => bs.getD i e)
  | [], _ => .nil
  | i :: l, h => by
    refine .cons ?_ (paired_pick r d e fun j hj => h j (List.mem_cons_of_mem _ hj))
    have hi := h i List.mem_cons_self
    clear h
    induction r generalizing i with
    | nil => simp at hi
    | cons p _ ih =>
      cases i with
      | zero => exact p
      | succ i => exact ih i (by simpa using hi)
section
variable {X : Cx}
theorem pairs_of {pins : List (Addr × Obj)} {σ : L2.St} {H : Hp} {s : Shared} (I : Inv X pins σ H s) : ∀ {W : List (Int × Int)} {ys : List V} {us : List Value}, Paired (dP H) W ys → Vals ys us → Paired (PairV s.heap) W us
  | _, _, _, .nil, .nil => .nil
  | _, _, _, .cons ⟨q, e, hq⟩ r, .cons ru rs => by
    refine .cons ?_ (pairs_of I r rs)
    subst e
    cases ru
    obtain ⟨_, its, rv, o, ho, hc, _, n, hd⟩ := I.hok q _ hq
    obtain ⟨u, v, rfl, ⟨t1, rfl⟩, ⟨t2, rfl⟩⟩ := rv.two
    exact ⟨q, o, t1, t2, n, rfl, ho, hc, hd⟩
theorem call_sortedP : CallR X (.builtin "sorted") (fun xs H Q => ∃ (p : Addr) (ys : List V) (W : List (Int × Int)), xs = [.ref p] ∧ SqL X.K H p ys ∧ Paired (dP H) W ys ∧ W.Nodup ∧ W.length < 64 ∧
    ∀ (l : Addr) (ys' : List V) (W' : List (Int × Int)), H l = none → W'.Perm W → W'.Pairwise (fun b c => lexB b c = true) → Paired (dP H) W' ys' → Q (.ref l) (upd H l (.lst ys'))) := by
  intro pins s σ H xs us Q I r h
  obtain ⟨p, ys, W, rfl, hq, pw, hn, h64, q⟩ := h
  obtain ⟨u, rfl, ru⟩ := vals1 r
  cases ru
  obtain ⟨vs, rv, pl, hz⟩ := I.list hq
  have hp := pairs_of I pw rv
  have hl : W.length = vs.length := Paired.length hp
  have hly : W.length = ys.length := Paired.length pw
  have k2 : ∀ b o, s.heap.get? b = some o → (((s.heap.push (seqObj "list" #[] 0)).update s.heap.objs.size (Obj.mapSeq (· ++ vs.toArray))).push (seqObj "list" vs.toArray 0)).get? b = some o := fun b o e =>
    Heap.get?_push_of_some _ (by rw [Heap.get?_update_ne _ _ _ _ (Nat.ne_of_lt (Heap.lt_size e))]; exact Heap.get?_push_of_some _ e)
  refine Calls.call_function_entry kind_sorted plain_sorted entry_sorted (args_sorted1 _) ?_
  unfold Builtin.«sorted»
  refine wpAny_bind (m := checkCount "sorted" 1 1 _) (wpAny_pure (wpAny_bind (collect_list pl.isList (wpAny_bind (wpAny_newList ?_ (by rw [sizeLine_eq]; (first | lia | omega)))) (by rw [sizeLine_eq]; (first | lia | omega)))))
  have hsz : ((s.heap.push (seqObj "list" #[] 0)).update s.heap.objs.size (Obj.mapSeq (· ++ vs.toArray))).objs.size = s.heap.objs.size + 1 := by
    rw [Heap.size_update, size_push']
  have hoL : (((s.heap.push (seqObj "list" #[] 0)).update s.heap.objs.size (Obj.mapSeq (· ++ vs.toArray))).push (seqObj "list" vs.toArray 0)).get? (s.heap.objs.size + 1) = some (seqObj "list" vs.toArray 0) := by
    rw [← hsz]; exact Heap.get?_push_size _ rfl
  show wpAny _ _ _ _ _ { s with heap := ((s.heap.push (seqObj "list" #[] 0)).update s.heap.objs.size (Obj.mapSeq (· ++ vs.toArray))).push (seqObj "list" vs.toArray 0) }
  rw [hsz]
  refine wpAny_bind (wpAny_holding (wpAny_call_entry slot_list_sort ⟨_, hoL, rfl⟩ entry_list_sort (sort_pairs hoL (Paired.mapP hp fun b v x => PairV.keep (fun b o e _ => k2 b o e) b v x) hn (by (first | lia | omega)) fun a hA hU => ⟨_, rfl, wpAny_pure ⟨_, rfl, ?_⟩⟩) (args_list_sort _)))
  have hin : ∀ i ∈ a.toList, i < W.length := fun i hi => List.mem_range.mp ((arr_perm hA).mem_iff.mp hi)
  obtain ⟨e, he⟩ := sortedAll_at s.heap vs (a.toList.map fun i => vs.getD i .none).toArray
  have pvs : Vals (a.toList.map fun i => ys.getD i .non) (a.toList.map fun i => vs.getD i .none) := paired_pick rv .non .none fun i hi => by rw [← hly]; exact hin i hi
  refine ⟨.ref (s.heap.objs.size + 1), _, I.laid (t' := s.toks) (o := .lst (a.toList.map fun i => ys.getD i .non)) (fun b ob z => sortedAll_old z) (Nat.le_succ _) ?_, rfl,
    q _ _ (a.toList.map fun i => W.getD i (0, 0)) (I.hok.fresh (Nat.le_succ _)) ?_ ?_ (paired_pick pw (0, 0) .non hin)⟩
  · refine ⟨?_, _, e, pvs, he⟩
    rw [List.length_map, Array.length_toList, hA.size, sizeLine_eq]
    (first | lia | omega)
  · have := (arr_perm hA).map fun i => W.getD i (0, 0)
    rw [getD_range] at this
    exact this
  · rw [List.pairwise_iff_getElem]
    intro i j hi hj hij
    rw [List.length_map, Array.length_toList, hA.size] at hi hj
    have g : ∀ i (h : i < a.toList.length), a.toList[i] = a.getD i 0 := fun i h => by
      have h' : i < a.size := by simpa using h
      rw [Array.getD_eq_getD_getElem?, getElem?_pos a i h']
      simp
    rw [List.getElem_map, List.getElem_map, g, g]
    exact hU i j hij hj
end
end Bm
namespace Bm
open PySem L2
noncomputable def toL (b : Int × Int) : List Int := [b.1, b.2]
theorem pd_toL {H : Hp} : ∀ {l : List (Int × Int)} {ws : List V}, Paired (dT H) (l.map toL) ws → Paired (dP H) l ws
  | [], _, r => by cases r; exact .nil
  | _ :: _, _, r => by
    rw [List.map_cons] at r
    cases r with
    | cons h t => exact .cons h (pd_toL t)
theorem beatsM_eq (L : List (List Int)) (n : Int) : beatsM L n.toNat n.toNat = (beatsC n L).map toL := by
  unfold beatsM beatsC canonP
  rw [List.map_flatMap]
  congr 1
  funext i
  unfold rowM
  rw [List.map_map]
  rfl
noncomputable def spWebP (K : PySem.W.Frag) : Sp := fun vs H Q _ => ∃ (n : Int) (a : Addr) (L : List (List Int)), vs = [.int n, .ref a] ∧ 1 ≤ n ∧ n ≤ 6 ∧ VAt K H a L ∧ Ords n L ∧ L.length ≤ 1000 ∧
  ∀ H' wb ws, Same H H' → H wb = none → H' wb = some (.lst ws) → Paired (dP H') (beatsC n L) ws → Q (.ref wb) H'
theorem spWebP_of {K : PySem.W.Frag} (vs : List V) (H : Hp) (Q : VK) (E : XK) (h : spWebP K vs H Q E) : spWeb K vs H Q E := by
  obtain ⟨n, a, L, e, h1, h6, hV, hO, hL, k⟩ := h
  refine ⟨n, a, L, e, h1, h6, hV, hO, hL, fun H' wb ws s f hw pw => k H' wb ws s f hw ?_⟩
  rw [beatsM_eq] at pw
  exact pd_toL pw
theorem pw_lex {W : List (Int × Int)} (h : W.Pairwise fun b c => lexB b c = true) : W.Pairwise ltP := h.imp fun {a b} z => lexB_iff.mp z
end Bm
namespace Bm
open PySem L2
section
variable {P : Program} {w : World} {K : PySem.W.Frag} {mg : Str → Option Value} {base : Heap}
theorem scWhole : FnScope ["found"] ["found"] (defScope sWhole) := ⟨rfl, rfl, rfl, by decide +kernel, rfl, by decide +kernel, by decide +kernel⟩
theorem ok_whole (d : Def K mg "_law_whole" sWhole ["found"]) (B : Blt mg) : FnOk P w K mg base CX0 1 d.f d.fd ["found"] spWhole := by
  refine d.F.ok scWhole (fun vs H Q E h => ?_) (fun cdv A outer s H vs Q E hr h => ?_)
  · obtain ⟨i, rfl, _⟩ := h
    rfl
  · obtain ⟨i, rfl, q⟩ := h
    refine ⟨_, pss_one (ps_ret (pe_and (pe_callB call_isi (by rfl) B.isi PyProof.Rows.boot_isinstance (pa_cons (pv 0) (pa_cons (pe_bltn (v := .ty "int") (by rfl) B.int PyProof.Rows.boot_int rfl) pa_nil)))
      (pe_one (pe_not (pe_callB call_isi (by rfl) B.isi PyProof.Rows.boot_isinstance (pa_cons (pv 0) (pa_cons (pe_bltn (v := .ty "bool") (by rfl) B.bool PyProof.Rows.boot_bool rfl) pa_nil))))))), ?_⟩
    refine ⟨_, rfl, .int i, "int", true, rfl, .int_int i, true, rfl, ?_⟩
    rw [if_pos rfl]
    exact ⟨_, rfl, .int i, "bool", false, rfl, .int_bool i, false, rfl, q⟩
end
end Bm
namespace Bm
open PySem L2
section
variable {P : Program} {w : World} {K : PySem.W.Frag} {mg : Str → Option Value} {base : Heap}
theorem scCell : FnScope ["script", "k"] ["script", "k"] (defScope sCellAt) := ⟨rfl, rfl, rfl, by decide +kernel, rfl, by decide +kernel, by decide +kernel⟩
theorem ok_cell (d : Def K mg "_law_cell_at" sCellAt ["script", "k"]) (B : Blt mg) : FnOk P w K mg base CX0 1 d.f d.fd ["script", "k"] (spCell K) := by
  refine d.F.ok scCell (fun vs H Q E h => ?_) (fun cdv A outer s H vs Q E hr h => ?_)
  · obtain ⟨a, ns, k, rfl, _⟩ := h
    rfl
  · obtain ⟨a, ns, k, rfl, hS, hk, q⟩ := h
    refine ⟨_, pss_cons (ps_if (pt_cmpR op_lt (pv 1) (pe_callB call_len_seq (by rfl) B.len PySem.boot_len (pa_cons (pv 0) pa_nil)) (nomark _)) (pss_one (ps_ret (pe_ix ix_list (pv 0) (pv 1) (fun _ _ => rfl)))) pss_nil)
      (pss_one (ps_ret pe_int)), ?_⟩
    refine ⟨_, rfl, _, rfl, a, _, rfl, .inl hS, _, _, rfl, rfl, _, rfl, ?_⟩
    refine ite2 (fun hb => ?_) (fun hb => ?_)
    · have hb' : k < ((ns.map V.int).length : Int) := of_decide_eq_true hb
      rw [List.length_map] at hb'
      have hlt : k.toNat < ns.length := by (first | lia | omega)
      refine ⟨_, rfl, _, rfl, a, _, k, .int (ns.getD k.toNat 0), rfl, rfl, hS, ?_, q⟩
      have e : (ns.map V.int)[k.toNat]? = some (.int (ns.getD k.toNat 0)) := by
        rw [List.getElem?_map, List.getElem?_eq_getElem hlt, List.getD_eq_getElem?_getD, List.getElem?_eq_getElem hlt]
        rfl
      have z := atI_nat e
      rw [show ((k.toNat : Nat) : Int) = k by (first | lia | omega)] at z
      exact z
    · have hb' : ¬ k < ((ns.map V.int).length : Int) := fun z => hb (decide_eq_true z)
      rw [List.length_map] at hb'
      have e : ns.getD k.toNat 0 = 0 := by rw [List.getD_eq_getElem?_getD, List.getElem?_eq_none (by (first | lia | omega))]; rfl
      rw [e] at q
      exact q
end
end Bm
namespace Bm
open PySem L2
section
variable {P : Program} {w : World} {K : PySem.W.Frag} {mg : Str → Option Value} {base : Heap}
theorem scCount : FnScope ["many"] ["many"] (defScope sCheckCount) := ⟨rfl, rfl, rfl, by decide +kernel, rfl, by decide +kernel, by decide +kernel⟩
theorem ok_count (d : Def K mg "check_count" sCheckCount ["many"]) (Gl : Glob mg) : FnOk P w K mg base CX0 1 d.f d.fd ["many"] spCount := by
  refine d.F.ok scCount (fun vs H Q E h => ?_) (fun cdv A outer s H vs Q E hr h => ?_)
  · obtain ⟨n, rfl, _⟩ := h
    rfl
  · obtain ⟨n, rfl, h1, h6, k⟩ := h
    obtain ⟨t, hm⟩ := Gl.most
    refine ⟨_, pss_one (ps_if (pw_or (pt_cmpR op_lt (pv 0) pe_int (nomark _)) (pw_or1 (pt_cmpR op_gt (pv 0) (pe_glob (v := .int 6) (by rfl) hm ⟨t, rfl⟩) (nomark _)))).pt pss_never pss_nil), ?_⟩
    refine ⟨_, rfl, _, _, rfl, rfl, _, rfl, ?_⟩
    rw [decide_eq_false (by (first | lia | omega))]
    refine iteF ?_
    refine ⟨_, rfl, _, _, rfl, rfl, _, rfl, ?_⟩
    rw [decide_eq_false (by (first | lia | omega))]
    exact iteF k
end
end Bm
namespace Bm
open PySem L2
section
variable {P : Program} {w : World} {K : PySem.W.Frag} {mg : Str → Option Value} {base : Heap}
theorem scOrder : FnScope ["cell", "many", "left", "order", "k"] ["cell", "many"] (defScope sOrder) := ⟨rfl, rfl, rfl, by decide +kernel, rfl, by decide +kernel, by decide +kernel⟩
theorem ok_order (d : Def K mg "_law_order" sOrder ["cell", "many"]) (B : Blt mg) : FnOk P w K mg base CX0 1 d.f d.fd ["cell", "many"] spOrder := by
  refine d.F.ok scOrder (fun vs H Q E h => ?_) (fun cdv A outer s H vs Q E hr h => ?_)
  · obtain ⟨c, n, rfl, _⟩ := h
    rfl
  · obtain ⟨c, n, rfl, h1, h6, k⟩ := h
    refine ⟨_, pss_cons (ps_set (i := 2) scOrder.nd rfl (Or.inl rfl) (pe_callTy (call_list_rng rfl) (by rfl) B.list PyProof.Rows.boot_list (pa_cons (pe_callTy call_range (by rfl) B.range PyProof.Rows.boot_range (pa_cons (pv 1) pa_nil)) pa_nil)))
      (pss_cons (ps_set (i := 3) scOrder.nd rfl (Or.inl rfl) (pe_lst pa_nil))
      (pss_cons (ps_for PassesOwn.never rfl (pi_range1 (by rfl) B.range (pa_cons (pv 1) pa_nil)) (pg_name (i := 4) scOrder.nd rfl (Or.inl rfl))
        (pss_cons (ps_expr (pe_bm PySem.F.plainAttrs_list PySem.F.slot_list_append PySem.F.type_list_append mt_append (pv 3) (pa_cons
            (pe_bm PySem.F.plainAttrs_list PySem.F.slot_list_pop PySem.F.type_list_pop mt_popAt (pv 2) (pa_cons (pe_op op_mod (pv 0) (pe_callB call_len_seq (by rfl) B.len PySem.boot_len (pa_cons (pv 2) pa_nil))) pa_nil)) pa_nil)))
        (pss_one (ps_set (i := 0) scOrder.nd rfl (Or.inl rfl) (pe_op op_fdiv (pv 0) (pe_op op_add (pe_callB call_len_seq (by rfl) B.len PySem.boot_len (pa_cons (pv 2) pa_nil)) pe_int))))))
      (pss_one (ps_ret (pe_callTy call_tuple_of (by rfl) B.tuple PyProof.Rows.boot_tuple (pa_cons (pv 3) pa_nil)))))), ?_⟩
    refine ⟨_, rfl, n, rfl, fun p hp => ⟨p, 0, n, rfl, upd_same, ⟨by (first | lia | omega), by (first | lia | omega), by (first | lia | omega), by (first | lia | omega)⟩, by (first | lia | omega), fun lf hlf => ?_⟩⟩
    rw [things_eq]
    have s1 : Same H (upd (upd H p (.rng 0 n)) lf (.lst ((rangeI n).map V.int))) := (same_upd hp).trans (same_upd hlf)
    have flf : H lf = none := (same_upd hp).free hlf
    refine ⟨Nat.zero_le _, fun od hod => ?_⟩
    have fod : H od = none := s1.free hod
    have hne : lf ≠ od := ne_of_none upd_same hod
    refine ⟨_, rfl, n, rfl, by (first | lia | omega), by (first | lia | omega), for_range (n := n.toNat) (fun i σ H' => ∃ (c : Int) (v : Option V) (o l : List Int), σ = [some (.int c), some (.int n), some (.ref lf), some (.ref od), v] ∧ Same H H' ∧
        H' lf = some (.lst (l.map V.int)) ∧ H' od = some (.lst (o.map V.int)) ∧ (o ++ l).Perm (rangeI n) ∧ l.length + i = n.toNat ∧ o.length = i)
      ⟨c, none, [], rangeI n, rfl, s1.trans (same_upd hod), by rw [upd_ne hne]; exact upd_same, upd_same, .refl _, by rw [show (rangeI n).length = n.toNat from rangeK_len _]; (first | lia | omega), rfl⟩ ?_ ?_⟩
    · rintro i σ H' hi ⟨c, v, o, l, rfl, s2, hl, ho, hperm, hlen, hol⟩
      have hl0 : 0 < l.length := by (first | lia | omega)
      have hm0 : ((l.map V.int).length : Int) = (l.length : Int) := by rw [List.length_map]
      have j0 : 0 ≤ c % (l.length : Int) := Int.emod_nonneg _ (by (first | lia | omega))
      have j1 : c % (l.length : Int) < (l.length : Int) := Int.emod_lt_of_pos _ (by (first | lia | omega))
      have hj : (c % (l.length : Int)).toNat < l.length := by (first | lia | omega)
      refine ⟨_, rfl, .inl ⟨rfl, _, SqL.of ho⟩, _, rfl, .inl ⟨rfl, _, SqL.of hl⟩, _, rfl, _, rfl, lf, _, rfl, .inl (SqL.of hl), _, _, rfl, rfl, by rw [hm0]; (first | lia | omega), ?_⟩
      rw [hm0]
      refine ⟨lf, l.map V.int, c % (l.length : Int), (c % (l.length : Int)).toNat, .int (l[(c % (l.length : Int)).toNat]), rfl, rfl, hl, by (first | lia | omega), by (first | lia | omega), by rw [List.length_map]; exact seqIndex_of j0 j1, by rw [List.getElem?_map, List.getElem?_eq_getElem hj]; rfl, ?_⟩
      have ho2 : (upd H' lf (.lst ((l.map V.int).eraseIdx (c % (l.length : Int)).toNat))) od = some (.lst (o.map V.int)) := by rw [upd_ne hne.symm]; exact ho
      refine ⟨od, o.map V.int, _, rfl, rfl, ho2, by rw [List.length_map]; exact small1000 (by (first | lia | omega)), ?_⟩
      have hl2 : (upd (upd H' lf (.lst ((l.map V.int).eraseIdx (c % (l.length : Int)).toNat))) od (.lst (o.map V.int ++ [V.int (l[(c % (l.length : Int)).toNat])]))) lf = some (.lst ((l.eraseIdx (c % (l.length : Int)).toNat).map V.int)) := by
        rw [upd_ne hne, upd_same, erase_map]
      refine ⟨_, rfl, _, rfl, lf, _, rfl, .inl (SqL.of hl2), _, _, rfl, rfl, _, _, rfl, rfl, ⟨by (first | lia | omega), by rw [List.length_map]; have := len_erase l (c % (l.length : Int)).toNat; (first | lia | omega)⟩, ?_⟩
      refine ⟨_, _, o ++ [l[(c % (l.length : Int)).toNat]], l.eraseIdx (c % (l.length : Int)).toNat, rfl, same_upd' (same_upd' s2 flf) fod, hl2, by rw [upd_same, List.map_append]; rfl, ?_, by rw [List.length_eraseIdx_of_lt hj]; (first | lia | omega), by rw [List.length_append, List.length_singleton]; (first | lia | omega)⟩
      rw [List.append_assoc]
      exact ((erase_perm hj).append_left o).trans hperm
    · rintro σ H' ⟨c, v, o, l, rfl, s2, hl, ho, hperm, hlen, hol⟩
      have hnil : l = [] := List.eq_nil_of_length_eq_zero (by (first | lia | omega))
      subst hnil
      rw [List.append_nil] at hperm
      refine ⟨_, rfl, od, o.map V.int, rfl, .inl ⟨SqL.of ho, fun t ht => ?_⟩⟩
      exact k _ t o (same_upd' s2 (s2.free ht)) (s2.free ht) upd_same hperm
end
end Bm
namespace Bm
open PySem L2
section
variable {P : Program} {w : World} {K : PySem.W.Frag} {mg : Str → Option Value} {base : Heap}
noncomputable def ent (b : Int × Int) : List Key × V := ([Sum.inl b.1, Sum.inl b.2], .bl true)
theorem ent_none {L : List (Int × Int)} {x y : Int} (h : (x, y) ∉ L) : valV (L.map ent) [Sum.inl x, Sum.inl y] = none := by
  induction L with
  | nil => rfl
  | cons b L ih =>
    rw [List.map_cons, valV_neg, ih (fun z => h (List.mem_cons_of_mem _ z))]
    intro e
    have e' : ([Sum.inl b.1, Sum.inl b.2] : List Key) = [Sum.inl x, Sum.inl y] := e
    injection e' with e1 e2
    injection e2 with e2 _
    injection e1 with e1
    injection e2 with e2
    exact h (by rw [← e1, ← e2]; exact List.mem_cons_self)
theorem scCheckWeb : FnScope ["many", "web", "seen", "one", "other"] ["many", "web"] (defScope sCheckWeb) := ⟨rfl, rfl, rfl, by decide +kernel, rfl, by decide +kernel, by decide +kernel⟩
theorem ok_checkWeb (d : Def K mg "check_web" sCheckWeb ["many", "web"]) (dC : Def K mg "check_count" sCheckCount ["many"]) (GC : FnOk P w K mg base CX0 1 dC.f dC.fd ["many"] spCount) :
    FnOk P w K mg base CX0 2 d.f d.fd ["many", "web"] (spCheckWeb K) := by
  refine d.F.ok scCheckWeb (fun vs H Q E h => ?_) (fun cdv A outer s H vs Q E hr h => ?_)
  · obtain ⟨n, a, W, rfl, _⟩ := h
    rfl
  · obtain ⟨n, a, W, rfl, h1, h6, ⟨xs, hx, px⟩, g, k⟩ := h
    refine ⟨_, pss_cons (ps_expr (pe_call GC hr (by rfl) dC.mgf dC.F.kp dC.b .nil pass0 (pa_cons (pv 0) pa_nil)))
      (pss_cons (ps_set (i := 2) scCheckWeb.nd rfl (Or.inl rfl) pe_dnewT)
      (pss_one (ps_for PassesOwn.never rfl (pi_list (pv 1)) (pg_tup rfl (pgs_cons (pg_name (i := 3) scCheckWeb.nd rfl (Or.inl rfl)) (pgs_cons (pg_name (i := 4) scCheckWeb.nd rfl (Or.inl rfl)) pgs_nil)))
        (pss_cons (ps_if (pt_not (pw_and (pt_chain op_le op_lt pe_int (pv 3) (pv 0)) (pw_and1 (pt_chain op_le op_lt pe_int (pv 4) (pv 0)))).pt) pss_never pss_nil)
        (pss_cons (ps_if (pt_cmpR op_eq (pv 3) (pv 4) (nomark _)) pss_never pss_nil)
        (pss_cons (ps_if (pt_cmp (pc_din (hu_of hr) (pe_tup (pa_cons (pv 3) (pa_cons (pv 4) pa_nil))) (pv 2))) pss_never pss_nil)
        (pss_cons (ps_if (pt_cmp (pc_din (hu_of hr) (pe_tup (pa_cons (pv 4) (pa_cons (pv 3) pa_nil))) (pv 2))) pss_never pss_nil)
        (pss_one (ps_dput (hu_of hr) (pv 2) (pe_tup (pa_cons (pv 3) (pa_cons (pv 4) pa_nil))) pe_bl rfl))))))))), ?_⟩
    refine ⟨_, rfl, n, rfl, h1, h6, fun sd hsd => ?_⟩
    have hlx := Paired.length px
    refine ⟨_, rfl, a, rfl, ⟨_, (same_upd hsd).seq hx⟩, for_list (K := K) (a := a) (xs := xs) (fun i σ H' => ∃ v3 v4, σ = [some (.int n), some (.ref a), some (.ref sd), v3, v4] ∧ Same H H' ∧ H' sd = some (.dT ((W.take i).map ent)))
      ⟨none, none, rfl, same_upd hsd, upd_same⟩ (fun i σ H' _ ⟨_, _, _, s2, _⟩ => s2.seq hx) ?_ ?_⟩
    · rintro i x σ H1 hi ⟨v3, v4, rfl, s1, h1d⟩
      obtain ⟨b, hb, q, rfl, hq⟩ := paired_get px hi
      have hq1 := s1 _ _ hq
      have bW : b ∈ W := List.mem_of_getElem? hb
      obtain ⟨⟨r1, r2⟩, r3, r4⟩ := g.rng b bW
      have hil : i < W.length := (List.getElem?_eq_some_iff.mp hb).1
      have hWl : (W.take i).length ≤ 100 := by rw [List.length_take]; have := g.len; (first | lia | omega)
      have n1 : (b.1, b.2) ∉ W.take i := fun z => by
        obtain ⟨j, hj⟩ := List.getElem?_of_mem z
        have hjl := (List.getElem?_eq_some_iff.mp hj).1
        rw [List.length_take] at hjl
        rw [List.getElem?_take_of_lt (by (first | lia | omega))] at hj
        have := (List.getElem?_inj (by (first | lia | omega) : j < W.length) g.nodup).mp (hj.trans hb.symm)
        (first | lia | omega)
      have n2 : (b.2, b.1) ∉ W.take i := fun z => g.asym b bW (List.mem_of_mem_take z)
      refine ⟨q, _, rfl, SqT.of hq1, rfl, _, _, rfl, _, _, rfl, rfl, ?_⟩
      refine ⟨_, rfl, _, _, rfl, rfl, _, rfl, iteP r1 ⟨_, rfl, _, _, rfl, rfl, _, rfl, iteP r2 ⟨_, rfl, _, _, rfl, rfl, _, rfl, iteP r3 ⟨_, rfl, _, _, rfl, rfl, _, rfl, iteNS r4 ?_⟩⟩⟩⟩
      refine ⟨_, rfl, _, rfl, rfl, _, rfl, iteN (fun e => g.irr b bW (by injection e)) ?_⟩
      refine ⟨_, rfl, _, rfl, (by show 2 ≤ sizeLine; rw [sizeLine_eq]; decide), fun t1 ht1 => ?_⟩
      have s2 := s1.trans (same_upd (o := .tup [.int b.1, .int b.2]) ht1)
      have d2 := (same_upd (o := .tup [.int b.1, .int b.2]) ht1) _ _ h1d
      have z1 : DGet (upd H1 t1 (.tup [.int b.1, .int b.2])) sd (.ref t1) none := by
        have z := DGet.t (k := [Sum.inl b.1, Sum.inl b.2]) (b := t1) d2 upd_same
        rw [ent_none n1] at z
        exact z
      refine ⟨_, rfl, sd, none, rfl, z1, _, rfl, iteF ?_⟩
      refine ⟨_, rfl, _, rfl, (by show 2 ≤ sizeLine; rw [sizeLine_eq]; decide), fun t2 ht2 => ?_⟩
      generalize upd H1 t1 (.tup [.int b.1, .int b.2]) = H2 at s2 d2 ht2 ⊢
      have s3 := s2.trans (same_upd (o := .tup [.int b.2, .int b.1]) ht2)
      have d3 := (same_upd (o := .tup [.int b.2, .int b.1]) ht2) _ _ d2
      have z2 : DGet (upd H2 t2 (.tup [.int b.2, .int b.1])) sd (.ref t2) none := by
        have z := DGet.t (k := [Sum.inl b.2, Sum.inl b.1]) (b := t2) d3 upd_same
        rw [ent_none n2] at z
        exact z
      refine ⟨_, rfl, sd, none, rfl, z2, _, rfl, iteF ?_⟩
      generalize upd H2 t2 (.tup [.int b.2, .int b.1]) = H3 at s3 d3 ⊢
      refine ⟨_, rfl, _, rfl, _, rfl, (by show 2 ≤ sizeLine; rw [sizeLine_eq]; decide), fun t3 ht3 => ?_⟩
      have s4 := s3.trans (same_upd (o := .tup [.int b.1, .int b.2]) ht3)
      have d4 := (same_upd (o := .tup [.int b.1, .int b.2]) ht3) _ _ d3
      refine ⟨sd, _, rfl, DPut.t (k := [Sum.inl b.1, Sum.inl b.2]) d4 upd_same (by rw [List.length_map]; exact small1000 (by (first | lia | omega))), ?_⟩
      rw [putK_new _ (ent_none n1)]
      refine ⟨_, _, rfl, same_upd' s4 hsd, ?_⟩
      rw [upd_same, List.take_add_one, hb, List.map_append]
      rfl
    · rintro σ H1 ⟨v3, v4, rfl, s1, _⟩
      exact k H1 s1
end
end Bm
namespace Bm
open PySem L2
section
variable {P : Program} {w : World} {K : PySem.W.Frag} {mg : Str → Option Value} {base : Heap}
theorem scAmong : FnScope ["voters", "one", "other", "ahead", "behind"] ["voters", "one", "other"] (defScope sLeadAmong) := ⟨rfl, rfl, rfl, by decide +kernel, rfl, by decide +kernel, by decide +kernel⟩
theorem ok_among (d : Def K mg "lead_among" sLeadAmong ["voters", "one", "other"]) (B : Blt mg) : FnOk P w K mg base CX0 1 d.f d.fd ["voters", "one", "other"] (spAmong K) := by
  refine d.F.ok scAmong (fun vs H Q E h => ?_) (fun cdv A outer s H vs Q E hr h => ?_)
  · obtain ⟨a, L, one, other, rfl, _⟩ := h
    rfl
  · obtain ⟨a, L, one, other, rfl, ⟨xs, hx, px⟩, hmem, hL, k⟩ := h
    refine ⟨_, pss_cons (ps_setC (i := 3) (ts := ["voter"]) (fs := [(1, "one"), (2, "other")]) scAmong.nd rfl (Or.inl rfl) rfl (by exact .mk' rfl (by rfl) ⟨rfl, rfl, rfl, rfl, trivial⟩) (pi_list (pv 0))
        (by intros; exact pg_name (i := 0) (show (["voter", "one", "other"] : List Str).Nodup by decide +kernel) rfl (Or.inl rfl))
        (by intros; exact pts_one (pt_cmpR op_lt (pe_bmU PySem.F.plainAttrs_tuple PySem.F.slot_tuple_index PySem.F.type_tuple_index mt_tindex (pv 0) (pa_cons (pv 1) pa_nil)) (pe_bmU PySem.F.plainAttrs_tuple PySem.F.slot_tuple_index PySem.F.type_tuple_index mt_tindex (pv 0) (pa_cons (pv 2) pa_nil)) (nomark _)))
        (by intros; exact pv 0))
      (pss_cons (ps_set (i := 4) scAmong.nd rfl (Or.inl rfl) (pe_op op_sub (pe_callB call_len_seq (by rfl) B.len PySem.boot_len (pa_cons (pv 0) pa_nil)) (pe_callB call_len_seq (by rfl) B.len PySem.boot_len (pa_cons (pv 3) pa_nil))))
      (pss_one (ps_ret (pe_op op_sub (pe_callB call_len_seq (by rfl) B.len PySem.boot_len (pa_cons (pv 3) pa_nil)) (pv 4))))), ?_⟩
    have hlx := Paired.length px
    refine ⟨_, rfl, a, rfl, ⟨xs, hx⟩, fun l hl => comp_list' (xs := xs) (fun i acc H' => Same H H' ∧ H' l = some (.lst acc) ∧ Paired (dT H) ((L.take i).filter (before one other)) acc ∧ acc.length ≤ i)
      ⟨same_upd hl, upd_same, .nil, Nat.le_refl _⟩ (fun i acc H' _ ⟨s1, h1, _⟩ => ⟨s1.seq hx, h1⟩) ?_ ?_⟩
    · rintro i x acc H' hi hlt ⟨s1, h1, hp, hal⟩
      obtain ⟨o, ho, q, rfl, hq⟩ := paired_get px hi
      obtain ⟨m1, m2⟩ := hmem o (List.mem_of_getElem? ho)
      refine ⟨small1000 (by (first | lia | omega)), ⟨rfl, rfl⟩, _, rfl, .inr ⟨rfl, q, _, rfl, s1 _ _ hq⟩, _, rfl, q, o, one, rfl, rfl, SqT.of (s1 _ _ hq), m1, _, rfl, .inr ⟨rfl, q, _, rfl, s1 _ _ hq⟩, _, rfl, q, o, other, rfl, rfl, SqT.of (s1 _ _ hq), m2, _, _, rfl, rfl, _, rfl, ?_⟩
      have key := take_filter_succ (before one other) ho
      refine ite2 (fun hb => ?_) (fun hb => ?_)
      · have hb' : before one other o = true := hb
        rw [if_pos hb'] at key
        refine ⟨_, rfl, h1, Nx.mk hlt ⟨same_upd' s1 hl, upd_same, ?_, ?_⟩⟩
        · rw [key]; exact pd_append hp (.cons ⟨q, rfl, hq⟩ .nil)
        · rw [List.length_append, List.length_singleton]; (first | lia | omega)
      · have hb' : ¬ before one other o = true := hb
        rw [if_neg hb'] at key
        refine Nx.mk hlt ⟨s1, h1, ?_, by (first | lia | omega)⟩
        rw [key, List.append_nil]; exact hp
    · rintro acc H' ⟨s1, h1, hp, hal⟩
      rw [List.take_of_length_le (by (first | lia | omega))] at hp
      have hla := Paired.length hp
      refine ⟨_, rfl, a, xs, rfl, .inl (s1.seq hx), _, rfl, l, acc, rfl, .inl (SqL.of h1), _, _, rfl, rfl, ?_⟩
      refine ⟨_, rfl, l, acc, rfl, .inl (SqL.of h1), _, rfl, _, _, rfl, rfl, ?_⟩
      have e : (acc.length : Int) - ((xs.length : Int) - (acc.length : Int)) = leadM L one other := by
        unfold leadM
        (first | lia | omega)
      show Q (.int ((acc.length : Int) - ((xs.length : Int) - (acc.length : Int)))) H'
      rw [e]
      exact k H' s1
end
end Bm
namespace Bm
open PySem L2
section
variable {P : Program} {w : World} {K : PySem.W.Frag} {mg : Str → Option Value} {base : Heap}
theorem scLawLead : FnScope ["voters", "one", "other", "ahead"] ["voters", "one", "other"] (defScope sLawLead) := ⟨rfl, rfl, rfl, by decide +kernel, rfl, by decide +kernel, by decide +kernel⟩
theorem ok_lawLead (d : Def K mg "_law_lead" sLawLead ["voters", "one", "other"]) (B : Blt mg) : FnOk P w K mg base CX0 1 d.f d.fd ["voters", "one", "other"] (spAmong K) := by
  refine d.F.ok scLawLead (fun vs H Q E h => ?_) (fun cdv A outer s H vs Q E hr h => ?_)
  · obtain ⟨a, L, one, other, rfl, _⟩ := h
    rfl
  · obtain ⟨a, L, one, other, rfl, ⟨xs, hx, px⟩, hmem, hL, k⟩ := h
    refine ⟨_, pss_cons (ps_setC (i := 3) (ts := ["voter"]) (fs := [(1, "one"), (2, "other")]) scLawLead.nd rfl (Or.inl rfl) rfl (by exact .mk' rfl (by rfl) ⟨rfl, rfl, rfl, rfl, trivial⟩) (pi_list (pv 0))
        (by intros; exact pg_name (i := 0) (show (["voter", "one", "other"] : List Str).Nodup by decide +kernel) rfl (Or.inl rfl))
        (by intros; exact pts_one (pt_cmpR op_lt (pe_bmU PySem.F.plainAttrs_tuple PySem.F.slot_tuple_index PySem.F.type_tuple_index mt_tindex (pv 0) (pa_cons (pv 1) pa_nil)) (pe_bmU PySem.F.plainAttrs_tuple PySem.F.slot_tuple_index PySem.F.type_tuple_index mt_tindex (pv 0) (pa_cons (pv 2) pa_nil)) (nomark _)))
        (by intros; exact pv 0))
      (pss_one (ps_ret (pe_op op_sub (pe_op op_mul pe_int (pe_callB call_len_seq (by rfl) B.len PySem.boot_len (pa_cons (pv 3) pa_nil))) (pe_callB call_len_seq (by rfl) B.len PySem.boot_len (pa_cons (pv 0) pa_nil))))), ?_⟩
    have hlx := Paired.length px
    refine ⟨_, rfl, a, rfl, ⟨xs, hx⟩, fun l hl => comp_list' (xs := xs) (fun i acc H' => Same H H' ∧ H' l = some (.lst acc) ∧ Paired (dT H) ((L.take i).filter (before one other)) acc ∧ acc.length ≤ i)
      ⟨same_upd hl, upd_same, .nil, Nat.le_refl _⟩ (fun i acc H' _ ⟨s1, h1, _⟩ => ⟨s1.seq hx, h1⟩) ?_ ?_⟩
    · rintro i x acc H' hi hlt ⟨s1, h1, hp, hal⟩
      obtain ⟨o, ho, q, rfl, hq⟩ := paired_get px hi
      obtain ⟨m1, m2⟩ := hmem o (List.mem_of_getElem? ho)
      refine ⟨small1000 (by (first | lia | omega)), ⟨rfl, rfl⟩, _, rfl, .inr ⟨rfl, q, _, rfl, s1 _ _ hq⟩, _, rfl, q, o, one, rfl, rfl, SqT.of (s1 _ _ hq), m1, _, rfl, .inr ⟨rfl, q, _, rfl, s1 _ _ hq⟩, _, rfl, q, o, other, rfl, rfl, SqT.of (s1 _ _ hq), m2, _, _, rfl, rfl, _, rfl, ?_⟩
      have key := take_filter_succ (before one other) ho
      refine ite2 (fun hb => ?_) (fun hb => ?_)
      · have hb' : before one other o = true := hb
        rw [if_pos hb'] at key
        refine ⟨_, rfl, h1, Nx.mk hlt ⟨same_upd' s1 hl, upd_same, ?_, ?_⟩⟩
        · rw [key]; exact pd_append hp (.cons ⟨q, rfl, hq⟩ .nil)
        · rw [List.length_append, List.length_singleton]; (first | lia | omega)
      · have hb' : ¬ before one other o = true := hb
        rw [if_neg hb'] at key
        refine Nx.mk hlt ⟨s1, h1, ?_, by (first | lia | omega)⟩
        rw [key, List.append_nil]; exact hp
    · rintro acc H' ⟨s1, h1, hp, hal⟩
      rw [List.take_of_length_le (by (first | lia | omega))] at hp
      have hla := Paired.length hp
      refine ⟨_, rfl, l, acc, rfl, .inl (SqL.of h1), _, _, rfl, rfl, .inl ⟨by decide, by decide⟩, _, rfl, a, xs, rfl, .inl (s1.seq hx), _, _, rfl, rfl, ?_⟩
      have e : 2 * (acc.length : Int) - (xs.length : Int) = leadM L one other := by
        unfold leadM
        (first | lia | omega)
      show Q (.int (2 * (acc.length : Int) - (xs.length : Int))) H'
      rw [e]
      exact k H' s1
end
end Bm
namespace Bm
open PySem L2
section
variable {P : Program} {w : World} {K : PySem.W.Frag} {mg : Str → Option Value} {base : Heap}
theorem scBeats : FnScope ["many", "voters", "found", "one", "other"] ["many", "voters"] (defScope sBeats) := ⟨rfl, rfl, rfl, by decide +kernel, rfl, by decide +kernel, by decide +kernel⟩
theorem ok_beats (d : Def K mg "_law_beats" sBeats ["many", "voters"]) (B : Blt mg) (dA : Def K mg "_law_lead" sLawLead ["voters", "one", "other"]) (GA : FnOk P w K mg base CX0 1 dA.f dA.fd ["voters", "one", "other"] (spAmong K)) : FnOk P w K mg base CX0 2 d.f d.fd ["many", "voters"] (spWeb K) := by
  refine d.F.ok scBeats (fun vs H Q E h => ?_) (fun cdv A outer s H vs Q E hr h => ?_)
  · obtain ⟨n, a, L, rfl, _⟩ := h
    rfl
  · obtain ⟨n, a, L, rfl, h1, h6, hV, hO, hL, k⟩ := h
    refine ⟨_, (pss_cons (ps_set (i := 2) scBeats.nd rfl (Or.inl rfl) (pe_lst pa_nil))
      (pss_cons (ps_for PassesOwn.never rfl (pi_range1 (by rfl) B.range (pa_cons (pv 0) pa_nil)) (pg_name (i := 3) scBeats.nd rfl (Or.inl rfl))
        (pss_one (ps_for PassesOwn.never rfl (pi_range1 (by rfl) B.range (pa_cons (pv 0) pa_nil)) (pg_name (i := 4) scBeats.nd rfl (Or.inl rfl))
          (pss_one (ps_if (pw_and (pt_cmpR op_ne (pv 3) (pv 4) (nomark _)) (pw_and1 (pt_cmpR op_gt (pe_call GA (hr.mono (by decide)) (by rfl) dA.mgf dA.F.kp dA.b .nil pass0 (pa_cons (pv 1) (pa_cons (pv 3) (pa_cons (pv 4) pa_nil)))) pe_int (nomark _)))).pt
            (pss_one (ps_expr (pe_bm PySem.F.plainAttrs_list PySem.F.slot_list_append PySem.F.type_list_append mt_append (pv 2) (pa_cons (pe_tup (pa_cons (pv 3) (pa_cons (pv 4) pa_nil))) pa_nil)))) pss_nil)))))
      (pss_one (ps_ret (pv 2))))), ?_⟩
    have s0 : Same H H := Same.refl H
    refine ⟨Nat.zero_le _, fun wb hwb => ?_⟩
    have fwb : H wb = none := s0.free hwb
    refine ⟨_, rfl, n, rfl, by (first | lia | omega), by (first | lia | omega), for_range (n := n.toNat) (fun i σ H' => ∃ (v1 v2 : Option V) (ws : List V), σ = [some (.int n), some (.ref a), some (.ref wb), v1, v2] ∧ Same H H' ∧ H' wb = some (.lst ws) ∧ Paired (dT H') (beatsM L n.toNat i) ws ∧ ws.length ≤ i * 6)
      ⟨none, none, [], rfl, same_upd' s0 fwb, upd_same, .nil, Nat.le_refl _⟩ ?_ ?_⟩
    · rintro i σ H1 hi ⟨v1, v2, ws, rfl, s1, hw, pw, hlen⟩
      refine ⟨_, rfl, n, rfl, by (first | lia | omega), by (first | lia | omega), for_range (n := n.toNat) (fun j σ H' => ∃ (v2 : Option V) (ws : List V), σ = [some (.int n), some (.ref a), some (.ref wb), some (.int ((0 : Int) + (i : Nat))), v2] ∧ Same H H' ∧ H' wb = some (.lst ws) ∧
          Paired (dT H') (beatsM L n.toNat i ++ rowM L ((0 : Int) + (i : Nat)) j) ws ∧ ws.length ≤ i * 6 + j)
        ⟨v2, ws, rfl, s1, hw, by rw [show rowM L ((0 : Int) + (i : Nat)) 0 = [] from rfl, List.append_nil]; exact pw, hlen⟩ ?_ ?_⟩
      · rintro j σ H2 hj ⟨v2, ws, rfl, s2, hw, pw, hlen⟩
        have key := rowM_succ L ((0 : Int) + (i : Nat)) j
        refine ⟨_, rfl, _, rfl, rfl, _, rfl, ?_⟩
        have b1 : 0 ≤ (0 : Int) + (i : Nat) ∧ (0 : Int) + (i : Nat) < n := by (first | lia | omega)
        have b2 : 0 ≤ (0 : Int) + (j : Nat) ∧ (0 : Int) + (j : Nat) < n := by (first | lia | omega)
        refine ite2 (fun hb => ?_) (fun hb => ?_)
        · have hb' : ¬ (0 : Int) + (i : Nat) = (0 : Int) + (j : Nat) := fun e => by
            rw [e] at hb
            simp at hb
          refine ⟨_, rfl, _, rfl, _, rfl, a, L, _, _, rfl, hV.same s2, fun o ho => ⟨ord_mem hO b1 o ho, ord_mem hO b2 o ho⟩, hL, fun H3 s3 => ⟨_, _, rfl, rfl, _, rfl, ?_⟩⟩
          refine ite2 (fun hc => ?_) (fun hc => ?_)
          · have hc' : 0 < leadM L ((0 : Int) + (i : Nat)) ((0 : Int) + (j : Nat)) := of_decide_eq_true hc
            have hwin : winB L ((0 : Int) + (i : Nat)) ((0 : Int) + (j : Nat)) = true := by unfold winB; rw [decide_eq_false hb', decide_eq_true hc']; rfl
            rw [if_pos hwin] at key
            have hw3 := s3 _ _ hw
            refine ⟨_, rfl, .inl ⟨rfl, _, SqL.of hw3⟩, _, rfl, _, rfl, (by show 2 ≤ sizeLine; rw [sizeLine_eq]; decide), fun t ht => ?_⟩
            have ft : H t = none := (s2.trans s3).free ht
            have hwt : wb ≠ t := ne_of_none hw3 ht
            refine ⟨wb, ws, _, rfl, rfl, by rw [upd_ne hwt]; exact hw3, small1000 (by (first | lia | omega)), ?_⟩
            refine ⟨_, _, rfl, same_upd' (same_upd' (s2.trans s3) ft) fwb, upd_same, ?_, by rw [List.length_append, List.length_singleton]; (first | lia | omega)⟩
            rw [key, ← List.append_assoc]
            refine pd_append (pd_same (dT_keep (o := .lst ws) hw (fun b u hbu hne => ?_)) pw) (.cons ⟨t, rfl, ?_⟩ .nil)
            · rw [upd_ne hne, upd_ne (ne_of_none (s3 _ _ hbu) ht)]
              exact s3 _ _ hbu
            · rw [upd_ne hwt.symm]
              exact upd_same
          · have hc' : ¬ 0 < leadM L ((0 : Int) + (i : Nat)) ((0 : Int) + (j : Nat)) := fun z => hc (decide_eq_true z)
            have hwin : ¬ winB L ((0 : Int) + (i : Nat)) ((0 : Int) + (j : Nat)) = true := by unfold winB; rw [decide_eq_false hc', Bool.and_false]; exact Bool.false_ne_true
            rw [if_neg hwin, List.append_nil] at key
            refine ⟨_, ws, rfl, s2.trans s3, s3 _ _ hw, ?_, by (first | lia | omega)⟩
            rw [key]
            exact pd_same (dT_same s3) pw
        · have hb' : (0 : Int) + (i : Nat) = (0 : Int) + (j : Nat) := by
            by_cases e : (0 : Int) + (i : Nat) = (0 : Int) + (j : Nat)
            · exact e
            · exact absurd (by simpa using e) hb
          have hwin : ¬ winB L ((0 : Int) + (i : Nat)) ((0 : Int) + (j : Nat)) = true := by unfold winB; rw [decide_eq_true hb']; exact Bool.false_ne_true
          rw [if_neg hwin, List.append_nil] at key
          refine iteF ?_
          refine ⟨_, ws, rfl, s2, hw, ?_, by (first | lia | omega)⟩
          rw [key]
          exact pw
      · rintro σ H2 ⟨v2, ws, rfl, s2, hw, pw, hlen⟩
        refine ⟨_, _, ws, rfl, s2, hw, ?_, by (first | lia | omega)⟩
        rw [beatsM_succ]
        exact pw
    · rintro σ H1 ⟨v1, v2, ws, rfl, s1, hw, pw, hlen⟩
      exact ⟨_, rfl, k H1 wb ws s1 fwb hw pw⟩
end
end Bm
namespace Bm
open PySem L2
section
variable {P : Program} {w : World} {K : PySem.W.Frag} {mg : Str → Option Value} {base : Heap}
theorem scLawVoters : FnScope ["script", "start", "many", "most", "count", "voters", "more"] ["script", "start", "many", "most"] (defScope sVoters) := ⟨rfl, rfl, rfl, by decide +kernel, rfl, by decide +kernel, by decide +kernel⟩
theorem ok_lawVoters (d : Def K mg "_law_voters" sVoters ["script", "start", "many", "most"]) (B : Blt mg) (dC : Def K mg "_law_cell_at" sCellAt ["script", "k"]) (GC : FnOk P w K mg base CX0 1 dC.f dC.fd ["script", "k"] (spCell K))
    (dO : Def K mg "_law_order" sOrder ["cell", "many"]) (GO : FnOk P w K mg base CX0 1 dO.f dO.fd ["cell", "many"] spOrder) : FnOk P w K mg base CX0 2 d.f d.fd ["script", "start", "many", "most"] (spLawVoters K) := by
  refine d.F.ok scLawVoters (fun vs H Q E h => ?_) (fun cdv A outer s H vs Q E hr h => ?_)
  · obtain ⟨a, ns, start, n, most, rfl, _⟩ := h
    rfl
  · obtain ⟨a, ns, start, n, most, rfl, hS, hs0, h1, h6, m0, m60, k⟩ := h
    refine ⟨_, pss_cons (ps_set (i := 4) scLawVoters.nd rfl (Or.inl rfl) (pe_op op_mod (pe_call GC hr (by rfl) dC.mgf dC.F.kp dC.b .nil pass0 (pa_cons (pv 0) (pa_cons (pv 1) pa_nil))) (pe_op op_add (pv 3) pe_int)))
      (pss_cons (ps_setC (i := 5) (ts := ["k"]) (fs := [(2, "many"), (0, "script"), (1, "start")]) scLawVoters.nd rfl (Or.inl rfl) rfl (by exact .mk' rfl (by rfl) ⟨rfl, rfl, rfl, rfl, rfl, rfl, trivial⟩) (pi_range1 (by rfl) B.range (pa_cons (pv 4) pa_nil))
        (by intros; exact pg_name (i := 0) (show (["k", "many", "script", "start"] : List Str).Nodup by decide +kernel) rfl (Or.inl rfl))
        (by intros; exact pts_nil)
        (by intros; exact pe_call GO hr (by rfl) dO.mgf dO.F.kp dO.b .nil pass0 (pa_cons (pe_call GC hr (by rfl) dC.mgf dC.F.kp dC.b .nil pass0 (pa_cons (pv 2) (pa_cons (pe_op op_add (pe_op op_add (pv 3) pe_int) (pv 0)) pa_nil))) (pa_cons (pv 1) pa_nil))))
      (pss_cons (ps_set (i := 6) scLawVoters.nd rfl (Or.inl rfl) (pe_op op_fdiv (pe_call GC hr (by rfl) dC.mgf dC.F.kp dC.b .nil pass0 (pa_cons (pv 0) (pa_cons (pv 1) pa_nil))) (pe_op op_add (pv 3) pe_int)))
      (pss_cons (ps_if (pt_cmpR op_eq (pe_op op_mod (pv 6) pe_int) pe_int (nomark _))
          (pss_one (ps_ret (pe_slice sl_list (pe_op op_rep (pv 5) pe_int) po_none (po_some (pe_op op_add (pv 3) (pe_op op_mod (pe_op op_fdiv (pv 6) pe_int) (pe_op op_sub pe_int (pv 3))))))))
          pss_nil)
      (pss_one (ps_ret (pe_op op_cat (pv 5) (pe_slice sl_list (pv 5) po_none (po_some (pe_op op_mod (pv 6) pe_int))))))))), ?_⟩
    refine ⟨_, rfl, _, rfl, a, ns, start, rfl, hS, hs0, _, rfl, _, _, rfl, rfl, _, _, rfl, rfl, by (first | lia | omega), ?_⟩
    obtain ⟨cnt, ec, c0, c1⟩ : ∃ cnt, ns.getD start.toNat 0 % (most + 1) = cnt ∧ 0 ≤ cnt ∧ cnt < most + 1 := ⟨_, rfl, Int.emod_nonneg _ (by (first | lia | omega)), Int.emod_lt_of_pos _ (by (first | lia | omega))⟩
    refine ⟨_, rfl, cnt, congrArg (fun z => [V.int z]) ec, by (first | lia | omega), by (first | lia | omega), fun l hl => comp_range' (lo := 0) (m0 := cnt.toNat) (fun i acc H' => Same H H' ∧ H' l = some (.lst acc) ∧ ∃ L, Paired (dT H') L acc ∧ Ords n L ∧ acc.length = i)
      ⟨same_upd hl, upd_same, [], .nil, fun o z => absurd z (by simp), rfl⟩ (fun i acc H' _ ⟨_, z, _⟩ => z) ?_ ?_⟩
    · rintro i acc H' hi ⟨s1, hla, L, pL, hO, hlen⟩
      refine ⟨small1000 (by (first | lia | omega)), ⟨rfl, rfl⟩, ?_⟩
      refine tYes_mk ?_
      refine ⟨_, rfl, _, rfl, _, _, rfl, rfl, _, rfl, _, _, rfl, rfl, a, ns, _, rfl, s1.seq hS, by (first | lia | omega), _, rfl, _, n, rfl, h1, h6, fun H2 p o s2 fp hp hperm => ⟨s2 _ _ hla, Nx.mk hi ⟨same_upd' (s1.trans s2) hl, upd_same, L ++ [o], ?_, ords_append hO fun o' ho' => ?_, by rw [List.length_append, List.length_singleton]; (first | lia | omega)⟩⟩⟩
      · have hpl : p ≠ l := (ne_of_none hla fp).symm
        refine pd_append (pd_same (fun b x ⟨q, e, hq⟩ => ⟨q, e, ?_⟩) pL) (.cons ⟨p, rfl, by rw [upd_ne hpl]; exact hp⟩ .nil)
        rw [upd_ne (ne_of hq hla (by intro z; cases z))]
        exact s2 _ _ hq
      · rw [List.mem_singleton.mp ho']; exact hperm
    · rintro acc H' ⟨s1, hla, L, pL, hO, hlen⟩
      have hLl := Paired.length pL
      refine ⟨_, rfl, _, rfl, a, ns, start, rfl, s1.seq hS, hs0, _, rfl, _, _, rfl, rfl, _, _, rfl, rfl, ⟨by (first | lia | omega), by (first | lia | omega)⟩, ?_⟩
      dsimp only
      generalize ns.getD start.toNat 0 / (most + 1) = more
      refine ⟨_, rfl, _, _, rfl, rfl, (by show (0 : Int) < 8; decide), rfl, _, rfl, ?_⟩
      refine ite2 (fun _ => ?_) (fun _ => ?_)
      · refine ⟨_, rfl, l, 60, acc, rfl, rfl, hla, by decide, by decide, by rw [sizeLine_eq]; show acc.length * 60 ≤ _; (first | lia | omega), fun p hp => ?_⟩
        have e0 : 0 ≤ more / 8 % (61 - most) := Int.emod_nonneg _ (by (first | lia | omega))
        have e1 : more / 8 % (61 - most) < 61 - most := Int.emod_lt_of_pos _ (by (first | lia | omega))
        refine ⟨_, rfl, _, rfl, _, _, rfl, rfl, ⟨by decide, by decide⟩, _, rfl, _, _, rfl, rfl, _, _, rfl, rfl, by (first | lia | omega), _, _, rfl, rfl, _, rfl, p, _, rfl, SqL.of upd_same, fun t ht => ?_⟩
        rw [cut_take _ (by (first | lia | omega))]
        have f1 : H p = none := s1.free hp
        have f2 : H t = none := (same_upd' s1 f1).free ht
        refine k _ t _ ((List.replicate 60 L).flatten.take (most + more / 8 % (61 - most)).toNat) (same_upd' (same_upd' s1 f1) f2) f2 upd_same ?_ (ords_take (ords_rep hO 60) _) ?_
        · refine pd_same (fun b x ⟨q, e, hq⟩ => ⟨q, e, ?_⟩) (pd_take _ (pd_rep pL 60))
          exact (same_upd hp |>.trans (same_upd ht)) _ _ hq
        · rw [List.length_take]; (first | lia | omega)
      · have e0 : 0 ≤ more % 4 := Int.emod_nonneg _ (by decide)
        have e1 : more % 4 < 4 := Int.emod_lt_of_pos _ (by decide)
        refine ⟨_, rfl, _, rfl, _, rfl, _, _, rfl, rfl, (by show (0 : Int) < 4; decide), _, rfl, l, acc, rfl, SqL.of hla, fun p hp => ?_⟩
        rw [cut_take _ e0]
        have f1 : H p = none := s1.free hp
        refine ⟨l, p, acc, _, rfl, rfl, (same_upd hp) _ _ hla, upd_same, by rw [List.length_take, sizeLine_eq]; (first | lia | omega), fun t ht => ?_⟩
        have f2 : H t = none := (same_upd' s1 f1).free ht
        refine k _ t _ (L ++ L.take (more % 4).toNat) (same_upd' (same_upd' s1 f1) f2) f2 upd_same ?_ (ords_append hO (ords_take hO _)) ?_
        · refine pd_same (fun b x ⟨q, e, hq⟩ => ⟨q, e, ?_⟩) (pd_append pL (pd_take _ pL))
          exact (same_upd hp |>.trans (same_upd ht)) _ _ hq
        · rw [List.length_append, List.length_take]; (first | lia | omega)
end
end Bm
namespace Bm
open PySem L2
structure WUp (n : Int) (i j : Nat) (W : List (Int × Int)) : Prop where
  rng : ∀ b ∈ W, (0 ≤ b.1 ∧ b.1 < n) ∧ (0 ≤ b.2 ∧ b.2 < n)
  irr : ∀ b ∈ W, b.1 ≠ b.2
  nodup : W.Nodup
  asym : ∀ b ∈ W, (b.2, b.1) ∉ W
  low : ∀ b ∈ W, (b.1 < (i : Int) ∨ b.2 < (i : Int)) ∨ (b.1 = (i : Int) ∧ b.2 ≤ (i : Int) + j) ∨ (b.2 = (i : Int) ∧ b.1 ≤ (i : Int) + j)
  len : W.length ≤ i * 6 + j
theorem WUp.nil (n : Int) : WUp n 0 0 [] := ⟨fun _ h => (by cases h), fun _ h => (by cases h), List.nodup_nil, fun _ h => (by cases h), fun _ h => (by cases h), Nat.zero_le _⟩
theorem WUp.skip {n : Int} {i j : Nat} {W : List (Int × Int)} (h : WUp n i j W) : WUp n i (j + 1) W := ⟨h.rng, h.irr, h.nodup, h.asym, fun b hb => by have := h.low b hb; (first | lia | omega), by have := h.len; (first | lia | omega)⟩
theorem WUp.row {n : Int} {i j : Nat} {W : List (Int × Int)} (h : WUp n i j W) (hj : j ≤ 6) : WUp n (i + 1) 0 W :=
  ⟨h.rng, h.irr, h.nodup, h.asym, fun b hb => by have := h.low b hb; (first | lia | omega), by have := h.len; (first | lia | omega)⟩
theorem WUp.add {n : Int} {i j : Nat} {W : List (Int × Int)} (h : WUp n i j W) (hn : (i : Int) + 1 + j < n) {b : Int × Int} (hb : b = ((i : Int), (i : Int) + 1 + j) ∨ b = ((i : Int) + 1 + j, (i : Int))) : WUp n i (j + 1) (W ++ [b]) := by
  have nw : ∀ c ∈ W, ¬ (c.1 = (i : Int) ∧ c.2 = (i : Int) + 1 + j) ∧ ¬ (c.1 = (i : Int) + 1 + j ∧ c.2 = (i : Int)) := fun c hc => by
    have := h.low c hc
    (first | lia | omega)
  have hb1 : (b.1 = (i : Int) ∧ b.2 = (i : Int) + 1 + j) ∨ (b.1 = (i : Int) + 1 + j ∧ b.2 = (i : Int)) := by
    rcases hb with rfl | rfl
    · exact .inl ⟨rfl, rfl⟩
    · exact .inr ⟨rfl, rfl⟩
  refine ⟨fun c hc => ?_, fun c hc => ?_, ?_, fun c hc hc' => ?_, fun c hc => ?_, ?_⟩
  · rcases List.mem_append.mp hc with z | z
    · exact h.rng c z
    · rw [List.mem_singleton.mp z]; (first | lia | omega)
  · rcases List.mem_append.mp hc with z | z
    · exact h.irr c z
    · rw [List.mem_singleton.mp z]; (first | lia | omega)
  · rw [List.nodup_append]
    refine ⟨h.nodup, by simp, fun x hx y hy e => ?_⟩
    rw [List.mem_singleton.mp hy] at e
    have := nw x hx
    rw [e] at this
    (first | lia | omega)
  · rcases List.mem_append.mp hc with z | z
    · rcases List.mem_append.mp hc' with z' | z'
      · exact h.asym c z z'
      · have e := List.mem_singleton.mp z'
        have := nw c z
        have e1 : c.2 = b.1 := by rw [← e]
        have e2 : c.1 = b.2 := by rw [← e]
        (first | lia | omega)
    · have e := List.mem_singleton.mp z
      rcases List.mem_append.mp hc' with z' | z'
      · have := nw _ z'
        simp only [e] at this
        (first | lia | omega)
      · have e' := List.mem_singleton.mp z'
        have e1 : c.2 = b.1 := by rw [← e']
        rw [e] at e1
        (first | lia | omega)
  · rcases List.mem_append.mp hc with z | z
    · have := h.low c z
      (first | lia | omega)
    · rw [List.mem_singleton.mp z]
      (first | lia | omega)
  · rw [List.length_append, List.length_singleton]
    have := h.len
    (first | lia | omega)
theorem good_rot {n : Int} {i : Nat} {W : List (Int × Int)} (h : WUp n i 0 W) (hi : i ≤ 6) (k : Nat) : Good n (W.drop k ++ W.take k) := by
  have pm : (W.drop k ++ W.take k).Perm W := List.perm_append_comm.trans (by rw [List.take_append_drop])
  refine ⟨fun b hb => h.rng b (pm.mem_iff.mp hb), fun b hb => h.irr b (pm.mem_iff.mp hb), pm.nodup_iff.mpr h.nodup, fun b hb z => h.asym b (pm.mem_iff.mp hb) (pm.mem_iff.mp z), ?_⟩
  rw [pm.length_eq]
  have := h.len
  (first | lia | omega)
theorem cut_drop (xs : List V) {e : Int} (h : 0 ≤ e) : cutV xs (some e) none = xs.drop e.toNat := by
  unfold cutV
  have h1 : HT.sIx xs.length xs.length none = xs.length := rfl
  have h2 : HT.sIx xs.length 0 (some e) = min e.toNat xs.length := by
    show (if e < 0 then _ else min e.toNat xs.length) = _
    rw [if_neg (by (first | lia | omega))]
  rw [h1, h2]
  by_cases hl : e.toNat ≤ xs.length
  · rw [Nat.min_eq_left hl, List.take_of_length_le (by rw [List.length_drop]; (first | lia | omega))]
  · rw [Nat.min_eq_right (by (first | lia | omega)), List.drop_length, List.drop_of_length_le (by (first | lia | omega))]
    simp
noncomputable def spLawWeb (K : PySem.W.Frag) : Sp := fun vs H Q _ => ∃ (a : Addr) (ns : List Int) (start n : Int), vs = [.ref a, .int start, .int n] ∧ SqL K H a (ns.map V.int) ∧ 0 ≤ start ∧ 1 ≤ n ∧ n ≤ 6 ∧
  ∀ H' p xs W, Same H H' → H p = none → H' p = some (.lst xs) → Paired (dP H') W xs → Good n W → Q (.ref p) H'
section
variable {P : Program} {w : World} {K : PySem.W.Frag} {mg : Str → Option Value} {base : Heap}
theorem scLawWeb : FnScope ["script", "start", "many", "cell", "way", "web", "stand", "one", "other", "wish", "turn"] ["script", "start", "many"] (defScope sLawWeb) := ⟨rfl, rfl, rfl, by decide +kernel, rfl, by decide +kernel, by decide +kernel⟩
theorem ok_lawWeb (d : Def K mg "_law_web" sLawWeb ["script", "start", "many"]) (B : Blt mg) (dC : Def K mg "_law_cell_at" sCellAt ["script", "k"]) (GC : FnOk P w K mg base CX0 1 dC.f dC.fd ["script", "k"] (spCell K))
    (dO : Def K mg "_law_order" sOrder ["cell", "many"]) (GO : FnOk P w K mg base CX0 1 dO.f dO.fd ["cell", "many"] spOrder) : FnOk P w K mg base CX0 2 d.f d.fd ["script", "start", "many"] (spLawWeb K) := by
  refine d.F.ok scLawWeb (fun vs H Q E h => ?_) (fun cdv A outer s H vs Q E hr h => ?_)
  · obtain ⟨a, ns, start, n, rfl, _⟩ := h
    rfl
  · obtain ⟨a, ns, start, n, rfl, hS, hs0, h1, h6, k⟩ := h
    refine ⟨_, pss_cons (ps_set (i := 3) scLawWeb.nd rfl (Or.inl rfl) (pe_call GC hr (by rfl) dC.mgf dC.F.kp dC.b .nil pass0 (pa_cons (pv 0) (pa_cons (pv 1) pa_nil))))
      (pss_cons (ps_set (i := 4) scLawWeb.nd rfl (Or.inl rfl) (pe_op op_mod (pe_call GC hr (by rfl) dC.mgf dC.F.kp dC.b .nil pass0 (pa_cons (pv 0) (pa_cons (pe_op op_add (pv 1) pe_int) pa_nil))) pe_int))
      (pss_cons (ps_set (i := 5) scLawWeb.nd rfl (Or.inl rfl) (pe_lst pa_nil))
      (pss_cons (ps_set (i := 6) scLawWeb.nd rfl (Or.inl rfl) (pe_callTy (call_list_rng rfl) (by rfl) B.list PyProof.Rows.boot_list (pa_cons (pe_callTy call_range (by rfl) B.range PyProof.Rows.boot_range (pa_cons (pv 2) pa_nil)) pa_nil)))
      (pss_cons (ps_cut (ps_if (pt_cmpR op_eq (pv 4) pe_int (nomark _)) (pss_one (ps_set (i := 6) scLawWeb.nd rfl (Or.inl rfl) (pe_call GO hr (by rfl) dO.mgf dO.F.kp dO.b .nil pass0 (pa_cons (pe_op op_fdiv (pe_call GC hr (by rfl) dC.mgf dC.F.kp dC.b .nil pass0 (pa_cons (pv 0) (pa_cons (pe_op op_add (pv 1) pe_int) pa_nil))) pe_int) (pa_cons (pv 2) pa_nil))))) pss_nil))
      (pss_cons (ps_for PassesOwn.never rfl (pi_range1 (by rfl) B.range (pa_cons (pv 2) pa_nil)) (pg_name (i := 7) scLawWeb.nd rfl (Or.inl rfl))
        (pss_one (ps_for PassesOwn.never rfl (pi_range2 (by rfl) B.range (pa_cons (pe_op op_add (pv 7) pe_int) (pa_cons (pv 2) pa_nil))) (pg_name (i := 8) scLawWeb.nd rfl (Or.inl rfl))
          (pss_cons (ps_set (i := 9) scLawWeb.nd rfl (Or.inl rfl) (pe_op op_mod (pv 3) pe_int))
          (pss_cons (ps_set (i := 3) scLawWeb.nd rfl (Or.inl rfl) (pe_op op_fdiv (pv 3) pe_int))
          (pss_cons (ps_cut (ps_if (pt_cmpR op_eq (pv 4) pe_int (nomark _)) (pss_one (ps_if (pt_cmpR op_lt (pv 9) pe_int (nomark _)) (pss_one (ps_set (i := 9) scLawWeb.nd rfl (Or.inl rfl)
              (pe_callTy call_int1 (by rfl) B.int PyProof.Rows.boot_int (pa_cons (pe_cmpR op_gt (pe_bmU PySem.F.plainAttrs_tuple PySem.F.slot_tuple_index PySem.F.type_tuple_index mt_tindex (pv 6) (pa_cons (pv 7) pa_nil)) (pe_bmU PySem.F.plainAttrs_tuple PySem.F.slot_tuple_index PySem.F.type_tuple_index mt_tindex (pv 6) (pa_cons (pv 8) pa_nil)) (nomark _)) pa_nil)))) pss_nil)) pss_nil))
          (pss_cons (ps_cut (ps_if (pt_cmpR op_eq (pv 4) pe_int (nomark _)) (pss_one (ps_set (i := 9) scLawWeb.nd rfl (Or.inl rfl) (pe_op op_mod (pv 9) pe_int))) pss_nil))
          (pss_one (ps_if (pt_cut (pw_or (pt_cmpR op_lt (pv 9) pe_int (nomark _)) (pw_or1 (pt_cmpR op_eq (pv 4) pe_int (nomark _)))).pt)
            (pss_one (ps_expr (pe_bm PySem.F.plainAttrs_list PySem.F.slot_list_append PySem.F.type_list_append mt_append (pv 5) (pa_cons
              (pe_ix ix_list (pe_lst (pa_cons (pe_tup (pa_cons (pv 7) (pa_cons (pv 8) pa_nil))) (pa_cons (pe_tup (pa_cons (pv 8) (pa_cons (pv 7) pa_nil))) pa_nil))) (pe_op op_mod (pv 9) pe_int) (fun _ _ => rfl)) pa_nil)))) pss_nil)))))))))
      (pss_cons (ps_set (i := 10) scLawWeb.nd rfl (Or.inl rfl) (pe_op op_mod (pe_op op_fdiv (pe_call GC hr (by rfl) dC.mgf dC.F.kp dC.b .nil pass0 (pa_cons (pv 0) (pa_cons (pe_op op_add (pv 1) pe_int) pa_nil))) pe_int) (pe_op op_add (pe_callB call_len_seq (by rfl) B.len PySem.boot_len (pa_cons (pv 5) pa_nil)) pe_int)))
      (pss_one (ps_ret (pe_op op_cat (pe_slice sl_list (pv 5) (po_some (pv 10)) po_none) (pe_slice sl_list (pv 5) po_none (po_some (pv 10)))))))))))), ?_⟩
    have small : ∀ {z : Nat}, z ≤ 1000 → z ≤ sizeLine := fun h => Nat.le_of_lt (small1000 h)
    refine ⟨_, rfl, _, rfl, a, ns, start, rfl, hS, hs0, ?_⟩
    refine ⟨_, rfl, _, rfl, _, _, rfl, rfl, a, ns, _, rfl, hS, by (first | lia | omega), _, _, rfl, rfl, (by show (0 : Int) < 4; decide), ?_⟩
    dsimp only
    generalize ns.getD (start + 1).toNat 0 % 4 = way
    generalize ns.getD start.toNat 0 = cell
    refine ⟨Nat.zero_le _, fun wb hwb => ?_⟩
    have fwb : H wb = none := hwb
    refine ⟨_, rfl, n, rfl, fun p hp => ⟨p, 0, n, rfl, upd_same, ⟨by (first | lia | omega), by (first | lia | omega), by (first | lia | omega), by (first | lia | omega)⟩, by (first | lia | omega), fun lf hlf => ?_⟩⟩
    rw [things_eq]
    have s1 : Same H (upd (upd (upd H wb (.lst [])) p (.rng 0 n)) lf (.lst ((rangeI n).map V.int))) := ((same_upd hwb).trans (same_upd hp)).trans (same_upd hlf)
    have hwb1 : (upd (upd (upd H wb (.lst [])) p (.rng 0 n)) lf (.lst ((rangeI n).map V.int))) wb = some (.lst []) := ((same_upd hp).trans (same_upd hlf)) _ _ upd_same
    generalize upd (upd (upd H wb (.lst [])) p (.rng 0 n)) lf (.lst ((rangeI n).map V.int)) = H1 at s1 hwb1
    refine ⟨fun σ' H' => ∃ sv : V, σ' = [some (.ref a), some (.int start), some (.int n), some (.int cell), some (.int way), some (.ref wb), some sv, none, none, none, none] ∧ Same H H' ∧ H' wb = some (.lst []) ∧
      (way = 3 → ∃ (q : Addr) (o : List Int), sv = .ref q ∧ H q = none ∧ H' q = some (.tup (o.map V.int)) ∧ o.Perm (rangeI n)), ?_, ?_⟩
    · refine ⟨_, rfl, rfl, _, rfl, ite2 (fun _ => ?_) (fun hb => ?_)⟩
      · refine ⟨_, rfl, _, rfl, _, _, rfl, rfl, a, ns, _, rfl, s1.seq hS, by (first | lia | omega), _, _, rfl, rfl, ⟨by decide, by decide⟩, _, rfl, _, n, rfl, h1, h6, fun H2 q o s2 fq hq ho => ?_⟩
        exact ⟨_, rfl, s1.trans s2, s2 _ _ hwb1, fun _ => ⟨q, o, rfl, s1.free fq, hq, ho⟩⟩
      · exact ⟨_, rfl, s1, hwb1, fun e => absurd (decide_eq_true (by rw [e])) hb⟩
    rintro σ' H2 ⟨sv, rfl, s2, hwb2, hsv⟩
    refine ⟨_, rfl, n, rfl, by (first | lia | omega), by (first | lia | omega), for_range (n := n.toNat) (fun i σ H' => ∃ (c : Int) (W : List (Int × Int)) (ws : List V) (v7 v8 v9 : Option V), σ = [some (.ref a), some (.int start), some (.int n), some (.int c), some (.int way), some (.ref wb), some sv, v7, v8, v9, none] ∧
        Same H H' ∧ (∀ b xs, H2 b = some (.tup xs) → H' b = some (.tup xs)) ∧ H' wb = some (.lst ws) ∧ Paired (dP H') W ws ∧ WUp n i 0 W)
      ⟨cell, [], [], _, _, _, rfl, s2, fun _ _ z => z, hwb2, .nil, WUp.nil n⟩ ?_ ?_⟩
    · rintro i σ H3 hi ⟨c, W, ws, v7, v8, v9, rfl, s3, t3, hw, pw, hU⟩
      refine ⟨_, rfl, _, _, rfl, rfl, _, rfl, _, n, rfl, ⟨by (first | lia | omega), by (first | lia | omega), by (first | lia | omega), by (first | lia | omega)⟩, for_range (n := (n - ((0 : Int) + (i : Nat) + 1)).toNat) (fun j σ H' => ∃ (c : Int) (W : List (Int × Int)) (ws : List V) (v8 v9 : Option V), σ = [some (.ref a), some (.int start), some (.int n), some (.int c), some (.int way), some (.ref wb), some sv, some (.int ((0 : Int) + (i : Nat))), v8, v9, none] ∧
          Same H H' ∧ (∀ b xs, H2 b = some (.tup xs) → H' b = some (.tup xs)) ∧ H' wb = some (.lst ws) ∧ Paired (dP H') W ws ∧ WUp n i j W)
        ⟨c, W, ws, _, _, rfl, s3, t3, hw, pw, hU⟩ ?_ ?_⟩
      · rintro j σ H4 hj ⟨c, W, ws, v8, v9, rfl, s4, t4, hw, pw, hU⟩
        refine ⟨_, rfl, _, _, rfl, rfl, (by show (0 : Int) < 3; decide), ?_⟩
        refine ⟨_, rfl, _, _, rfl, rfl, ⟨by decide, by decide⟩, ?_⟩
        refine ⟨fun σ' H' => ∃ wv : Int, σ' = [some (.ref a), some (.int start), some (.int n), some (.int (c / 3)), some (.int way), some (.ref wb), some sv, some (.int ((0 : Int) + (i : Nat))), some (.int ((0 : Int) + (i : Nat) + 1 + (j : Nat))), some (.int wv), none] ∧ H' = H4, ?_, ?_⟩
        · refine ⟨_, rfl, rfl, _, rfl, ite2 (fun hb => ?_) (fun _ => ⟨_, rfl, rfl⟩)⟩
          have hw3 : way = 3 := by
            have := of_decide_eq_true hb
            injection this
          obtain ⟨q, o, rfl, fq, hq, ho⟩ := hsv hw3
          have hq4 := t4 _ _ hq
          have m1 : (0 : Int) + (i : Nat) ∈ o := ho.mem_iff.mpr (rangeI_mem (by (first | lia | omega)) (by (first | lia | omega)))
          have m2 : (0 : Int) + (i : Nat) + 1 + (j : Nat) ∈ o := ho.mem_iff.mpr (rangeI_mem (by (first | lia | omega)) (by (first | lia | omega)))
          refine ⟨_, rfl, _, _, rfl, rfl, _, rfl, ite2 (fun _ => ?_) (fun _ => ⟨_, rfl, rfl⟩)⟩
          refine ⟨_, rfl, .inr ⟨rfl, q, _, rfl, hq4⟩, _, rfl, q, o, _, rfl, rfl, SqT.of hq4, m1, _, rfl, .inr ⟨rfl, q, _, rfl, hq4⟩, _, rfl, q, o, _, rfl, rfl, SqT.of hq4, m2, _, _, rfl, rfl, .inr ⟨_, rfl, ?_⟩⟩
          exact ⟨_, rfl, rfl⟩
        rintro σ' H' ⟨wv, rfl, hE⟩
        rw [hE]
        clear hE
        refine ⟨fun σ' H'' => ∃ wv : Int, σ' = [some (.ref a), some (.int start), some (.int n), some (.int (c / 3)), some (.int way), some (.ref wb), some sv, some (.int ((0 : Int) + (i : Nat))), some (.int ((0 : Int) + (i : Nat) + 1 + (j : Nat))), some (.int wv), none] ∧ H'' = H4, ?_, ?_⟩
        · refine ⟨_, rfl, rfl, _, rfl, ite2 (fun hb => ?_) (fun _ => ⟨_, rfl, rfl⟩)⟩
          exact ⟨_, rfl, _, _, rfl, rfl, (by show (0 : Int) < 2; decide), _, rfl, rfl⟩
        rintro σ' H'' ⟨wv, rfl, hE⟩
        rw [hE]
        clear hE
        have hlw := Paired.length pw
        have hU6 := hU.len
        refine ⟨fun _ H' => H' = H4, ?_, ?_⟩
        · exact ⟨_, rfl, _, _, rfl, rfl, _, rfl, ite2 (fun _ => rfl) (fun _ => ⟨_, rfl, rfl, _, rfl, rfl⟩)⟩
        rintro b H5 hE
        rw [hE]
        clear hE H5
        refine ite2 (fun _ => ?_) (fun _ => ⟨_, W, ws, _, _, rfl, s4, t4, hw, pw, hU.skip⟩)
        refine ⟨_, rfl, .inl ⟨rfl, _, SqL.of hw⟩, _, rfl, _, rfl, sz2, fun t1 ht1 => ⟨_, rfl, _, rfl, sz2, fun t2 ht2 => ⟨sz2, fun l hl => ?_⟩⟩⟩
        refine ⟨_, rfl, _, _, rfl, rfl, (by show (0 : Int) < 2; decide), ?_⟩
        generalize hHc : upd (upd (upd H4 t1 (.tup [.int ((0 : Int) + (i : Nat)), .int ((0 : Int) + (i : Nat) + 1 + (j : Nat))])) t2 (.tup [.int ((0 : Int) + (i : Nat) + 1 + (j : Nat)), .int ((0 : Int) + (i : Nat))])) l (.lst [.ref t1, .ref t2]) = Hc
        have sc : Same H4 Hc := by rw [← hHc]; exact ((same_upd ht1).trans (same_upd ht2)).trans (same_upd hl)
        have hct1 : Hc t1 = some (.tup [.int ((0 : Int) + (i : Nat)), .int ((0 : Int) + (i : Nat) + 1 + (j : Nat))]) := by rw [← hHc]; exact ((same_upd ht2).trans (same_upd hl)) _ _ upd_same
        have hct2 : Hc t2 = some (.tup [.int ((0 : Int) + (i : Nat) + 1 + (j : Nat)), .int ((0 : Int) + (i : Nat))]) := by rw [← hHc]; exact (same_upd hl) _ _ upd_same
        have hcl : Hc l = some (.lst [.ref t1, .ref t2]) := by rw [← hHc]; exact upd_same
        have hcw := sc _ _ hw
        have key : ∃ (t : Addr) (b : Int × Int), atI [V.ref t1, V.ref t2] (wv % 2) = some (.ref t) ∧ Hc t = some (.tup [.int b.1, .int b.2]) ∧ (b = ((i : Int), (i : Int) + 1 + j) ∨ b = ((i : Int) + 1 + j, (i : Int))) := by
          have hcase : wv % 2 = 0 ∨ wv % 2 = 1 := by (first | lia | omega)
          rcases hcase with e | e
          · rw [e]
            refine ⟨t1, ((i : Int), (i : Int) + 1 + j), rfl, ?_, .inl rfl⟩
            rw [hct1, Int.zero_add]
          · rw [e]
            refine ⟨t2, ((i : Int) + 1 + j, (i : Int)), rfl, ?_, .inr rfl⟩
            rw [hct2, Int.zero_add]
        obtain ⟨t, b, hat, hct, hb⟩ := key
        refine ⟨l, _, _, _, rfl, rfl, SqL.of hcl, hat, wb, ws, _, rfl, rfl, hcw, small1000 (by (first | lia | omega)), ?_⟩
        have keep : ∀ b xs, H4 b = some (.tup xs) → (upd Hc wb (.lst (ws ++ [V.ref t]))) b = some (.tup xs) := fun b xs hb => by
          rw [upd_ne (ne_of (sc _ _ hb) hcw (by intro z; cases z))]
          exact sc _ _ hb
        refine ⟨_, W ++ [b], ws ++ [.ref t], _, _, rfl, same_upd' (s4.trans sc) fwb, fun b xs z => keep b xs (t4 b xs z), upd_same, ?_, hU.add (by (first | lia | omega)) hb⟩
        refine pd_append (pd_same (fun _ _ ⟨q, e, hq⟩ => ⟨q, e, keep _ _ hq⟩) pw) (.cons ⟨t, rfl, ?_⟩ .nil)
        rw [upd_ne (ne_of hct hcw (by intro z; cases z))]
        exact hct
      · rintro σ H4 ⟨c, W, ws, v8, v9, rfl, s4, t4, hw, pw, hU⟩
        exact ⟨c, W, ws, _, _, _, rfl, s4, t4, hw, pw, hU.row (by (first | lia | omega))⟩
    · rintro σ H3 ⟨c, W, ws, v7, v8, v9, rfl, s3, t3, hw, pw, hU⟩
      have hlw := Paired.length pw
      have hU6 := hU.len
      refine ⟨_, rfl, _, rfl, _, _, rfl, rfl, a, ns, _, rfl, s3.seq hS, by (first | lia | omega), _, _, rfl, rfl, ⟨by decide, by decide⟩, _, rfl, wb, _, rfl, .inl (SqL.of hw), _, _, rfl, rfl, _, _, rfl, rfl, by (first | lia | omega), ?_⟩
      obtain ⟨e, ee, e0⟩ : ∃ e, ns.getD (start + 1).toNat 0 / 4 % ((ws.length : Int) + 1) = e ∧ 0 ≤ e := ⟨_, rfl, Int.emod_nonneg _ (by (first | lia | omega))⟩
      dsimp only
      rw [ee]
      refine ⟨_, rfl, _, rfl, e, rfl, wb, ws, rfl, SqL.of hw, fun q1 hq1 => ?_⟩
      have hw1 := (same_upd (o := .lst (cutV ws (some e) none)) hq1) _ _ hw
      refine ⟨_, rfl, _, rfl, e, rfl, wb, ws, rfl, SqL.of hw1, fun q2 hq2 => ?_⟩
      refine ⟨q1, q2, _, _, rfl, rfl, (same_upd hq2) _ _ upd_same, upd_same, small (by have := cutV_length ws (some e) none; have := cutV_length ws none (some e); (first | lia | omega)), fun t ht => ?_⟩
      have f1 : H q1 = none := s3.free hq1
      have sA := same_upd' (o := .lst (cutV ws (some e) none)) s3 f1
      have f2 : H q2 = none := sA.free hq2
      have sB := same_upd' (o := .lst (cutV ws none (some e))) sA f2
      have f3 : H t = none := sB.free ht
      refine k _ t _ (W.drop e.toNat ++ W.take e.toNat) (same_upd' sB f3) f3 upd_same ?_ (good_rot hU (by (first | lia | omega)) _)
      have pp := pd_append (pd_drop e.toNat pw) (pd_take e.toNat pw)
      rw [← cut_drop ws e0, ← cut_take ws e0] at pp
      exact pd_same (dP_same (((same_upd hq1).trans (same_upd hq2)).trans (same_upd ht))) pp
end
end Bm
namespace Bm
open PySem L2
noncomputable def spOrders : Sp := fun vs H Q _ => ∃ n : Int, vs = [.int n] ∧ 1 ≤ n ∧ n ≤ 6 ∧ ∀ H' p xs, Same H H' → H p = none → H' p = some (.lst xs) → Paired (dT H') (ordersM n n.toNat) xs → Q (.ref p) H'
theorem flatMap_len {α β : Type} {f : α → List β} {c : Nat} : ∀ {L : List α}, (∀ x ∈ L, (f x).length ≤ c) → (L.flatMap f).length ≤ c * L.length
  | [], _ => Nat.zero_le _
  | x :: L, h => by
    rw [List.flatMap_cons, List.length_append, List.length_cons]
    have h1 := h x List.mem_cons_self
    have h2 := flatMap_len (L := L) fun y hy => h y (List.mem_cons_of_mem _ hy)
    rw [Nat.mul_succ]
    (first | lia | omega)
theorem cands_le (n : Int) (r : List Int) : (cands n r).length ≤ n.toNat := by
  unfold cands
  have := List.length_filter_le (fun t => !decide (t ∈ r)) (rangeI n)
  rw [show (rangeI n).length = n.toNat from rangeK_len _] at this
  exact this
theorem stepO_le {n : Int} (h6 : n ≤ 6) (r : List Int) : (stepO n r).length ≤ 6 := by
  unfold stepO
  rw [List.length_map]
  have := cands_le n r
  (first | lia | omega)
theorem ordersM_len {n : Int} (h6 : n ≤ 6) : ∀ k : Nat, (ordersM n k).length ≤ 6 ^ k
  | 0 => Nat.le_refl _
  | k + 1 => by
    have h1 : (ordersM n (k + 1)).length ≤ 6 * (ordersM n k).length := flatMap_len fun r _ => stepO_le h6 r
    have h2 := ordersM_len h6 k
    rw [Nat.pow_succ]
    (first | lia | omega)
theorem ordersM_row {n : Int} : ∀ {k : Nat} (r : List Int), r ∈ ordersM n k → r.length = k
  | 0, r, h => by rw [List.mem_singleton.mp h]; rfl
  | k + 1, r, h => by
    obtain ⟨q, hq, h⟩ := List.mem_flatMap.mp h
    obtain ⟨t, _, rfl⟩ := List.mem_map.mp h
    rw [List.length_append, ordersM_row q hq]
    rfl
theorem pow6 {k : Nat} (h : k ≤ 6) : 6 ^ k ≤ 46656 := Nat.pow_le_pow_right (by decide) h
section
variable {P : Program} {w : World} {K : PySem.W.Frag} {mg : Str → Option Value} {base : Heap}
theorem scOrders : FnScope ["many", "rows", "k", "longer", "row"] ["many"] (defScope sOrders) := ⟨rfl, rfl, rfl, by decide +kernel, rfl, by decide +kernel, by decide +kernel⟩
theorem ok_orders (d : Def K mg "_law_orders" sOrders ["many"]) (B : Blt mg) : FnOk P w K mg base CX0 1 d.f d.fd ["many"] spOrders := by
  refine d.F.ok scOrders (fun vs H Q E h => ?_) (fun cdv A outer s H vs Q E hr h => ?_)
  · obtain ⟨n, rfl, _⟩ := h
    rfl
  · obtain ⟨n, rfl, h1, h6, k⟩ := h
    refine ⟨_, pss_cons (ps_set (i := 1) scOrders.nd rfl (Or.inl rfl) (pe_lst (pa_cons (pe_tup pa_nil) pa_nil)))
      (pss_cons (ps_for PassesOwn.never rfl (pi_range1 (by rfl) B.range (pa_cons (pv 0) pa_nil)) (pg_name (i := 2) scOrders.nd rfl (Or.inl rfl))
        (pss_cons (ps_set (i := 3) scOrders.nd rfl (Or.inl rfl) (pe_lst pa_nil))
        (pss_cons (ps_for PassesOwn.never rfl (pi_list (pv 1)) (pg_name (i := 4) scOrders.nd rfl (Or.inr rfl))
          (pss_one (ps_set (i := 3) scOrders.nd rfl (Or.inl rfl) (pe_op op_cat (pv 3) (pe_comp (ts := ["thing"]) (fs := [(4, "row")]) rfl (by exact .mk' rfl (by rfl) ⟨rfl, rfl, trivial⟩) (pi_range1 (by rfl) B.range (pa_cons (pv 0) pa_nil))
            (by intros; exact pg_name (i := 0) (show (["thing", "row"] : List Str).Nodup by decide +kernel) rfl (Or.inl rfl))
            (by intros; exact pts_one (pt_cmpR (op_notInL eq_int_ok dInt_inj (hu_of hr)) (pv 0) (pv 1) (by with_unfolding_all rfl)))
            (by intros; exact pe_op op_catU (pv 1) (pe_tup (pa_cons (pv 0) pa_nil))))))))
        (pss_one (ps_set (i := 1) scOrders.nd rfl (Or.inl rfl) (pv 3))))))
      (pss_one (ps_ret (pv 1)))), ?_⟩
    have small : ∀ {z : Nat}, z ≤ 1000 → z ≤ sizeLine := fun h => Nat.le_of_lt (small1000 h)
    refine ⟨Nat.zero_le _, fun t0 ht0 => ⟨sz1, fun ra hra => ?_⟩⟩
    have fra : H ra = none := (same_upd ht0).free hra
    refine ⟨_, rfl, n, rfl, by (first | lia | omega), by (first | lia | omega), for_range (n := n.toNat) (fun i σ H' => ∃ (ra : Addr) (xs : List V) (v2 v3 v4 : Option V), σ = [some (.int n), some (.ref ra), v2, v3, v4] ∧ Same H H' ∧ H ra = none ∧ H' ra = some (.lst xs) ∧ Paired (dT H') (ordersM n i) xs)
      ⟨ra, [.ref t0], _, _, _, rfl, (same_upd ht0).trans (same_upd hra), fra, upd_same, .cons ⟨t0, rfl, (same_upd hra) _ _ upd_same⟩ .nil⟩ ?_ ?_⟩
    · rintro i σ H1 hi ⟨ra, xs, v2, v3, v4, rfl, s1, fra, hra, px⟩
      have hlx := Paired.length px
      have hlen : (ordersM n i).length ≤ 46656 := Nat.le_trans (ordersM_len h6 i) (pow6 (by (first | lia | omega)))
      refine ⟨Nat.zero_le _, fun la hla => ?_⟩
      have fla : H la = none := s1.free hla
      refine ⟨_, rfl, ra, rfl, ⟨_, SqL.of ((same_upd hla) _ _ hra)⟩, for_list (K := K) (a := ra) (xs := xs) (fun j σ H' => ∃ (la : Addr) (ls : List V) (v4 : Option V), σ = [some (.int n), some (.ref ra), some (.int ((0 : Int) + (i : Nat))), some (.ref la), v4] ∧ Same H1 H' ∧ H1 la = none ∧ H' la = some (.lst ls) ∧
          Paired (dT H') (((ordersM n i).take j).flatMap (stepO n)) ls)
        ⟨la, [], _, rfl, same_upd hla, hla, upd_same, .nil⟩ (fun j σ H' _ ⟨_, _, _, _, s2, _⟩ => SqL.of (s2 _ _ hra)) ?_ ?_⟩
      · rintro j x σ H2 hj ⟨la, ls, v4, rfl, s2, fla, hla, pl⟩
        obtain ⟨row, hrow, p, rfl, hp⟩ := paired_get px hj
        have hp2 := s2 _ _ hp
        have hjl : j < (ordersM n i).length := (List.getElem?_eq_some_iff.mp hrow).1
        have hll := Paired.length pl
        have hb := flatMap_len (f := stepO n) (c := 6) (L := (ordersM n i).take j) fun r _ => stepO_le h6 r
        rw [List.length_take] at hb
        refine ⟨_, rfl, _, rfl, n, rfl, by (first | lia | omega), by (first | lia | omega), fun l hl => comp_range' (lo := 0) (m0 := n.toNat) (fun c acc H' => Same H2 H' ∧ H' l = some (.lst acc) ∧ Paired (dT H') (((rangeK c).filter fun t => !decide (t ∈ row)).map fun t => row ++ [t]) acc ∧ acc.length ≤ c)
          ⟨same_upd hl, upd_same, .nil, Nat.le_refl _⟩ (fun c acc H' _ ⟨_, z, _⟩ => z) ?_ ?_⟩
        · rintro c acc H3 hc ⟨s3, hl3, pa, hal⟩
          have hp3 := s3 _ _ hp2
          refine ⟨small1000 (by (first | lia | omega)), ⟨rfl, rfl⟩, ?_⟩
          refine ⟨_, rfl, _, rfl, p, _, _, row, rfl, .inr (SqT.of hp3), rfl, paired_ints _, _, rfl, ite2 (fun hn => ?_) (fun hn => ?_)⟩
          · refine ⟨_, rfl, _, rfl, sz1, fun t ht => ?_⟩
            refine ⟨p, t, _, _, rfl, rfl, SqT.of ((same_upd ht) _ _ hp3), upd_same, (fun z => nomatch z), ?_, fun q H4 s4 hq => ?_⟩
            · have hrl := ordersM_row _ (List.mem_of_getElem? hrow)
              rw [List.length_map, List.length_singleton, sizeLine_eq]
              (first | lia | omega)
            have s5 := (same_upd ht).trans s4
            have hl4 := s5 _ _ hl3
            refine ⟨hl4, Nx.mk hc ⟨same_upd' (s3.trans s5) hl, upd_same, ?_, by rw [List.length_append, List.length_singleton]; (first | lia | omega)⟩⟩
            rw [rangeK_succ, List.filter_append, List.map_append]
            refine pd_append (pd_same (fun _ _ ⟨b, e, hb⟩ => ⟨b, e, by rw [upd_ne (ne_of (s5 _ _ hb) hl4 (by intro z; cases z))]; exact s5 _ _ hb⟩) pa) ?_
            rw [List.filter_cons_of_pos (p := fun t => !decide (t ∈ row)) hn, List.filter_nil]
            refine .cons ⟨q, rfl, ?_⟩ .nil
            rw [upd_ne (ne_of hq hl4 (by intro z; cases z)), hq, List.map_append]
            rfl
          · refine Nx.mk hc ⟨s3, hl3, ?_, by (first | lia | omega)⟩
            rw [rangeK_succ, List.filter_append, List.filter_cons_of_neg (p := fun t => !decide (t ∈ row)) hn, List.filter_nil, List.append_nil]
            exact pa
        · rintro acc H3 ⟨s3, hl3, pa, hal⟩
          have hla3 := s3 _ _ hla
          refine ⟨la, l, _, _, rfl, rfl, hla3, hl3, by rw [sizeLine_eq]; (first | lia | omega), fun t ht => ?_⟩
          have ft : H1 t = none := (s2.trans s3).free ht
          refine ⟨t, ls ++ acc, _, rfl, same_upd' (s2.trans s3) ft, ft, upd_same, ?_⟩
          rw [List.take_add_one, hrow, List.flatMap_append]
          refine pd_append (pd_same (dT_same (s3.trans (same_upd ht))) pl) ?_
          have e : (Option.some row).toList.flatMap (stepO n) = stepO n row := by
            show [row].flatMap (stepO n) = _
            rw [List.flatMap_cons, List.flatMap_nil, List.append_nil]
          rw [e]
          exact pd_same (dT_same (same_upd ht)) pa
      · rintro σ H2 ⟨la, ls, v4, rfl, s2, fla, hla, pl⟩
        rw [List.take_of_length_le (by (first | lia | omega))] at pl
        exact ⟨_, rfl, la, ls, _, _, _, rfl, s1.trans s2, s1.free fla, hla, pl⟩
    · rintro σ H1 ⟨ra, xs, v2, v3, v4, rfl, s1, fra, hra, px⟩
      exact ⟨_, rfl, k H1 ra xs s1 fra hra px⟩
end
end Bm
namespace Bm
open PySem L2
noncomputable def spIsOrder : Sp := fun vs H Q _ => ∃ (p : Addr) (o : List Int) (n : Int), vs = [.ref p, .int n] ∧ 1 ≤ n ∧ n ≤ 6 ∧ H p = some (.tup (o.map V.int)) ∧ o.Perm (rangeI n) ∧ ∀ H', Same H H' → Q (.bl true) H'
section
variable {P : Program} {w : World} {K : PySem.W.Frag} {mg : Str → Option Value} {base : Heap}
theorem all_true : ∀ {bs : List Bool}, (∀ b ∈ bs, b = true) → bs.all id = true := fun h => List.all_eq_true.mpr fun b hb => h b hb
theorem scIsOrder : FnScope ["found", "many"] ["found", "many"] (defScope sIsOrder) := ⟨rfl, rfl, rfl, by decide +kernel, rfl, by decide +kernel, by decide +kernel⟩
theorem ok_isOrder (d : Def K mg "_law_is_order" sIsOrder ["found", "many"]) (B : Blt mg) (dW : Def K mg "_law_whole" sWhole ["found"]) (GW : FnOk P w K mg base CX0 1 dW.f dW.fd ["found"] spWhole) :
    FnOk P w K mg base CX0 2 d.f d.fd ["found", "many"] spIsOrder := by
  refine d.F.ok scIsOrder (fun vs H Q E h => ?_) (fun cdv A outer s H vs Q E hr h => ?_)
  · obtain ⟨p, o, n, rfl, _⟩ := h
    rfl
  · obtain ⟨p, o, n, rfl, h1, h6, hp, ho, k⟩ := h
    refine ⟨_, pss_cons (ps_if (pw_or (pt_not (pt_val (pe_callB call_isi (by rfl) B.isi PyProof.Rows.boot_isinstance (pa_cons (pv 0) (pa_cons (pe_bltn (v := .ty "tuple") (by rfl) B.tuple PyProof.Rows.boot_tuple rfl) pa_nil)))))
        (pw_or1 (pt_cmpR op_ne (pe_callB call_len_seq (by rfl) B.len PySem.boot_len (pa_cons (pv 0) pa_nil)) (pv 1) (nomark _)))).pt pss_never pss_nil)
      (pss_one (ps_ret (pe_and (pe_callB (call_allB rfl) (by rfl) B.all PyProof.Rows.boot_all (pa_cons (pe_comp (ts := ["thing"]) (fs := []) rfl (by exact .mk' rfl (by rfl) trivial) (pi_tup (pv 0))
          (by intros; exact pg_name (i := 0) (show (["thing"] : List Str).Nodup by decide +kernel) rfl (Or.inl rfl))
          (by intros; exact pts_nil)
          (by intros; exact pe_call GW hr (by rfl) dW.mgf dW.F.kp dW.b .nil pass0 (pa_cons (pv 0) pa_nil))) pa_nil))
        (pe_one (pe_cmpR (op_eqL eq_int_ok (hu_of hr)) (pe_callB call_sorted (by rfl) B.sorted PyProof.Rows.boot_sorted (pa_cons (pv 0) pa_nil)) (pe_callTy (call_list_rng rfl) (by rfl) B.list PyProof.Rows.boot_list (pa_cons (pe_callTy call_range (by rfl) B.range PyProof.Rows.boot_range (pa_cons (pv 1) pa_nil)) pa_nil)) (nomark _)))))), ?_⟩
    have hol : o.length = n.toNat := by rw [ho.length_eq]; exact rangeK_len _
    have hm : ((o.map V.int).length : Int) = n := by rw [List.length_map]; (first | lia | omega)
    refine ⟨_, rfl, .ref p, "tuple", true, rfl, .tup_tup (SqT.of hp), true, rfl, iteF ?_⟩
    refine ⟨_, rfl, p, _, rfl, .inr (SqT.of hp), _, rfl, rfl, _, rfl, iteNS (by rw [hm]) ?_⟩
    refine ⟨_, rfl, p, rfl, ⟨_, SqT.of hp⟩, fun l hl => comp_tup' (xs := o.map V.int) (fun i acc H' => Same H H' ∧ H' l = some (.lst acc) ∧ acc = (List.replicate i true).map V.bl)
      ⟨same_upd hl, upd_same, rfl⟩ (fun i acc H' _ ⟨s1, z, _⟩ => ⟨SqT.of (s1 _ _ hp), z⟩) ?_ ?_⟩
    · rintro i x acc H1 hi hlt ⟨s1, hl1, hacc⟩
      obtain ⟨t, ht, rfl⟩ := map_get hi
      rw [List.length_map] at hlt
      refine ⟨small1000 (by rw [hacc, List.length_map, List.length_replicate]; (first | lia | omega)), ⟨rfl, rfl⟩, tYes_mk ?_⟩
      refine ⟨_, rfl, t, rfl, hl1, ?_⟩
      rw [List.length_map]
      refine Nx.mk hlt ⟨same_upd' s1 hl, upd_same, ?_⟩
      rw [hacc, List.replicate_succ', List.map_append]
      rfl
    · rintro acc H1 ⟨s1, hl1, hacc⟩
      refine ⟨l, List.replicate (o.map V.int).length true, rfl, SqL.of (by rw [← hacc]; exact hl1), ?_⟩
      rw [all_true fun b hb => (List.mem_replicate.mp hb).2]
      refine ⟨true, rfl, iteT ?_⟩
      refine ⟨_, rfl, p, o, rfl, .inr (SqT.of (s1 _ _ hp)), by (first | lia | omega), fun q ns' hq hp' hs' => ?_⟩
      have s2 := s1.trans (same_upd (o := .lst (ns'.map V.int)) hq)
      refine ⟨_, rfl, n, rfl, fun c hc => ⟨c, 0, n, rfl, upd_same, ⟨by (first | lia | omega), by (first | lia | omega), by (first | lia | omega), by (first | lia | omega)⟩, by (first | lia | omega), fun e he => ?_⟩⟩
      rw [things_eq]
      have s3 := (same_upd (o := .rng 0 n) hc).trans (same_upd (o := .lst ((rangeI n).map V.int)) he)
      refine ⟨q, e, _, _, ns', rangeI n, rfl, rfl, SqL.of (s3 _ _ upd_same), SqL.of upd_same, paired_ints _, paired_ints _, ?_⟩
      rw [decide_eq_true (PySem.W.ksm_same (hp'.trans ho) hs' (rangeK_sorted _))]
      exact k _ (s2.trans s3)
end
end Bm
namespace Bm
open PySem L2
noncomputable def spIsVoters (K : PySem.W.Frag) : Sp := fun vs H Q _ => ∃ (p : Addr) (L : List (List Int)) (n : Int), vs = [.ref p, .int n] ∧ 1 ≤ n ∧ n ≤ 6 ∧ VAt K H p L ∧ Ords n L ∧ ∀ H', Same H H' → Q (.bl true) H'
section
variable {P : Program} {w : World} {K : PySem.W.Frag} {mg : Str → Option Value} {base : Heap}
theorem sc_law_is_voters : FnScope ["found", "many"] ["found", "many"] (defScope sIsVoters) := ⟨rfl, rfl, rfl, by decide +kernel, rfl, by decide +kernel, by decide +kernel⟩
theorem ok_isVoters (d : Def K mg "_law_is_voters" sIsVoters ["found", "many"]) (B : Blt mg) (dIO : Def K mg "_law_is_order" sIsOrder ["found", "many"]) (GIO : FnOk P w K mg base CX0 2 dIO.f dIO.fd ["found", "many"] spIsOrder) :
    FnOk P w K mg base CX0 3 d.f d.fd ["found", "many"] (spIsVoters K) := by
  refine d.F.ok sc_law_is_voters (fun vs H Q E h => ?_) (fun cdv A outer s H vs Q E hr h => ?_)
  · obtain ⟨p, L, n, rfl, _⟩ := h
    rfl
  · obtain ⟨p, L, n, rfl, h1, h6, ⟨xs, hx, px⟩, hO, k⟩ := h
    refine ⟨_, pss_cons (ps_if (pt_not (pt_val (pe_callB call_isi (by rfl) B.isi PyProof.Rows.boot_isinstance (pa_cons (pv 0) (pa_cons (pe_bltn (v := .ty "list") (by rfl) B.list PyProof.Rows.boot_list rfl) pa_nil))))) pss_never pss_nil)
      (pss_one (ps_ret (pe_cmpR op_eq (pe_callB call_len_seq (by rfl) B.len PySem.boot_len (pa_cons (pe_comp (ts := ["voter"]) (fs := [(1, "many")]) rfl (by exact .mk' rfl (by rfl) ⟨rfl, rfl, trivial⟩) (pi_list (pv 0))
          (by intros; exact pg_name (i := 0) (show (["voter", "many"] : List Str).Nodup by decide +kernel) rfl (Or.inl rfl))
          (by intros; exact pts_one (pt_not (pt_val (pe_call GIO hr (by rfl) dIO.mgf dIO.F.kp dIO.b .nil pass0 (pa_cons (pv 0) (pa_cons (pv 1) pa_nil))))))
          (by intros; exact (pv 0))) pa_nil)) pe_int (nomark _)))), ?_⟩
    refine ⟨_, rfl, .ref p, "list", true, rfl, .list_list hx, true, rfl, iteF ?_⟩
    refine ⟨_, rfl, p, rfl, ⟨_, hx⟩, fun l hl => comp_list' (xs := xs) (fun i acc H' => Same H H' ∧ H' l = some (.lst acc) ∧ acc = [])
      ⟨same_upd hl, upd_same, rfl⟩ (fun i acc H' _ ⟨s1, z, _⟩ => ⟨s1.seq hx, z⟩) ?_ ?_⟩
    · rintro i x acc H1 hi hlt ⟨s1, hl1, rfl⟩
      obtain ⟨o, ho, q, rfl, hq⟩ := paired_get px hi
      refine ⟨small1000 (by decide), ⟨rfl, rfl⟩, ?_⟩
      exact ⟨_, rfl, _, rfl, q, o, n, rfl, h1, h6, s1 _ _ hq, hO o (List.mem_of_getElem? ho), fun H2 s2 => ⟨true, rfl, iteF (Nx.mk hlt ⟨s1.trans s2, s2 _ _ hl1, rfl⟩)⟩⟩
    · rintro acc H1 ⟨s1, hl1, rfl⟩
      exact ⟨l, _, rfl, .inl (SqL.of hl1), rfl, k H1 s1⟩
end
end Bm
namespace Bm
open PySem L2
noncomputable def spPairs : Sp := fun vs H Q _ => ∃ n : Int, vs = [.int n] ∧ 0 ≤ n ∧ n ≤ 6 ∧ ∀ H' p xs, Same H H' → H p = none → H' p = some (.lst xs) → Paired (dP H') (pairsM n) xs → Q (.ref p) H'
noncomputable def spWishG (K : PySem.W.Frag) : Sp := fun vs H Q _ => ∃ (a : Addr) (W : List (Int × Int)) (x y : Int), vs = [.ref a, .int x, .int y] ∧ WAt K H a W ∧ ((x, y) ∈ W → (y, x) ∉ W) ∧ ∀ H', Same H H' → Q (.int (netM W x y)) H'
section
variable {P : Program} {w : World} {K : PySem.W.Frag} {mg : Str → Option Value} {base : Heap}
theorem sc_pairs_of : FnScope ["many", "pairs", "one"] ["many"] (defScope sPairsOf) := ⟨rfl, rfl, rfl, by decide +kernel, rfl, by decide +kernel, by decide +kernel⟩
theorem ok_pairsOf (d : Def K mg "pairs_of" sPairsOf ["many"]) (B : Blt mg) : FnOk P w K mg base CX0 1 d.f d.fd ["many"] spPairs := by
  refine d.F.ok sc_pairs_of (fun vs H Q E h => ?_) (fun cdv A outer s H vs Q E hr h => ?_)
  · obtain ⟨n, rfl, _⟩ := h
    rfl
  · obtain ⟨n, rfl, h0, h6, k⟩ := h
    refine ⟨_, pss_cons (ps_set (i := 1) sc_pairs_of.nd rfl (Or.inl rfl) (pe_lst pa_nil))
      (pss_cons (ps_for PassesOwn.never rfl (pi_range1 (by rfl) B.range (pa_cons (pv 0) pa_nil)) (pg_name (i := 2) sc_pairs_of.nd rfl (Or.inr rfl))
        (pss_one (ps_expr (pe_bm PySem.F.plainAttrs_list PySem.F.slot_list_extend PySem.F.type_list_extend mt_extend (pv 1) (pa_cons (pe_comp (ts := ["other"]) (fs := [(2, "one")]) rfl (by exact .mk' rfl (by rfl) ⟨rfl, rfl, trivial⟩) (pi_range2 (by rfl) B.range (pa_cons (pe_op op_add (pv 2) pe_int) (pa_cons (pv 0) pa_nil)))
          (by intros; exact pg_name (i := 0) (show (["other", "one"] : List Str).Nodup by decide +kernel) rfl (Or.inl rfl))
          (by intros; exact pts_nil)
          (by intros; exact (pe_tup (pa_cons (pv 1) (pa_cons (pv 0) pa_nil))))) pa_nil)))))
      (pss_one (ps_ret (pv 1)))), ?_⟩
    have small : ∀ {z : Nat}, z ≤ 1000 → z ≤ sizeLine := fun h => Nat.le_of_lt (small1000 h)
    refine ⟨Nat.zero_le _, fun pa fpa => ?_⟩
    refine ⟨_, rfl, n, rfl, by (first | lia | omega), by (first | lia | omega), for_range (n := n.toNat) (fun i σ H' => ∃ (v2 : Option V) (xs : List V), σ = [some (.int n), some (.ref pa), v2] ∧ Same H H' ∧ H' pa = some (.lst xs) ∧ Paired (dP H') ((rangeK i).flatMap (upP n.toNat)) xs ∧ xs.length ≤ i * 6)
      ⟨none, [], rfl, same_upd fpa, upd_same, .nil, Nat.le_refl _⟩ ?_ ?_⟩
    · rintro i σ H1 hi ⟨v2, xs, rfl, s1, hpa, px, hlen⟩
      refine ⟨_, rfl, .inl ⟨rfl, _, SqL.of hpa⟩, ?_⟩
      refine ⟨_, rfl, _, _, rfl, rfl, _, rfl, _, n, rfl, ⟨by (first | lia | omega), by (first | lia | omega), by (first | lia | omega), by (first | lia | omega)⟩, fun l fl => comp_range' (lo := (0 : Int) + (i : Nat) + 1) (m0 := (n - ((0 : Int) + (i : Nat) + 1)).toNat) (fun c acc H' => Same H1 H' ∧ H' l = some (.lst acc) ∧ Paired (dP H') ((List.range c).map fun j => ((0 : Int) + (i : Nat), (0 : Int) + (i : Nat) + 1 + (j : Nat))) acc ∧ acc.length = c)
        ⟨same_upd fl, upd_same, .nil, rfl⟩ (fun c acc H' _ ⟨_, z, _⟩ => z) ?_ ?_⟩
      · rintro c acc H2 hc ⟨s2, hl, pa2, hal⟩
        refine ⟨small1000 (by (first | lia | omega)), ⟨rfl, rfl⟩, tYes_mk ?_⟩
        refine ⟨_, rfl, _, rfl, sz2, fun t ft => ?_⟩
        have t3 := same_upd (o := .tup [.int ((0 : Int) + (i : Nat)), .int ((0 : Int) + (i : Nat) + 1 + (c : Nat))]) ft
        have hl3 := t3 _ _ hl
        refine ⟨hl3, Nx.mk hc ⟨same_upd' (s2.trans t3) fl, upd_same, ?_, by rw [List.length_append, List.length_singleton]; (first | lia | omega)⟩⟩
        rw [List.range_succ, List.map_append]
        refine pd_append (pd_same (fun _ _ ⟨c, e, hc⟩ => ⟨c, e, by rw [upd_ne (ne_of (t3 _ _ hc) hl3 (by intro z; cases z))]; exact t3 _ _ hc⟩) pa2) (.cons ⟨t, rfl, ?_⟩ .nil)
        rw [upd_ne (ne_of upd_same hl3 (by intro z; cases z)), upd_same]
        rfl
      · rintro acc H2 ⟨s2, hl, pa2, hal⟩
        have hpa2 := s2 _ _ hpa
        refine ⟨pa, l, xs, acc, rfl, rfl, hpa2, hl, small (by (first | lia | omega)), ?_⟩
        refine ⟨_, xs ++ acc, rfl, same_upd' (s1.trans s2) fpa, upd_same, ?_, by rw [List.length_append]; (first | lia | omega)⟩
        rw [rangeK_succ, List.flatMap_append]
        have e : ([(0 : Int) + (i : Nat)] : List Int).flatMap (upP n.toNat) = (List.range (n - ((0 : Int) + (i : Nat) + 1)).toNat).map fun j => ((0 : Int) + (i : Nat), (0 : Int) + (i : Nat) + 1 + (j : Nat)) := by
          rw [List.flatMap_cons, List.flatMap_nil, List.append_nil, up_eq]
          rw [show n.toNat - (i + 1) = (n - ((0 : Int) + (i : Nat) + 1)).toNat by (first | lia | omega)]
        rw [e]
        refine pd_append (pd_same (fun _ _ ⟨c, e, hc⟩ => ⟨c, e, by rw [upd_ne (ne_of (s2 _ _ hc) hpa2 (by intro z; cases z))]; exact s2 _ _ hc⟩) px) (pd_same (fun _ _ ⟨c, e, hc⟩ => ⟨c, e, by rw [upd_ne (ne_of hc hpa2 (by intro z; cases z))]; exact hc⟩) pa2)
    · rintro σ H1 ⟨v2, xs, rfl, s1, hpa, px, hlen⟩
      exact ⟨_, rfl, k H1 pa xs s1 fpa hpa px⟩
theorem sc_wish_of : FnScope ["web", "one", "other"] ["web", "one", "other"] (defScope sWishOf) := ⟨rfl, rfl, rfl, by decide +kernel, rfl, by decide +kernel, by decide +kernel⟩
theorem ok_wishOf (d : Def K mg "wish_of" sWishOf ["web", "one", "other"]) : FnOk P w K mg base CX0 1 d.f d.fd ["web", "one", "other"] (spWishG K) := by
  refine d.F.ok sc_wish_of (fun vs H Q E h => ?_) (fun cdv A outer s H vs Q E hr h => ?_)
  · obtain ⟨a, W, x, y, rfl, _⟩ := h
    rfl
  · obtain ⟨a, W, x, y, rfl, ⟨ws, hw, pw⟩, has, k⟩ := h
    refine ⟨_, pss_cons (ps_if (pt_cmpR (op_inL eq_dP_ok dP_inj (hu2_of hr)) (pe_tup (pa_cons (pv 1) (pa_cons (pv 2) pa_nil))) (pv 0) (by with_unfolding_all rfl)) (pss_one (ps_ret pe_int)) pss_nil)
      (pss_cons (ps_if (pt_cmpR (op_inL eq_dP_ok dP_inj (hu2_of hr)) (pe_tup (pa_cons (pv 2) (pa_cons (pv 1) pa_nil))) (pv 0) (by with_unfolding_all rfl)) (pss_one (ps_ret (pe_un un_neg pe_int))) pss_nil)
      (pss_one (ps_ret pe_int))), ?_⟩
    refine ⟨_, rfl, _, rfl, sz2, fun t1 ft1 => ?_⟩
    have u1 := same_upd (o := .tup [.int x, .int y]) ft1
    refine ⟨_, rfl, a, ws, (x, y), W, rfl, .inl (u1.seq hw), ⟨t1, rfl, upd_same⟩, pd_same (dP_same u1) pw, _, rfl, ite2 (fun z1 => ?_) (fun z1 => ?_)⟩
    · have m1 : (x, y) ∈ W := of_dec z1
      have z := k _ u1
      have e : netM W x y = 1 := by unfold netM; rw [if_pos m1, if_neg (has m1)]; rfl
      rw [e] at z
      exact z
    have m1 : (x, y) ∉ W := fun z => z1 (by simpa using z)
    refine ⟨_, rfl, _, rfl, sz2, fun t2 ft2 => ?_⟩
    have u2 := u1.trans (same_upd (o := .tup [.int y, .int x]) ft2)
    refine ⟨_, rfl, a, ws, (y, x), W, rfl, .inl (u2.seq hw), ⟨t2, rfl, upd_same⟩, pd_same (dP_same u2) pw, _, rfl, ite2 (fun z2 => ?_) (fun z2 => ?_)⟩
    · have m2 : (y, x) ∈ W := of_dec z2
      have z := k _ u2
      have e : netM W x y = -1 := by unfold netM; rw [if_neg m1, if_pos m2]; rfl
      rw [e] at z
      exact ⟨1, rfl, z⟩
    · have m2 : (y, x) ∉ W := fun z => z2 (by simpa using z)
      have z := k _ u2
      have e : netM W x y = 0 := by unfold netM; rw [if_neg m1, if_neg m2]; rfl
      rw [e] at z
      exact z
end
end Bm
namespace Bm
open PySem L2
structure Blt2 (mg : Str → Option Value) : Prop where
  zip : mg "zip" = none
  abs : mg "abs" = none
noncomputable def dI (H : Hp) (l : List Int) (x : V) : Prop := ∃ p, x = .ref p ∧ H p = some (.lst (l.map V.int))
theorem dI_same {H H' : Hp} (s : Same H H') : ∀ a x, dI H a x → dI H' a x := fun _ _ ⟨p, e, h⟩ => ⟨p, e, s _ _ h⟩
noncomputable def spReach (K : PySem.W.Frag) : Sp := fun vs H Q _ => ∃ (a b : Addr) (ws ls : List Int) (k : Nat), vs = [.ref a, .ref b, .int k] ∧ SqL K H a (ws.map V.int) ∧ SqL K H b (ls.map V.int) ∧ ls.length = ws.length ∧ Wishes ws ∧
  (Reach ws ls k → ∀ H', Same H H' → Q (.bl true) H') ∧ (¬ Reach ws ls k → ∀ H', Same H H' → Q (.bl false) H')
noncomputable def natV (p : Nat) : V := .int (p : Int)
noncomputable def spPlaces (K : PySem.W.Frag) (k : Nat) : Sp := fun vs H Q _ => ∃ (sa wa la : Addr) (S : List (List Int)) (xs : List V) (ws ls : List Int) (f : Nat), vs = [.ref sa, .ref wa, .ref la, .int k, .int f] ∧ SqL K H sa xs ∧ Paired (dI H) S xs ∧ SqL K H wa (ws.map V.int) ∧ SqL K H la (ls.map V.int) ∧
  Units S ws.length ∧ Wishes ws ∧ ls.length = ws.length ∧ ws.length ≤ 36 ∧ S.length ≤ 500 ∧ f ≤ 500 ∧
  ((∀ ps, ¬ Sol S ws k ls f ps) → ∀ H', Same H H' → Q .non H') ∧ (∀ ps, Sol S ws k ls f ps → ∀ H' p, Same H H' → H p = none → H' p = some (.lst (ps.map natV)) → Q (.ref p) H')
noncomputable def spOrdersOf (K : PySem.W.Frag) (m : Nat) : Sp := fun vs H Q _ => ∃ (a : Addr) (ts : List Int), vs = [.ref a] ∧ SqL K H a (ts.map V.int) ∧ ts.length = m ∧ m ≤ 4 ∧ ts.Nodup ∧
  ∀ H' p xs, Same H H' → H p = none → H' p = some (.lst xs) → Paired (dT H') (permsM m ts) xs → Q (.ref p) H'
noncomputable def spStepsOf (K : PySem.W.Frag) : Sp := fun vs H Q _ => ∃ (p b : Addr) (o : List Int) (B : List (Int × Int)), vs = [.ref p, .ref b] ∧ H p = some (.tup (o.map V.int)) ∧ WAt K H b B ∧ B.length ≤ 36 ∧ (∀ c ∈ B, c.1 ∈ o ∧ c.2 ∈ o) ∧
  ∀ H' l, Same H H' → H l = none → H' l = some (.lst ((B.map fun c => leadM [o] c.1 c.2).map V.int)) → Q (.ref l) H'
noncomputable def spFewest (K : PySem.W.Frag) : Sp := fun vs H Q _ => ∃ (n : Int) (b : Addr) (W : List (Int × Int)), vs = [.int n, .ref b] ∧ 1 ≤ n ∧ n ≤ 4 ∧ WAt K H b W ∧ Good n W ∧
  ∀ H' p xs L, Same H H' → H p = none → H' p = some (.lst xs) → Paired (dT H') L xs → Ords n L → beatsC n L = webC n W → (∀ M, Ords n M → beatsC n M = webC n W → L.length ≤ M.length) → L.length ≤ 12 → Q (.ref p) H'
theorem vs5 {a b c : Addr} {x y x' y' : Int} (h1 : x = x') (h2 : y = y') : [V.ref a, V.ref b, V.ref c, V.int x, V.int y] = [V.ref a, V.ref b, V.ref c, V.int x', V.int y'] := by rw [h1, h2]
section
variable {P : Program} {w : World} {K : PySem.W.Frag} {mg : Str → Option Value} {base : Heap}
theorem sc_in_reach : FnScope ["wishes", "leads", "left", "wish", "now"] ["wishes", "leads", "left"] (defScope sInReach) := ⟨rfl, rfl, rfl, by decide +kernel, rfl, by decide +kernel, by decide +kernel⟩
theorem ok_inReach (d : Def K mg "in_reach" sInReach ["wishes", "leads", "left"]) (B2 : Blt2 mg) : FnOk P w K mg base CX0 1 d.f d.fd ["wishes", "leads", "left"] (spReach K) := by
  refine d.F.ok sc_in_reach (fun vs H Q E h => ?_) (fun cdv A outer s H vs Q E hr h => ?_)
  · obtain ⟨a, b, ws, ls, k, rfl, _⟩ := h
    rfl
  · obtain ⟨a, b, ws, ls, k, rfl, hA, hB, hlen, hW, kT, kF⟩ := h
    refine ⟨_, pss_cons (ps_for PassesOwn.never rfl (pi_zip (by rfl) B2.zip (pa_cons (pv 0) (pa_cons (pv 1) pa_nil))) (pg_tup rfl (pgs_cons (pg_name (i := 3) sc_in_reach.nd rfl (Or.inl rfl)) (pgs_cons (pg_name (i := 4) sc_in_reach.nd rfl (Or.inl rfl)) pgs_nil)))
        (pss_cons (ps_if (pt_cut (pw_and (pt_cmpR op_eq (pv 3) pe_int (nomark _)) (pw_and1 (pw_or (pt_cmpR op_gt (pe_callB call_absI (by rfl) B2.abs PyProof.Rows.boot_abs (pa_cons (pv 4) pa_nil)) (pv 2) (nomark _)) (pw_or1 (pt_cmpR op_ne (pe_op op_mod (pe_op op_add (pv 4) (pv 2)) pe_int) pe_int (nomark _)))).pt)).pt) (pss_one (ps_ret pe_bl)) pss_nil)
        (pss_one (ps_if (pt_cut (pw_and (pt_cmpR op_ne (pv 3) pe_int (nomark _)) (pw_and1 (pt_cmpR op_lt (pe_op op_add (pe_op op_mul (pv 4) (pv 3)) (pv 2)) pe_int (nomark _)))).pt) (pss_one (ps_ret pe_bl)) pss_nil))))
      (pss_one (ps_ret pe_bl)), ?_⟩
    refine ⟨_, rfl, _, rfl, a, b, rfl, ⟨_, hA⟩, ⟨_, hB⟩, for_zip (K := K) (a := a) (b := b) (xs := ws.map V.int) (ys := ls.map V.int) (by rw [List.length_map, List.length_map]; exact hlen.symm) (fun i σ H' => ∃ v3 v4 : Option V, σ = [some (.ref a), some (.ref b), some (.int k), v3, v4] ∧ Same H H' ∧ ∀ j w x, j < i → ws[j]? = some w → ls[j]? = some x → okP w x k)
      ⟨none, none, rfl, Same.refl _, fun j w x z => absurd z (Nat.not_lt_zero _)⟩ (fun i σ H' _ ⟨_, _, _, s1, _⟩ => ⟨s1.seq hA, s1.seq hB⟩) ?_ ?_⟩
    · rintro i x y p σ H1 hx hy fp ⟨v3, v4, rfl, s1, hall⟩
      obtain ⟨w0, hw0, rfl⟩ := map_get hx
      obtain ⟨z, hz, rfl⟩ := map_get hy
      have s2 := s1.trans (same_upd (o := .tup [.int w0, .int z]) fp)
      refine ⟨p, _, rfl, SqT.of upd_same, rfl, _, _, rfl, _, _, rfl, rfl, ?_⟩
      generalize upd H1 p (.tup [.int w0, .int z]) = H2 at s2 ⊢
      have hww := hW w0 (List.mem_of_getElem? hw0)
      refine ⟨fun b H' => b = decide (w0 = 0 ∧ ¬ ((-(k : Int) ≤ z ∧ z ≤ k) ∧ (z + k) % 2 = 0)) ∧ H' = H2, ?_, ?_⟩
      · refine ⟨_, rfl, rfl, _, rfl, ?_⟩
        rw [decV]
        refine ite2 (fun q1 => ?_) (fun q1 => ⟨?_, rfl⟩)
        · have q1' : w0 = 0 := of_decide_eq_true q1
          refine ⟨_, rfl, z, rfl, _, rfl, _, _, rfl, rfl, _, rfl, ite2 (fun q2 => ⟨?_, rfl⟩) (fun q2 => ?_)⟩
          · have q2' := of_decide_eq_true q2
            symm
            refine decide_eq_true ⟨q1', fun q => ?_⟩
            split at q2' <;> (first | lia | omega)
          · have q2' : ¬ _ := fun q => q2 (decide_eq_true q)
            refine ⟨_, rfl, _, rfl, _, _, rfl, rfl, _, _, rfl, rfl, (by show (0 : Int) < 2; decide), rfl, _, rfl, ?_, rfl⟩
            rw [decV]
            by_cases e : (z + (k : Int)) % 2 = 0
            · rw [decide_eq_true e]
              symm
              refine decide_eq_false fun q => q.2 ⟨?_, e⟩
              split at q2' <;> (first | lia | omega)
            · rw [decide_eq_false e]
              exact (decide_eq_true ⟨q1', fun q => e q.2⟩).symm
        · exact (decide_eq_false fun q => q1 (decide_eq_true q.1)).symm
      rintro b' H' ⟨rfl, hE⟩
      rw [hE]
      clear hE
      refine ite2 (fun q => ?_) (fun q => ?_)
      · obtain ⟨q1, q2⟩ := of_decide_eq_true q
        refine kF (fun hR => ?_) H2 s2
        have := (hR i w0 z hw0 hz).1 q1
        exact q2 this
      have q' : ¬ _ := fun z => q (decide_eq_true z)
      refine ⟨fun b H' => b = decide (w0 ≠ 0 ∧ z * w0 + k < 1) ∧ H' = H2, ?_, ?_⟩
      · refine ⟨_, rfl, rfl, _, rfl, ?_⟩
        rw [decV]
        refine ite2 (fun q1 => ?_) (fun q1 => ⟨?_, rfl⟩)
        · have q1' : ¬ w0 = 0 := by simpa using q1
          refine ⟨_, rfl, _, rfl, _, _, rfl, rfl, .inr ⟨by (first | lia | omega), by (first | lia | omega)⟩, _, rfl, _, _, rfl, rfl, _, _, rfl, rfl, _, rfl, ?_, rfl⟩
          by_cases e : z * w0 + (k : Int) < 1
          · rw [decide_eq_true e]
            exact (decide_eq_true ⟨q1', e⟩).symm
          · rw [decide_eq_false e]
            exact (decide_eq_false fun q => e q.2).symm
        · have q1' : w0 = 0 := by simpa using q1
          exact (decide_eq_false fun q => q.1 q1').symm
      rintro b' H' ⟨rfl, hE⟩
      rw [hE]
      clear hE
      refine ite2 (fun r => ?_) (fun r => ?_)
      · obtain ⟨r1, r2⟩ := of_decide_eq_true r
        refine kF (fun hR => ?_) H2 s2
        have := (hR i w0 z hw0 hz).2 r1
        (first | lia | omega)
      have r' : ¬ _ := fun z => r (decide_eq_true z)
      refine ⟨_, _, rfl, s2, fun j w x hj hjw hjx => ?_⟩
      by_cases e : j = i
      · subst e
        rw [hw0] at hjw
        rw [hz] at hjx
        cases hjw
        cases hjx
        refine ⟨fun q1 => Classical.byContradiction fun q2 => q' ⟨q1, q2⟩, fun q1 => ?_⟩
        exact Classical.byContradiction fun q2 => r' ⟨q1, by (first | lia | omega)⟩
      · exact hall j w x (by (first | lia | omega)) hjw hjx
    · rintro σ H1 ⟨v3, v4, rfl, s1, hall⟩
      refine kT (fun i w x e1 e2 => hall i w x ?_ e1 e2) H1 s1
      rw [List.length_map]
      exact (List.getElem?_eq_some_iff.mp e1).1
theorem sc_places : FnScope ["steps", "wishes", "leads", "left", "first", "place", "moved", "rest"] ["steps", "wishes", "leads", "left", "first"] (defScope sPlaces) := ⟨rfl, rfl, rfl, by decide +kernel, rfl, by decide +kernel, by decide +kernel⟩
theorem ok_places0 (d : Def K mg "places_of_voters" sPlaces ["steps", "wishes", "leads", "left", "first"]) (dIr : Def K mg "in_reach" sInReach ["wishes", "leads", "left"]) (GIr : FnOk P w K mg base CX0 1 dIr.f dIr.fd ["wishes", "leads", "left"] (spReach K)) :
    FnOk P w K mg base CX0 2 d.f d.fd ["steps", "wishes", "leads", "left", "first"] (spPlaces K 0) := by
  refine d.F.ok sc_places (fun vs H Q E h => ?_) (fun cdv A outer s H vs Q E hr h => ?_)
  · obtain ⟨sa, wa, la, S, xs, ws, ls, f, rfl, _⟩ := h
    rfl
  · obtain ⟨sa, wa, la, S, xs, ws, ls, f, rfl, hS, pS, hwa, hla, hU, hW, hl, h36, hSl, hf, kN, kS⟩ := h
    refine ⟨_, pss_cons (ps_if (pt_not (pt_val (pe_call GIr (hr.mono (by decide)) (by rfl) dIr.mgf dIr.F.kp dIr.b .nil pass0 (pa_cons (pv 1) (pa_cons (pv 2) (pa_cons (pv 3) pa_nil)))))) (pss_one (ps_ret pe_non)) pss_nil)
      (pss_cons (ps_if (pt_cmpR op_eq (pv 3) pe_int (nomark _)) (pss_one (ps_ret (pe_lst pa_nil))) pss_nil) pss_never), ?_⟩
    refine ⟨_, rfl, _, rfl, _, rfl, wa, la, ws, ls, 0, rfl, hwa, hla, hl, hW, fun hR H1 s1 => ?_, fun hR H1 s1 => ?_⟩
    · refine ⟨_, rfl, iteF ⟨_, rfl, rfl, _, rfl, iteP rfl ⟨Nat.zero_le _, fun l fl => ?_⟩⟩⟩
      exact kS [] ⟨rfl, hR⟩ _ l (s1.trans (same_upd fl)) (s1.free fl) upd_same
    · exact ⟨_, rfl, iteT (kN (fun ps h => hR h.2) H1 s1)⟩
theorem ok_placesS (d : Def K mg "places_of_voters" sPlaces ["steps", "wishes", "leads", "left", "first"]) (B : Blt mg) (B2 : Blt2 mg) (dIr : Def K mg "in_reach" sInReach ["wishes", "leads", "left"]) (GIr : FnOk P w K mg base CX0 1 dIr.f dIr.fd ["wishes", "leads", "left"] (spReach K))
    {k : Nat} (hk : k ≤ 100) (GPl : FnOk P w K mg base CX0 (2 + k) d.f d.fd ["steps", "wishes", "leads", "left", "first"] (spPlaces K k)) :
    FnOk P w K mg base CX0 (2 + k + 1) d.f d.fd ["steps", "wishes", "leads", "left", "first"] (spPlaces K (k + 1)) := by
  refine d.F.ok sc_places (fun vs H Q E h => ?_) (fun cdv A outer s H vs Q E hr h => ?_)
  · obtain ⟨sa, wa, la, S, xs, ws, ls, f, rfl, _⟩ := h
    rfl
  · obtain ⟨sa, wa, la, S, xs, ws, ls, f, rfl, hS, pS, hwa, hla, hU, hW, hl, h36, hSl, hf, kN, kS⟩ := h
    refine ⟨_, pss_cons (ps_if (pt_not (pt_val (pe_call GIr (hr.mono (by (first | lia | omega))) (by rfl) dIr.mgf dIr.F.kp dIr.b .nil pass0 (pa_cons (pv 1) (pa_cons (pv 2) (pa_cons (pv 3) pa_nil)))))) (pss_one (ps_ret pe_non)) pss_nil)
      (pss_cons (ps_if (pt_cmpR op_eq (pv 3) pe_int (nomark _)) pss_never pss_nil)
      (pss_cons (ps_for PassesOwn.never rfl (pi_range2 (by rfl) B.range (pa_cons (pv 4) (pa_cons (pe_callB call_len_seq (by rfl) B.len PySem.boot_len (pa_cons (pv 0) pa_nil)) pa_nil))) (pg_name (i := 5) sc_places.nd rfl (Or.inl rfl))
        (pss_cons (ps_setC (i := 6) (ts := ["now", "step"]) (fs := []) sc_places.nd rfl (Or.inl rfl) rfl (by exact .mk' rfl (by rfl) trivial) (pi_zip (by rfl) B2.zip (pa_cons (pv 2) (pa_cons (pe_ix ix_list (pv 0) (pv 5) (fun _ _ => rfl)) pa_nil)))
          (by intros; exact pg_tup rfl (pgs_cons (pg_name (i := 0) (show (["now", "step"] : List Str).Nodup by decide +kernel) rfl (Or.inl rfl)) (pgs_cons (pg_name (i := 1) (show (["now", "step"] : List Str).Nodup by decide +kernel) rfl (Or.inl rfl)) pgs_nil)))
          (by intros; exact pts_nil)
          (by intros; exact (pe_op op_add (pv 0) (pv 1))))
        (pss_cons (ps_set (i := 7) sc_places.nd rfl (Or.inl rfl) (pe_call GPl hr (by rfl) d.mgf d.F.kp d.b .nil pass0 (pa_cons (pv 0) (pa_cons (pv 1) (pa_cons (pv 6) (pa_cons (pe_op op_sub (pv 3) pe_int) (pa_cons (pv 5) pa_nil)))))))
        (pss_one (ps_if (pt_cmpR op_notN (pv 7) pe_non (nomark _)) (pss_one (ps_ret (pe_op op_cat (pe_lst (pa_cons (pv 5) pa_nil)) (pv 7)))) pss_nil)))))
      (pss_one (ps_ret pe_non)))), ?_⟩
    have small : ∀ {z : Nat}, z ≤ 1000 → z ≤ sizeLine := fun h => Nat.le_of_lt (small1000 h)
    have hxl := Paired.length pS
    refine ⟨_, rfl, _, rfl, _, rfl, wa, la, ws, ls, k + 1, rfl, hwa, hla, hl, hW, fun hR H1 s1 => ?_, fun hR H1 s1 => ?_⟩
    rotate_left
    · exact ⟨_, rfl, iteT (kN (fun ps h => hR (sol_reach hU hW hl h)) H1 s1)⟩
    refine ⟨_, rfl, iteF ⟨_, rfl, rfl, _, rfl, ?_⟩⟩
    rw [decV]
    refine iteN (by (first | lia | omega)) ?_
    refine ⟨_, rfl, _, rfl, sa, xs, rfl, .inl (s1.seq hS), _, _, rfl, ⟨by (first | lia | omega), by (first | lia | omega), by (first | lia | omega), by (first | lia | omega)⟩, for_range (n := ((xs.length : Int) - (f : Int)).toNat) (fun i σ H' => ∃ v5 v6 v7 : Option V, σ = [some (.ref sa), some (.ref wa), some (.ref la), some (.int ((k + 1 : Nat) : Int)), some (.int (f : Int)), v5, v6, v7] ∧ Same H H' ∧ ∀ j s rest, j < i → S[f + j]? = some s → ¬ Sol S ws k (addL ls s) (f + j) rest)
      ⟨_, _, _, rfl, s1, fun j s rest z => absurd z (Nat.not_lt_zero _)⟩ ?_ ?_⟩
    · rintro i σ H2 hi ⟨v5, v6, v7, rfl, s2, hno⟩
      have ei : (f : Int) + (i : Nat) = ((f + i : Nat) : Int) := by (first | lia | omega)
      rw [ei]
      have hlt : f + i < S.length := by (first | lia | omega)
      obtain ⟨x0, hx0⟩ : ∃ x, xs[f + i]? = some x := ⟨_, List.getElem?_eq_getElem (by (first | lia | omega))⟩
      obtain ⟨sv, hsv, sp, rfl, hsp⟩ := paired_get pS hx0
      obtain ⟨u1, u2⟩ := hU sv (List.mem_of_getElem? hsv)
      have hsp2 := s2 _ _ hsp
      have hal := addL_len (a := ls) (b := sv) (by (first | lia | omega))
      refine ⟨_, rfl, _, rfl, _, rfl, sa, xs, _, .ref sp, rfl, rfl, s2.seq hS, atI_nat hx0, la, sp, rfl, ⟨_, s2.seq hla⟩, ⟨_, SqL.of hsp2⟩, fun l fl => comp_zip' (xs := ls.map V.int) (ys := sv.map V.int) (by rw [List.length_map, List.length_map]; (first | lia | omega)) (fun c acc H' => Same H2 H' ∧ H' l = some (.lst acc) ∧ acc = ((addL ls sv).take c).map V.int)
        ⟨same_upd fl, upd_same, rfl⟩ (fun c acc H' _ ⟨z1, z2, _⟩ => ⟨⟨(s2.trans z1).seq hla, SqL.of (z1 _ _ hsp2)⟩, z2⟩) ?_ ?_ ?_⟩
      · rintro c x y p acc H3 hx hy fp hc ⟨s3, hl3, hacc⟩
        obtain ⟨x', hx', rfl⟩ := map_get hx
        obtain ⟨y', hy', rfl⟩ := map_get hy
        have t4 := same_upd (o := .tup [.int x', .int y']) fp
        refine ⟨p, _, rfl, SqT.of upd_same, rfl, _, _, rfl, _, _, rfl, rfl, ⟨rfl, rfl⟩, tYes_mk ?_⟩
        refine ⟨_, rfl, _, rfl, _, _, rfl, rfl, t4 _ _ hl3, Nx.mk hc ⟨same_upd' (s3.trans t4) fl, upd_same, ?_⟩⟩
        rw [List.take_add_one, addL_get hx' hy', List.map_append, hacc]
        rfl
      · rintro c acc H3 hc ⟨s3, hl3, hacc⟩
        rw [hacc, List.length_map, List.length_take]
        exact small1000 (by (first | lia | omega))
      rintro acc H3 ⟨s3, hl3, hacc⟩
      rw [List.length_map, List.take_of_length_le (by (first | lia | omega))] at hacc
      subst hacc
      have s23 := s2.trans s3
      refine ⟨_, rfl, _, rfl, _, rfl, _, rfl, _, _, rfl, rfl, _, rfl, sa, wa, l, S, xs, ws, addL ls sv, f + i, vs5 (by (first | lia | omega)) rfl, s23.seq hS, pd_same (dI_same s23) pS, s23.seq hwa, SqL.of hl3, hU, hW, by (first | lia | omega), h36, hSl, by (first | lia | omega), fun hnone H4 s4 => ?_, fun ps hs H4 p s4 fp hp => ?_⟩
      · refine ⟨_, rfl, rfl, _, rfl, iteS rfl ?_⟩
        refine ⟨_, _, _, rfl, s23.trans s4, fun j s rest hj hjs => ?_⟩
        by_cases e : j = i
        · subst e
          rw [hsv] at hjs
          cases hjs
          exact hnone rest
        · exact hno j s rest (by (first | lia | omega)) hjs
      · refine ⟨_, rfl, rfl, _, rfl, iteNN (fun z => by cases z) ?_⟩
        have hpl : ps.length = k := by
          have : ∀ {k : Nat} {ls : List Int} {f : Nat} {ps : List Nat}, Sol S ws k ls f ps → ps.length = k := by
            intro k
            induction k with
            | zero => rintro ls f ps ⟨rfl, _⟩; rfl
            | succ k ih =>
              rintro ls f ps ⟨p, rest, s, rfl, _, _, h⟩
              rw [List.length_cons, ih h]
          exact this hs
        refine ⟨_, rfl, sz1, fun l2 fl2 => ⟨_, rfl, l2, p, _, _, rfl, rfl, upd_same, (same_upd fl2) _ _ hp, small (by rw [List.length_map, hpl]; show 1 + k ≤ 1000; (first | lia | omega)), fun r fr => ?_⟩⟩
        have t := (same_upd (o := .lst [.int ((f + i : Nat) : Int)]) fl2).trans (same_upd (o := .lst ([.int ((f + i : Nat) : Int)] ++ ps.map natV)) fr)
        exact kS ((f + i) :: ps) ⟨f + i, ps, sv, rfl, by (first | lia | omega), hsv, hs⟩ _ r ((s23.trans s4).trans t) (((s23.trans s4).trans (same_upd fl2)).free fr) upd_same
    · rintro σ H2 ⟨v5, v6, v7, rfl, s2, hno⟩
      refine kN (fun ps h => ?_) H2 s2
      obtain ⟨p, rest, s, rfl, hfp, hs, h⟩ := h
      have hp := (List.getElem?_eq_some_iff.mp hs).1
      have e : f + (p - f) = p := by (first | lia | omega)
      exact hno (p - f) s rest (by (first | lia | omega)) (by rw [e]; exact hs) (by rw [e]; exact h)
theorem ok_places (d : Def K mg "places_of_voters" sPlaces ["steps", "wishes", "leads", "left", "first"]) (B : Blt mg) (B2 : Blt2 mg) (dIr : Def K mg "in_reach" sInReach ["wishes", "leads", "left"]) (GIr : FnOk P w K mg base CX0 1 dIr.f dIr.fd ["wishes", "leads", "left"] (spReach K)) :
    ∀ k : Nat, k ≤ 100 → FnOk P w K mg base CX0 (2 + k) d.f d.fd ["steps", "wishes", "leads", "left", "first"] (spPlaces K k)
  | 0, _ => ok_places0 d dIr GIr
  | k + 1, h => ok_placesS d B B2 dIr GIr (by (first | lia | omega)) (ok_places d B B2 dIr GIr k (by (first | lia | omega)))
end
end Bm
namespace Bm
open PySem L2
structure Glob4 (mg : Str → Option Value) : Prop where
  most : ∃ t, mg "MOST_THINGS_FOR_FEWEST" = some (.int 4 t)
noncomputable def dIx (sl : Addr) (H : Hp) (l : List Int) (x : V) : Prop := ∃ p, x = .ref p ∧ p ≠ sl ∧ H p = some (.lst (l.map V.int))
section
variable {P : Program} {w : World} {K : PySem.W.Frag} {mg : Str → Option Value} {base : Heap}
theorem sc_orders_of : FnScope ["things", "orders", "first", "rest"] ["things"] (defScope sOrdersOf) := ⟨rfl, rfl, rfl, by decide +kernel, rfl, by decide +kernel, by decide +kernel⟩
theorem ok_ordersOf0 (d : Def K mg "orders_of" sOrdersOf ["things"]) (B : Blt mg) : FnOk P w K mg base CX0 1 d.f d.fd ["things"] (spOrdersOf K 0) := by
  refine d.F.ok sc_orders_of (fun vs H Q E h => ?_) (fun cdv A outer s H vs Q E hr h => ?_)
  · obtain ⟨a, ts, rfl, _⟩ := h
    rfl
  · obtain ⟨a, ts, rfl, hS, hl, h4, hn, k⟩ := h
    refine ⟨_, pss_cons (ps_if (pt_cmpR op_eq (pe_callB call_len_seq (by rfl) B.len PySem.boot_len (pa_cons (pv 0) pa_nil)) pe_int (nomark _)) (pss_one (ps_ret (pe_lst (pa_cons (pe_tup pa_nil) pa_nil)))) pss_nil) pss_never, ?_⟩
    refine ⟨_, rfl, a, _, rfl, .inl hS, rfl, _, rfl, ?_⟩
    rw [decV]
    refine iteP (by rw [List.length_map, hl]; rfl) ?_
    refine ⟨Nat.zero_le _, fun t ft => ⟨sz1, fun l fl => ?_⟩⟩
    exact k _ l [.ref t] ((same_upd ft).trans (same_upd fl)) ((same_upd ft).free fl) upd_same (.cons ⟨t, rfl, (same_upd fl) _ _ upd_same⟩ .nil)
theorem ok_ordersOfS (d : Def K mg "orders_of" sOrdersOf ["things"]) (B : Blt mg) {m : Nat} (GOo : FnOk P w K mg base CX0 (m + 1) d.f d.fd ["things"] (spOrdersOf K m)) : FnOk P w K mg base CX0 (m + 1 + 1) d.f d.fd ["things"] (spOrdersOf K (m + 1)) := by
  refine d.F.ok sc_orders_of (fun vs H Q E h => ?_) (fun cdv A outer s H vs Q E hr h => ?_)
  · obtain ⟨a, ts, rfl, _⟩ := h
    rfl
  · obtain ⟨a, ts, rfl, hS, hl, h4, hn, k⟩ := h
    refine ⟨_, pss_cons (ps_if (pt_cmpR op_eq (pe_callB call_len_seq (by rfl) B.len PySem.boot_len (pa_cons (pv 0) pa_nil)) pe_int (nomark _)) pss_never pss_nil)
      (pss_cons (ps_set (i := 1) sc_orders_of.nd rfl (Or.inl rfl) (pe_lst pa_nil))
      (pss_cons (ps_for PassesOwn.never rfl (pi_list (pv 0)) (pg_name (i := 2) sc_orders_of.nd rfl (Or.inr rfl))
        (pss_cons (ps_setC (i := 3) (ts := ["thing"]) (fs := [(2, "first")]) sc_orders_of.nd rfl (Or.inl rfl) rfl (by exact .mk' rfl (by rfl) ⟨rfl, rfl, trivial⟩) (pi_list (pv 0))
          (by intros; exact pg_name (i := 0) (show (["thing", "first"] : List Str).Nodup by decide +kernel) rfl (Or.inl rfl))
          (by intros; exact pts_one (pt_cmpR op_ne (pv 0) (pv 1) (nomark _)))
          (by intros; exact (pv 0)))
        (pss_one (ps_expr (pe_bm PySem.F.plainAttrs_list PySem.F.slot_list_extend PySem.F.type_list_extend mt_extend (pv 1) (pa_cons (pe_comp (ts := ["order"]) (fs := [(2, "first")]) rfl (by exact .mk' rfl (by rfl) ⟨rfl, rfl, trivial⟩) (pi_list (pe_call GOo hr (by rfl) d.mgf d.F.kp d.b .nil pass0 (pa_cons (pv 3) pa_nil)))
          (by intros; exact pg_name (i := 0) (show (["order", "first"] : List Str).Nodup by decide +kernel) rfl (Or.inl rfl))
          (by intros; exact pts_nil)
          (by intros; exact (pe_op op_catA (pe_tup (pa_cons (pv 1) pa_nil)) (pv 0)))) pa_nil))))))
      (pss_one (ps_ret (pv 1))))), ?_⟩
    have small : ∀ {z : Nat}, z ≤ 2000 → z ≤ sizeLine := fun {z} h => by rw [sizeLine_eq]; (first | lia | omega)
    refine ⟨_, rfl, a, _, rfl, .inl hS, rfl, _, rfl, ?_⟩
    rw [decV]
    refine iteN (by rw [List.length_map, hl]; (first | lia | omega)) ?_
    refine ⟨Nat.zero_le _, fun od fod => ?_⟩
    have sI := same_upd (o := .lst []) fod
    have pw4 : 4 ^ m ≤ 64 := by
      have : m ≤ 3 := by (first | lia | omega)
      exact Nat.pow_le_pow_right (by decide) this
    refine ⟨_, rfl, a, rfl, ⟨_, sI.seq hS⟩, for_list (K := K) (a := a) (xs := ts.map V.int) (fun i σ H' => ∃ (v2 v3 : Option V) (xs : List V), σ = [some (.ref a), some (.ref od), v2, v3] ∧ Same H H' ∧ H' od = some (.lst xs) ∧ Paired (dT H') ((ts.take i).flatMap fun f => (permsM m (ts.filter fun t => !decide (t = f))).map (f :: ·)) xs ∧ xs.length ≤ i * 64)
      ⟨_, _, [], rfl, sI, upd_same, .nil, Nat.le_refl _⟩ (fun i σ H' _ ⟨_, _, _, _, s1, _⟩ => s1.seq hS) ?_ ?_⟩
    · rintro i x σ H1 hi ⟨v2, v3, xs, rfl, s1, hod, px, hxl⟩
      obtain ⟨f, hf, rfl⟩ := map_get hi
      have hil : i < ts.length := (List.getElem?_eq_some_iff.mp hf).1
      have hfm : f ∈ ts := List.mem_of_getElem? hf
      refine ⟨_, rfl, a, rfl, ⟨_, s1.seq hS⟩, fun l fl => comp_list' (xs := ts.map V.int) (fun c acc H' => Same H1 H' ∧ H' l = some (.lst acc) ∧ acc = ((ts.take c).filter fun t => !decide (t = f)).map V.int)
        ⟨same_upd fl, upd_same, rfl⟩ (fun c acc H' _ ⟨z1, z2, _⟩ => ⟨(s1.trans z1).seq hS, z2⟩) ?_ ?_⟩
      · rintro c x acc H2 hc hlt ⟨s2, hl2, hacc⟩
        obtain ⟨t, ht, rfl⟩ := map_get hc
        have key := take_filter_succ (fun t => !decide (t = f)) ht
        have hz : acc.length ≤ 4 := by
          rw [hacc, List.length_map]
          have := List.length_filter_le (fun t => !decide (t = f)) (ts.take c)
          rw [List.length_take] at this
          (first | lia | omega)
        refine ⟨small1000 (by (first | lia | omega)), ⟨rfl, rfl⟩, _, rfl, _, rfl, rfl, _, rfl, ?_⟩
        rw [decV]
        refine ite2 (fun q => ?_) (fun q => ?_)
        · rw [if_pos q] at key
          refine ⟨_, rfl, hl2, Nx.mk hlt ⟨same_upd' s2 fl, upd_same, ?_⟩⟩
          rw [key, List.map_append, hacc]
          rfl
        · rw [if_neg q, List.append_nil] at key
          exact Nx.mk hlt ⟨s2, hl2, by rw [key]; exact hacc⟩
      rintro acc H2 ⟨s2, hl2, hacc⟩
      rw [List.length_map, List.take_of_length_le (Nat.le_refl _)] at hacc
      subst hacc
      have s12 := s1.trans s2
      have hod2 := s2 _ _ hod
      have hwl := without_len hn hfm
      refine ⟨_, rfl, .inl ⟨rfl, _, SqL.of hod2⟩, ?_⟩
      refine ⟨_, rfl, l, _, rfl, SqL.of hl2, by (first | lia | omega), by (first | lia | omega), hn.filter _, fun H3 p ys s3 fp hp py => ?_⟩
      have hpl : (permsM m (ts.filter fun t => !decide (t = f))).length ≤ 64 := Nat.le_trans (perms_len (by (first | lia | omega))) pw4
      have hyl := Paired.length py
      refine ⟨p, rfl, ⟨_, SqL.of hp⟩, fun l2 fl2 => comp_list' (xs := ys) (fun c acc H' => Same H3 H' ∧ H' l2 = some (.lst acc) ∧ Paired (dT H') (((permsM m (ts.filter fun t => !decide (t = f))).take c).map (f :: ·)) acc ∧ acc.length = c)
        ⟨same_upd fl2, upd_same, .nil, rfl⟩ (fun c acc H' _ ⟨z1, z2, _⟩ => ⟨SqL.of (z1 _ _ hp), z2⟩) ?_ ?_⟩
      · rintro c x acc H4 hc hlt ⟨s4, hl4, pa, hal⟩
        obtain ⟨o, ho, q, rfl, hq⟩ := paired_get py hc
        have hom : o.Perm (ts.filter fun t => !decide (t = f)) := (perms_mem (hn.filter _) (by (first | lia | omega))).mp (List.mem_of_getElem? ho)
        have hol := hom.length_eq
        refine ⟨small1000 (by (first | lia | omega)), ⟨rfl, rfl⟩, tYes_mk ?_⟩
        refine ⟨_, rfl, sz1, fun t ft => ?_⟩
        have t5 := same_upd (o := .tup [.int f]) ft
        refine ⟨_, rfl, t, q, _, _, rfl, rfl, upd_same, t5 _ _ (s4 _ _ hq), small (by rw [List.length_map]; show 1 + _ ≤ 2000; (first | lia | omega)), fun r H6 s6 hr6 => ?_⟩
        have s46 := t5.trans s6
        have hl6 := s46 _ _ hl4
        refine ⟨hl6, Nx.mk hlt ⟨same_upd' (s4.trans s46) fl2, upd_same, ?_, by rw [List.length_append, List.length_singleton]; (first | lia | omega)⟩⟩
        rw [List.take_add_one, ho, List.map_append]
        refine pd_append (pd_same (fun _ _ ⟨c, e, hc⟩ => ⟨c, e, by rw [upd_ne (ne_of (s46 _ _ hc) hl6 (by intro z; cases z))]; exact s46 _ _ hc⟩) pa) (.cons ⟨r, rfl, ?_⟩ .nil)
        rw [upd_ne (ne_of hr6 hl6 (by intro z; cases z)), hr6]
        rfl
      rintro acc H4 ⟨s4, hl4, pa, hal⟩
      rw [List.take_of_length_le (by (first | lia | omega))] at pa
      have s24 := s3.trans s4
      have hod4 := s24 _ _ hod2
      refine ⟨od, l2, xs, acc, rfl, rfl, hod4, hl4, small (by (first | lia | omega)), ?_⟩
      refine ⟨_, _, xs ++ acc, rfl, same_upd' (s12.trans s24) fod, upd_same, ?_, by rw [List.length_append]; (first | lia | omega)⟩
      rw [List.take_add_one, hf, List.flatMap_append]
      refine pd_append (pd_same (fun _ _ ⟨c, e, hc⟩ => ⟨c, e, by rw [upd_ne (ne_of ((s2.trans s24) _ _ hc) hod4 (by intro z; cases z))]; exact (s2.trans s24) _ _ hc⟩) px) ?_
      have e : (Option.some f).toList.flatMap (fun f => (permsM m (ts.filter fun t => !decide (t = f))).map (f :: ·)) = (permsM m (ts.filter fun t => !decide (t = f))).map (f :: ·) := by
        show [f].flatMap _ = _
        rw [List.flatMap_cons, List.flatMap_nil, List.append_nil]
      rw [e]
      exact pd_same (fun _ _ ⟨c, e, hc⟩ => ⟨c, e, by rw [upd_ne (ne_of hc hod4 (by intro z; cases z))]; exact hc⟩) pa
    · rintro σ H1 ⟨v2, v3, xs, rfl, s1, hod, px, hxl⟩
      rw [List.length_map, List.take_of_length_le (Nat.le_refl _)] at px
      exact ⟨_, rfl, k H1 od xs s1 fod hod px⟩
theorem ok_ordersOf (d : Def K mg "orders_of" sOrdersOf ["things"]) (B : Blt mg) : ∀ m : Nat, FnOk P w K mg base CX0 (m + 1) d.f d.fd ["things"] (spOrdersOf K m)
  | 0 => ok_ordersOf0 d B
  | m + 1 => ok_ordersOfS d B (ok_ordersOf d B m)
theorem sc_steps_of : FnScope ["order", "pairs"] ["order", "pairs"] (defScope sStepsOf) := ⟨rfl, rfl, rfl, by decide +kernel, rfl, by decide +kernel, by decide +kernel⟩
theorem ok_stepsOf (d : Def K mg "steps_of" sStepsOf ["order", "pairs"]) (dA : Def K mg "lead_among" sLeadAmong ["voters", "one", "other"]) (GA : FnOk P w K mg base CX0 1 dA.f dA.fd ["voters", "one", "other"] (spAmong K)) : FnOk P w K mg base CX0 2 d.f d.fd ["order", "pairs"] (spStepsOf K) := by
  refine d.F.ok sc_steps_of (fun vs H Q E h => ?_) (fun cdv A outer s H vs Q E hr h => ?_)
  · obtain ⟨p, b, o, B, rfl, _⟩ := h
    rfl
  · obtain ⟨p, b, o, Bs, rfl, hp, ⟨bs, hb, pb⟩, h36, hm, k⟩ := h
    refine ⟨_, pss_one (ps_ret (pe_comp (ts := ["one", "other"]) (fs := [(0, "order")]) rfl (by exact .mk' rfl (by rfl) ⟨rfl, rfl, trivial⟩) (pi_list (pv 1))
          (by intros; exact pg_tup rfl (pgs_cons (pg_name (i := 0) (show (["one", "other", "order"] : List Str).Nodup by decide +kernel) rfl (Or.inl rfl)) (pgs_cons (pg_name (i := 1) (show (["one", "other", "order"] : List Str).Nodup by decide +kernel) rfl (Or.inl rfl)) pgs_nil)))
          (by intros; exact pts_nil)
          (by intros; exact (pe_call GA (hr.mono (by decide)) (by rfl) dA.mgf dA.F.kp dA.b .nil pass0 (pa_cons (pe_lst (pa_cons (pv 2) pa_nil)) (pa_cons (pv 0) (pa_cons (pv 1) pa_nil))))))), ?_⟩
    have hbl := Paired.length pb
    refine ⟨_, rfl, b, rfl, ⟨_, hb⟩, fun l fl => comp_list' (xs := bs) (fun i acc H' => Same H H' ∧ H' l = some (.lst acc) ∧ acc = ((Bs.take i).map fun c => leadM [o] c.1 c.2).map V.int)
      ⟨same_upd fl, upd_same, rfl⟩ (fun i acc H' _ ⟨z1, z2, _⟩ => ⟨z1.seq hb, z2⟩) ?_ ?_⟩
    · rintro i x acc H1 hi hlt ⟨s1, hl1, hacc⟩
      obtain ⟨c, hc, q, rfl, hq⟩ := paired_get pb hi
      have hcm := hm c (List.mem_of_getElem? hc)
      refine ⟨small1000 (by rw [hacc, List.length_map, List.length_map, List.length_take]; (first | lia | omega)), q, _, rfl, SqT.of (s1 _ _ hq), rfl, _, _, rfl, _, _, rfl, rfl, ⟨rfl, rfl⟩, tYes_mk ?_⟩
      refine ⟨_, rfl, sz1, fun v fv => ?_⟩
      have t2 := same_upd (o := .lst [.ref p]) fv
      refine ⟨_, rfl, _, rfl, v, [o], c.1, c.2, rfl, ⟨[.ref p], SqL.of upd_same, .cons ⟨p, rfl, (s1.trans t2) _ _ hp⟩ .nil⟩, fun o' ho' => by rw [List.mem_singleton.mp ho']; exact hcm, by show 1 ≤ 1000; decide, fun H3 s3 => ?_⟩
      have s13 := t2.trans s3
      refine ⟨s13 _ _ hl1, Nx.mk hlt ⟨same_upd' (s1.trans s13) fl, upd_same, ?_⟩⟩
      rw [List.take_add_one, hc, List.map_append, List.map_append, hacc]
      rfl
    · rintro acc H1 ⟨s1, hl1, hacc⟩
      rw [List.take_of_length_le (by (first | lia | omega))] at hacc
      subst hacc
      exact k H1 l s1 fl hl1
theorem FnOk.ex {ι : Type} {CX : CXT} {j : Nat} {f : Addr} {fd : FuncData} {ps : List Str} {sp : ι → Sp} {p : ι → Prop} (F : ∀ i, p i → FnOk P w K mg base CX j f fd ps (sp i)) : FnOk P w K mg base CX j f fd ps (fun vs H Q E => ∃ i, p i ∧ sp i vs H Q E) :=
  ⟨fun vs H Q E ⟨i, hi, h⟩ => (F i hi).len vs H Q E h, fun A outer s H args us vs Q E hr e0 hb r ⟨i, hi, h⟩ => (F i hi).run A outer s H args us vs Q E hr e0 hb r h⟩
theorem sc_fewest : FnScope ["many", "web", "pairs", "wishes", "orders", "steps", "size", "places"] ["many", "web"] (defScope sFewest) := ⟨rfl, rfl, rfl, by decide +kernel, rfl, by decide +kernel, by decide +kernel⟩
theorem ok_fewest (d : Def K mg "fewest" sFewest ["many", "web"]) (B : Blt mg) (G4 : Glob4 mg) (dW : Def K mg "check_web" sCheckWeb ["many", "web"]) (GW : FnOk P w K mg base CX0 2 dW.f dW.fd ["many", "web"] (spCheckWeb K))
    (dP' : Def K mg "pairs_of" sPairsOf ["many"]) (GP : FnOk P w K mg base CX0 1 dP'.f dP'.fd ["many"] spPairs)
    (dWi : Def K mg "wish_of" sWishOf ["web", "one", "other"]) (GWi : FnOk P w K mg base CX0 1 dWi.f dWi.fd ["web", "one", "other"] (spWishG K))
    (dOo : Def K mg "orders_of" sOrdersOf ["things"]) (GOo' : ∀ m : Nat, FnOk P w K mg base CX0 (m + 1) dOo.f dOo.fd ["things"] (spOrdersOf K m))
    (dSt : Def K mg "steps_of" sStepsOf ["order", "pairs"]) (GSt : FnOk P w K mg base CX0 2 dSt.f dSt.fd ["order", "pairs"] (spStepsOf K))
    (dPl : Def K mg "places_of_voters" sPlaces ["steps", "wishes", "leads", "left", "first"]) (GPl' : ∀ k : Nat, k ≤ 100 → FnOk P w K mg base CX0 (2 + k) dPl.f dPl.fd ["steps", "wishes", "leads", "left", "first"] (spPlaces K k)) : FnOk P w K mg base CX0 15 d.f d.fd ["many", "web"] (spFewest K) := by
  have GOo := FnOk.ex (p := fun m => m ≤ 4) fun m hm => (GOo' m).mono (k := 5) (by (first | lia | omega))
  have GPl := FnOk.ex (p := fun k => k ≤ 12) fun k hk => (GPl' k (by (first | lia | omega))).mono (k := 14) (by (first | lia | omega))
  refine d.F.ok sc_fewest (fun vs H Q E h => ?_) (fun cdv A outer s H vs Q E hr h => ?_)
  · obtain ⟨n, b, W, rfl, _⟩ := h
    rfl
  · obtain ⟨n, b, W, rfl, h1, h4, hW, g, k⟩ := h
    obtain ⟨t4, hm4⟩ := G4.most
    refine ⟨_, pss_cons (ps_expr (pe_call GW (hr.mono (by decide)) (by rfl) dW.mgf dW.F.kp dW.b .nil pass0 (pa_cons (pv 0) (pa_cons (pv 1) pa_nil))))
      (pss_cons (ps_if (pt_cmpR op_gt (pv 0) (pe_glob (v := .int 4) (by rfl) hm4 ⟨t4, rfl⟩) (nomark _)) pss_never pss_nil)
      (pss_cons (ps_set (i := 2) sc_fewest.nd rfl (Or.inr rfl) (pe_call GP (hr.mono (by decide)) (by rfl) dP'.mgf dP'.F.kp dP'.b .nil pass0 (pa_cons (pv 0) pa_nil)))
      (pss_cons (ps_setC (i := 3) (ts := ["one", "other"]) (fs := [(1, "web")]) sc_fewest.nd rfl (Or.inl rfl) rfl (by exact .mk' rfl (by rfl) ⟨rfl, rfl, trivial⟩) (pi_list (pv 2))
          (by intros; exact pg_tup rfl (pgs_cons (pg_name (i := 0) (show (["one", "other", "web"] : List Str).Nodup by decide +kernel) rfl (Or.inl rfl)) (pgs_cons (pg_name (i := 1) (show (["one", "other", "web"] : List Str).Nodup by decide +kernel) rfl (Or.inl rfl)) pgs_nil)))
          (by intros; exact pts_nil)
          (by intros; exact (pe_call GWi (hr.mono (by decide)) (by rfl) dWi.mgf dWi.F.kp dWi.b .nil pass0 (pa_cons (pv 2) (pa_cons (pv 0) (pa_cons (pv 1) pa_nil))))))
      (pss_cons (ps_set (i := 4) sc_fewest.nd rfl (Or.inr rfl) (pe_call GOo (hr.mono (by decide)) (by rfl) dOo.mgf dOo.F.kp dOo.b .nil pass0 (pa_cons (pe_callTy (call_list_rng rfl) (by rfl) B.list PyProof.Rows.boot_list (pa_cons (pe_callTy call_range (by rfl) B.range PyProof.Rows.boot_range (pa_cons (pv 0) pa_nil)) pa_nil)) pa_nil)))
      (pss_cons (ps_setC (i := 5) (ts := ["order"]) (fs := [(2, "pairs")]) sc_fewest.nd rfl (Or.inl rfl) rfl (by exact .mk' rfl (by rfl) ⟨rfl, rfl, trivial⟩) (pi_list (pv 4))
          (by intros; exact pg_name (i := 0) (show (["order", "pairs"] : List Str).Nodup by decide +kernel) rfl (Or.inl rfl))
          (by intros; exact pts_nil)
          (by intros; exact (pe_call GSt (hr.mono (by decide)) (by rfl) dSt.mgf dSt.F.kp dSt.b .nil pass0 (pa_cons (pv 0) (pa_cons (pv 1) pa_nil)))))
      (pss_cons (ps_set (i := 6) sc_fewest.nd rfl (Or.inl rfl) pe_int)
      (pss_cons (ps_set (i := 7) sc_fewest.nd rfl (Or.inl rfl) pe_non)
      (pss_cons (ps_while PassesOwn.never (pt_cmpR op_isN (pv 7) pe_non (nomark _))
        (pss_cons (ps_set (i := 7) sc_fewest.nd rfl (Or.inl rfl) (pe_call GPl hr (by rfl) dPl.mgf dPl.F.kp dPl.b .nil pass0 (pa_cons (pv 5) (pa_cons (pv 3) (pa_cons (pe_comp (ts := ["wish"]) (fs := []) rfl (by exact .mk' rfl (by rfl) trivial) (pi_list (pv 3))
          (by intros; exact pg_name (i := 0) (show (["wish"] : List Str).Nodup by decide +kernel) rfl (Or.inl rfl))
          (by intros; exact pts_nil)
          (by intros; exact pe_int)) (pa_cons (pv 6) (pa_cons pe_int pa_nil)))))))
        (pss_one (ps_aug (i := 6) sc_fewest.nd rfl (Or.inl rfl) pe_int ip_add))))
      (pss_one (ps_ret (pe_comp (ts := ["place"]) (fs := [(4, "orders")]) rfl (by exact .mk' rfl (by rfl) ⟨rfl, rfl, trivial⟩) (pi_list (pv 7))
          (by intros; exact pg_name (i := 0) (show (["place", "orders"] : List Str).Nodup by decide +kernel) rfl (Or.inl rfl))
          (by intros; exact pts_nil)
          (by intros; exact (pe_ix ix_list (pv 1) (pv 0) (fun _ _ => rfl)))))))))))))), ?_⟩
    refine ⟨_, rfl, _, rfl, n, b, W, rfl, h1, by (first | lia | omega), hW, g, fun H0 s0 => ?_⟩
    refine ⟨_, rfl, _, _, rfl, rfl, _, rfl, iteN (by (first | lia | omega)) ?_⟩
    refine ⟨_, rfl, n, rfl, by (first | lia | omega), by (first | lia | omega), fun H1 pa pxs s1 fpa hpa ppx => ?_⟩
    have s01 := s0.trans s1
    have h36 := pairs_len (n := n) (by (first | lia | omega))
    have hpl := Paired.length ppx
    -- wishes
    refine ⟨_, rfl, pa, rfl, ⟨_, SqL.of hpa⟩, fun wl fwl => comp_list' (xs := pxs) (fun i acc H' => Same H1 H' ∧ H' wl = some (.lst acc) ∧ acc = (((pairsM n).take i).map fun c => netM W c.1 c.2).map V.int)
      ⟨same_upd fwl, upd_same, rfl⟩ (fun i acc H' _ ⟨z1, z2, _⟩ => ⟨SqL.of (z1 _ _ hpa), z2⟩) ?_ ?_⟩
    · rintro i x acc H2 hi hlt ⟨s2, hl2, hacc⟩
      obtain ⟨c, hc, q, rfl, hq⟩ := paired_get ppx hi
      refine ⟨small1000 (by rw [hacc, List.length_map, List.length_map, List.length_take]; (first | lia | omega)), q, _, rfl, SqT.of (s2 _ _ hq), rfl, _, _, rfl, _, _, rfl, rfl, ⟨rfl, rfl⟩, tYes_mk ?_⟩
      refine ⟨_, rfl, _, rfl, _, rfl, b, W, c.1, c.2, rfl, hW.same (s01.trans s2), fun z => g.asym _ z, fun H3 s3 => ?_⟩
      refine ⟨s3 _ _ hl2, Nx.mk hlt ⟨same_upd' (s2.trans s3) fwl, upd_same, ?_⟩⟩
      rw [List.take_add_one, hc, List.map_append, List.map_append, hacc]
      rfl
    rintro acc H2 ⟨s2, hwl, hacc⟩
    rw [List.take_of_length_le (by (first | lia | omega))] at hacc
    have hacc' : acc = (wishM n W).map V.int := hacc
    subst hacc'
    clear hacc
    have s02 := s01.trans s2
    -- orders
    refine ⟨_, rfl, n, rfl, fun rg frg => ⟨rg, 0, n, rfl, upd_same, ⟨by (first | lia | omega), by (first | lia | omega), by (first | lia | omega), by (first | lia | omega)⟩, by (first | lia | omega), fun lr flr => ?_⟩⟩
    rw [things_eq]
    have t3 := (same_upd (o := .rng 0 n) frg).trans (same_upd (o := .lst ((rangeI n).map V.int)) flr)
    refine ⟨n.toNat, by (first | lia | omega), lr, rangeI n, rfl, SqL.of upd_same, rangeK_len _, by (first | lia | omega), rangeI_nodup n, fun H3 oa os s3 foa hoa po => ?_⟩
    have s23 := t3.trans s3
    have hOm : ∀ o, o ∈ permsM n.toNat (rangeI n) ↔ o.Perm (rangeI n) := fun o => perms_mem (rangeI_nodup n) (rangeK_len _)
    have hOl : (permsM n.toNat (rangeI n)).length ≤ 256 := by
      have e := rangeK_len n.toNat
      refine Nat.le_trans (perms_len (by show (rangeK n.toNat).length ≤ 4; (first | lia | omega))) ?_
      exact Nat.pow_le_pow_right (by decide) (show n.toNat ≤ 4 by (first | lia | omega))
    generalize hO : permsM n.toNat (rangeI n) = O at po hOm hOl
    have hol := Paired.length po
    have s03 := s02.trans s23
    have hpa3 := (s2.trans s23) _ _ hpa
    have ppx3 := pd_same (dP_same (s2.trans s23)) ppx
    have hwl3 := s23 _ _ hwl
    -- steps
    refine ⟨_, rfl, oa, rfl, ⟨_, SqL.of hoa⟩, fun sl fsl => comp_list' (xs := os) (fun i acc H' => Same H3 H' ∧ H' sl = some (.lst acc) ∧ Paired (dIx sl H') ((O.take i).map fun o => leadsM n [o]) acc ∧ acc.length = i)
      ⟨same_upd fsl, upd_same, .nil, rfl⟩ (fun i acc H' _ ⟨z1, z2, _⟩ => ⟨SqL.of (z1 _ _ hoa), z2⟩) ?_ ?_⟩
    · rintro i x acc H4 hi hlt ⟨s4, hl4, pa4, hal⟩
      obtain ⟨o, ho, q, rfl, hq⟩ := paired_get po hi
      have hop := (hOm o).mp (List.mem_of_getElem? ho)
      refine ⟨small1000 (by (first | lia | omega)), ⟨rfl, rfl⟩, tYes_mk ?_⟩
      refine ⟨_, rfl, _, rfl, q, pa, o, pairsM n, rfl, s4 _ _ hq, ⟨pxs, SqL.of (s4 _ _ hpa3), pd_same (dP_same s4) ppx3⟩, h36, fun c hc => ?_, fun H5 l s5 fl hl => ?_⟩
      · have hm := pairs_mem (x := c.1) (y := c.2).mp hc
        exact ⟨hop.mem_iff.mpr hm.1, hop.mem_iff.mpr hm.2.1⟩
      · have hl5 := s5 _ _ hl4
        have nel : l ≠ sl := fun e => by rw [e, hl4] at fl; cases fl
        refine ⟨hl5, Nx.mk hlt ⟨same_upd' (s4.trans s5) fsl, upd_same, ?_, by rw [List.length_append, List.length_singleton]; (first | lia | omega)⟩⟩
        rw [List.take_add_one, ho, List.map_append]
        exact pd_append (pd_same (fun _ _ ⟨c, e, ne, hc⟩ => ⟨c, e, ne, by rw [upd_ne ne]; exact s5 _ _ hc⟩) pa4) (.cons ⟨l, rfl, nel, by rw [upd_ne nel]; exact hl⟩ .nil)
    rintro acc H4 ⟨s4, hsl, psl0, hal⟩
    rw [List.take_of_length_le (by (first | lia | omega))] at psl0
    have psl : Paired (dI H4) (stepsM n O) acc := Paired.mapP psl0 fun _ _ ⟨p, e, _, h⟩ => ⟨p, e, h⟩
    have s04 := s03.trans s4
    have hwl4 := s4 _ _ hwl3
    have hoa4 := s4 _ _ hoa
    have po4 := pd_same (dT_same s4) po
    have hwlen : (wishM n W).length = (pairsM n).length := List.length_map _
    have hllen : (leadsM n []).length = (pairsM n).length := List.length_map _
    have hU : Units (stepsM n O) (wishM n W).length := fun s hs => by
      obtain ⟨o, _, rfl⟩ := List.mem_map.mp hs
      exact ⟨by rw [hwlen]; exact List.length_map _, unit_leads⟩
    have hSl : (stepsM n O).length ≤ 500 := by unfold stepsM; rw [List.length_map]; (first | lia | omega)
    obtain ⟨ps0, hps0⟩ := sol_of hOm g (due_ords g) (due_web g)
    rw [due_len] at hps0
    have hWl := web_len h1 h4 g
    -- size, places
    refine ⟨fun m σ H' => ∃ (sz : Nat) (v7 : V), σ = [some (.int n), some (.ref b), some (.ref pa), some (.ref wl), some (.ref oa), some (.ref sl), some (.int (sz : Int)), some v7] ∧ Same H4 H' ∧
      ((v7 = .non ∧ m = 2 * W.length + 1 - sz ∧ ∀ j < sz, ∀ ps, ¬ Sol (stepsM n O) (wishM n W) j (leadsM n []) 0 ps) ∨ (∃ (ps : List Nat) (p : Addr) (j : Nat), v7 = .ref p ∧ H' p = some (.lst (ps.map natV)) ∧ Sol (stepsM n O) (wishM n W) j (leadsM n []) 0 ps ∧ ∀ i < j, ∀ ps, ¬ Sol (stepsM n O) (wishM n W) i (leadsM n []) 0 ps)),
      ⟨_, 0, .non, rfl, Same.refl _, .inl ⟨rfl, rfl, fun j z => absurd z (Nat.not_lt_zero _)⟩⟩, ?_⟩
    rintro m σ H5 ⟨sz, v7, rfl, s5, hcase⟩
    refine ⟨_, rfl, rfl, _, rfl, ?_⟩
    rcases hcase with ⟨rfl, hm, hno⟩ | ⟨ps, p, j, rfl, hp, hsol, hno⟩
    · have hsz : sz ≤ 2 * W.length := Classical.byContradiction fun z => hno _ (by (first | lia | omega)) _ hps0
      refine iteP rfl ?_
      refine ⟨fun σ' H' => ∃ (v7 : V), σ' = [some (.int n), some (.ref b), some (.ref pa), some (.ref wl), some (.ref oa), some (.ref sl), some (.int ((sz + 1 : Nat) : Int)), some v7] ∧ Same H4 H' ∧
        ((v7 = .non ∧ ∀ j < sz + 1, ∀ ps, ¬ Sol (stepsM n O) (wishM n W) j (leadsM n []) 0 ps) ∨ (∃ (ps : List Nat) (p : Addr) (j : Nat), v7 = .ref p ∧ H' p = some (.lst (ps.map natV)) ∧ Sol (stepsM n O) (wishM n W) j (leadsM n []) 0 ps ∧ ∀ i < j, ∀ ps, ¬ Sol (stepsM n O) (wishM n W) i (leadsM n []) 0 ps)), fun σ' H' z => ?_, ?_⟩
      · obtain ⟨v7, rfl, z1, z2 | z2⟩ := z
        · exact ⟨2 * W.length + 1 - (sz + 1), by (first | lia | omega), sz + 1, v7, rfl, z1, .inl ⟨z2.1, rfl, z2.2⟩⟩
        · exact ⟨0, by (first | lia | omega), sz + 1, v7, rfl, z1, .inr z2⟩
      have ez : (sz : Int) + 1 = ((sz + 1 : Nat) : Int) := by (first | lia | omega)
      refine ⟨_, rfl, _, rfl, _, rfl, wl, rfl, ⟨_, SqL.of (s5 _ _ hwl4)⟩, fun zl fzl => comp_list' (xs := (wishM n W).map V.int) (fun i acc H' => Same H5 H' ∧ H' zl = some (.lst acc) ∧ acc = (((pairsM n).take i).map fun c => leadM [] c.1 c.2).map V.int)
        ⟨same_upd fzl, upd_same, rfl⟩ (fun i acc H' _ ⟨z1, z2, _⟩ => ⟨SqL.of ((s5.trans z1) _ _ hwl4), z2⟩) ?_ ?_⟩
      · rintro i x acc H6 hi hlt ⟨s6, hl6, hacc⟩
        rw [List.length_map, hwlen] at hlt
        refine ⟨small1000 (by rw [hacc, List.length_map, List.length_map, List.length_take]; (first | lia | omega)), ⟨rfl, rfl⟩, tYes_mk ?_⟩
        refine ⟨hl6, Nx.mk (by rw [List.length_map, hwlen]; exact hlt) ⟨same_upd' s6 fzl, upd_same, ?_⟩⟩
        rw [List.take_add_one, List.getElem?_eq_getElem hlt, List.map_append, List.map_append, hacc]
        rfl
      rintro acc' H6 ⟨s6, hzl, hacc'⟩
      rw [List.length_map, hwlen, List.take_of_length_le (Nat.le_refl _)] at hacc'
      have hacc2 : acc' = (leadsM n []).map V.int := hacc'
      subst hacc2
      have s56 := s5.trans s6
      refine ⟨_, rfl, sz, by (first | lia | omega), sl, wl, zl, stepsM n O, acc, wishM n W, leadsM n [], 0, vs5 rfl rfl, SqL.of (s56 _ _ hsl), pd_same (dI_same s56) psl, SqL.of (s56 _ _ hwl4), SqL.of hzl, hU, wishM_ok g, by (first | lia | omega), by (first | lia | omega), hSl, by (first | lia | omega), fun hnone H7 s7 => ?_, fun ps hs H7 p s7 fp hp => ?_⟩
      · refine ⟨_, rfl, _, _, rfl, rfl, ?_⟩
        refine ⟨.non, by rw [← ez]; rfl, s56.trans s7, .inl ⟨rfl, fun j hj ps => ?_⟩⟩
        by_cases e : j = sz
        · subst e
          exact hnone ps
        · exact hno j (by (first | lia | omega)) ps
      · refine ⟨_, rfl, _, _, rfl, rfl, ?_⟩
        exact ⟨.ref p, by rw [← ez]; rfl, s56.trans s7, .inr ⟨ps, p, sz, rfl, hp, hs, hno⟩⟩
    · refine iteN (fun z => by cases z) ?_
      obtain ⟨o1, o2, o3⟩ := sol_out hsol
      rw [List.nil_append] at o3
      have hOrd := sol_ords hOm o2
      have hB := (reach_web hOrd g).mp o3
      have hMin : ∀ M, Ords n M → beatsC n M = webC n W → (ps.map (atO O)).length ≤ M.length := fun M hM hb => by
        obtain ⟨qs, hq⟩ := sol_of hOm g hM hb
        rw [List.length_map, o1]
        exact Classical.byContradiction fun z => hno _ (by (first | lia | omega)) _ hq
      have h12 : ps.length ≤ 12 := by
        have := hMin _ (due_ords g) (due_web g)
        rw [due_len, List.length_map] at this
        (first | lia | omega)
      refine ⟨_, rfl, p, rfl, ⟨_, SqL.of hp⟩, fun rl frl => comp_list' (xs := ps.map natV) (fun i acc H' => Same H5 H' ∧ H' rl = some (.lst acc) ∧ Paired (dT H4) ((ps.take i).map (atO O)) acc ∧ acc.length = i)
        ⟨same_upd frl, upd_same, .nil, rfl⟩ (fun i acc H' _ ⟨z1, z2, _⟩ => ⟨SqL.of (z1 _ _ hp), z2⟩) ?_ ?_⟩
      · rintro i x acc H6 hi hlt ⟨s6, hl6, pa6, hal6⟩
        rw [List.length_map] at hlt
        rw [List.getElem?_map] at hi
        have e0 : ps[i]? = some ps[i] := List.getElem?_eq_getElem hlt
        rw [e0] at hi
        cases hi
        have hpi := o2 ps[i] (List.getElem_mem hlt)
        obtain ⟨y, hy⟩ : ∃ y, os[ps[i]]? = some y := ⟨os[ps[i]]'(by (first | lia | omega)), List.getElem?_eq_getElem _⟩
        obtain ⟨o, ho, q, rfl, hq⟩ := paired_get po4 hy
        have ha : atO O ps[i] = o := by unfold atO; rw [List.getD_eq_getElem?_getD, ho]; rfl
        refine ⟨small1000 (by (first | lia | omega)), ⟨rfl, rfl⟩, tYes_mk ?_⟩
        refine ⟨_, rfl, _, rfl, oa, os, _, .ref q, rfl, rfl, SqL.of ((s5.trans s6) _ _ hoa4), atI_nat hy, ?_⟩
        refine ⟨hl6, Nx.mk (by rw [List.length_map]; exact hlt) ⟨same_upd' s6 frl, upd_same, ?_, by rw [List.length_append, List.length_singleton]; (first | lia | omega)⟩⟩
        rw [List.take_add_one, e0, List.map_append]
        exact pd_append pa6 (.cons (by rw [ha]; exact ⟨q, rfl, hq⟩) .nil)
      rintro acc' H6 ⟨s6, hrl, pr, hrl6⟩
      rw [List.length_map, List.take_of_length_le (Nat.le_refl _)] at pr
      exact k H6 rl acc' (ps.map (atO O)) ((s04.trans s5).trans s6) ((s04.trans s5).free frl) hrl (pd_same (dT_same (s5.trans s6)) pr) hOrd hB hMin (by rw [List.length_map]; exact h12)
end
end Bm
namespace Bm
noncomputable def codeV : List Nat → Nat
  | [] => 0
  | a :: r => a + 5 * codeV r
theorem code_inj : ∀ {x y : List Nat}, x.length = y.length → (∀ a ∈ x, a < 5) → (∀ a ∈ y, a < 5) → codeV x = codeV y → x = y
  | [], [], _, _, _, _ => rfl
  | a :: x, b :: y, hl, hx, hy, h => by
    have h1 := hx a List.mem_cons_self
    have h2 := hy b List.mem_cons_self
    have h' : a + 5 * codeV x = b + 5 * codeV y := h
    have e1 : a = b := by (first | lia | omega)
    have e2 : codeV x = codeV y := by (first | lia | omega)
    rw [e1, code_inj (by simpa using hl) (fun a z => hx a (List.mem_cons_of_mem _ z)) (fun a z => hy a (List.mem_cons_of_mem _ z)) e2]
theorem code_lt : ∀ {x : List Nat}, (∀ a ∈ x, a < 5) → codeV x < 5 ^ x.length
  | [], _ => Nat.one_pos
  | a :: x, h => by
    have h1 := h a List.mem_cons_self
    have h2 := code_lt fun a z => h a (List.mem_cons_of_mem x.head! z |> fun _ => List.mem_cons_of_mem _ z)
    show a + 5 * codeV x < 5 ^ (x.length + 1)
    rw [Nat.pow_succ]
    (first | lia | omega)
theorem code_add {α : Type} (f g : α → Nat) : ∀ l : List α, codeV (l.map fun b => f b + g b) = codeV (l.map f) + codeV (l.map g)
  | [] => rfl
  | b :: l => by
    show (f b + g b) + 5 * codeV _ = (f b + 5 * codeV _) + (g b + 5 * codeV _)
    rw [code_add f g l]
    (first | lia | omega)
noncomputable def cntV (n : Int) (L : List (List Int)) : List Nat := (pairsM n).map fun b => (L.filter (before b.1 b.2)).length
theorem cnt_cons (n : Int) (o : List Int) (L : List (List Int)) : codeV (cntV n (o :: L)) = codeV (cntV n [o]) + codeV (cntV n L) := by
  unfold cntV
  rw [← code_add]
  congr 1
  refine List.map_congr_left fun b _ => ?_
  rw [List.filter_cons, List.filter_cons]
  by_cases z : before b.1 b.2 o = true
  · rw [if_pos z, if_pos z, List.length_cons, List.length_cons]
    show _ = 0 + 1 + _
    (first | lia | omega)
  · rw [if_neg z, if_neg z]
    exact (Nat.zero_add _).symm
theorem cnt_le {n : Int} {L : List (List Int)} {c : Nat} (h : L.length ≤ c) : ∀ a ∈ cntV n L, a ≤ c := fun a ha => by
  obtain ⟨b, _, rfl⟩ := List.mem_map.mp ha
  exact Nat.le_trans (List.length_filter_le _ _) h
theorem leads_cnt {n : Int} {L M : List (List Int)} (hl : L.length = M.length) (h : cntV n L = cntV n M) : leadsM n L = leadsM n M := by
  unfold leadsM
  refine List.map_congr_left fun b hb => ?_
  unfold leadM
  have : (L.filter (before b.1 b.2)).length = (M.filter (before b.1 b.2)).length := by
    unfold cntV at h
    exact List.map_inj_left.mp h b hb
  rw [this, hl]
noncomputable def bitsN (n : Int) : Nat → Nat
  | 0 => 1
  | c + 1 => (ordersM n n.toNat).foldl (fun acc o => acc ||| (bitsN n c <<< codeV (cntV n [o]))) 0
theorem fold_or {α : Type} (f : α → Nat) (i : Nat) : ∀ (l : List α) (a : Nat), (Nat.testBit a i = true ∨ ∃ x ∈ l, Nat.testBit (f x) i = true) → Nat.testBit (l.foldl (fun acc x => acc ||| f x) a) i = true
  | [], a, h => by
    rcases h with h | ⟨x, hx, _⟩
    · exact h
    · cases hx
  | y :: l, a, h => by
    rw [List.foldl_cons]
    refine fold_or f i l _ ?_
    rcases h with h | ⟨x, hx, h⟩
    · exact .inl (by rw [Nat.testBit_or, h]; rfl)
    · rcases List.mem_cons.mp hx with rfl | hx
      · exact .inl (by rw [Nat.testBit_or, h, Bool.or_true])
      · exact .inr ⟨x, hx, h⟩
theorem bits_mem {n : Int} (hC : ∀ o : List Int, o.Perm (rangeI n) → o ∈ ordersM n n.toNat) : ∀ {L : List (List Int)}, Ords n L → Nat.testBit (bitsN n L.length) (codeV (cntV n L)) = true
  | [], _ => by
    have : codeV (cntV n []) = 0 := by
      unfold cntV
      generalize pairsM n = l
      induction l with
      | nil => rfl
      | cons b l ih =>
        show 0 + 5 * codeV (l.map _) = 0
        rw [ih]
    rw [this]
    show Nat.testBit 1 0 = true
    decide
  | o :: L, h => by
    rw [cnt_cons]
    refine fold_or _ _ _ _ (.inr ⟨o, hC o (h o List.mem_cons_self), ?_⟩)
    rw [Nat.testBit_shiftLeft, Nat.add_sub_cancel_left, bits_mem hC fun o ho => h o (List.mem_cons_of_mem _ ho)]
    simp
noncomputable def cntB (S : Nat) : Nat → Nat → Nat
  | lo, 0 => if Nat.testBit S lo then 1 else 0
  | lo, k + 1 => cntB S lo k + cntB S (lo + 2 ^ k) k
theorem cntB_le (S : Nat) : ∀ (k lo : Nat) (l : List Nat), l.Nodup → (∀ x ∈ l, lo ≤ x ∧ x < lo + 2 ^ k ∧ Nat.testBit S x = true) → l.length ≤ cntB S lo k
  | 0, lo, l, hn, h => by
    match l, hn, h with
    | [], _, _ => exact Nat.zero_le _
    | [x], _, h =>
      obtain ⟨a, b, c⟩ := h x List.mem_cons_self
      have : x = lo := by simp at b; (first | lia | omega)
      subst this
      show 1 ≤ if Nat.testBit S x = true then 1 else 0
      rw [if_pos c]
      exact Nat.le_refl _
    | x :: y :: l, hn, h =>
      obtain ⟨a, b, _⟩ := h x List.mem_cons_self
      obtain ⟨a', b', _⟩ := h y (List.mem_cons_of_mem _ List.mem_cons_self)
      simp at b b'
      have e : x = y := by (first | lia | omega)
      rw [e, List.nodup_cons] at hn
      exact absurd List.mem_cons_self hn.1
  | k + 1, lo, l, hn, h => by
    have e : 2 ^ (k + 1) = 2 ^ k + 2 ^ k := by rw [Nat.pow_succ]; (first | lia | omega)
    have h1 := cntB_le S k lo (l.filter fun x => decide (x < lo + 2 ^ k)) (hn.filter _) fun x hx => by
      obtain ⟨hx, z⟩ := List.mem_filter.mp hx
      exact ⟨(h x hx).1, of_decide_eq_true z, (h x hx).2.2⟩
    have h2 := cntB_le S k (lo + 2 ^ k) (l.filter fun x => !decide (x < lo + 2 ^ k)) (hn.filter _) fun x hx => by
      obtain ⟨hx, z⟩ := List.mem_filter.mp hx
      have z' : ¬ x < lo + 2 ^ k := by simpa using z
      have := (h x hx).2.1
      exact ⟨by (first | lia | omega), by (first | lia | omega), (h x hx).2.2⟩
    have h3 : l.length = (l.filter fun x => decide (x < lo + 2 ^ k)).length + (l.filter fun x => !decide (x < lo + 2 ^ k)).length := by
      clear h h1 h2 hn
      induction l with
      | nil => rfl
      | cons x l ih =>
        rw [List.filter_cons, List.filter_cons]
        cases decide (x < lo + 2 ^ k) <;> simp <;> (first | lia | omega)
    show l.length ≤ cntB S lo k + cntB S (lo + 2 ^ k) k
    (first | lia | omega)
noncomputable def RowOf (n : Int) (c : Nat) (r : List Int) : Prop := ∃ L, Ords n L ∧ L.length = c ∧ r = leadsM n L
theorem bits_few3 {n : Int} (h1 : 1 ≤ n) (h3 : n ≤ 3) {c : Nat} (hc : c ≤ 4) : cntB (bitsN n c) 0 7 ≤ 4914 := by
  have hn : n = 1 ∨ n = 2 ∨ n = 3 := by (first | lia | omega)
  have hc' : c = 0 ∨ c = 1 ∨ c = 2 ∨ c = 3 ∨ c = 4 := by (first | lia | omega)
  rcases hn with rfl | rfl | rfl <;> rcases hc' with rfl | rfl | rfl | rfl | rfl <;> decide +kernel
theorem bits_few4 {c : Nat} (hc : c ≤ 4) : cntB (bitsN 4 c) 0 14 ≤ 4914 := by
  have hc' : c = 0 ∨ c = 1 ∨ c = 2 ∨ c = 3 ∨ c = 4 := by (first | lia | omega)
  rcases hc' with rfl | rfl | rfl | rfl | rfl <;> decide +kernel
noncomputable def codeR (c : Nat) (r : List Int) : Nat := codeV (r.map fun (x : Int) => ((x + (c : Int)) / 2).toNat)
theorem codeR_leads {n : Int} {L : List (List Int)} : codeR L.length (leadsM n L) = codeV (cntV n L) := by
  unfold codeR leadsM cntV
  rw [List.map_map]
  congr 1
  refine List.map_congr_left fun b _ => ?_
  show ((leadM L b.1 b.2 + (L.length : Int)) / 2).toNat = _
  unfold leadM
  (first | lia | omega)
theorem pairs_few {n : Int} (h1 : 1 ≤ n) (h4 : n ≤ 4) : (n ≤ 3 ∧ (pairsM n).length ≤ 3) ∨ (n = 4 ∧ (pairsM n).length ≤ 6) := by
  have hn : n = 1 ∨ n = 2 ∨ n = 3 ∨ n = 4 := by (first | lia | omega)
  rcases hn with rfl | rfl | rfl | rfl
  · exact .inl ⟨by decide, by decide +kernel⟩
  · exact .inl ⟨by decide, by decide +kernel⟩
  · exact .inl ⟨by decide, by decide +kernel⟩
  · exact .inr ⟨rfl, by decide +kernel⟩
theorem rows_few {n : Int} (h1 : 1 ≤ n) (h4 : n ≤ 4) {c : Nat} (hc : c ≤ 4) (hC : ∀ o : List Int, o.Perm (rangeI n) → o ∈ ordersM n n.toNat) : ∀ l : List (List Int), l.Nodup → (∀ r ∈ l, RowOf n c r) → l.length ≤ 4914 := by
  intro l hn hr
  have small : ∀ L : List (List Int), L.length = c → ∀ a ∈ cntV n L, a < 5 := fun L e a ha => by
    have := cnt_le (n := n) (L := L) (c := 4) (by (first | lia | omega)) a ha
    (first | lia | omega)
  have hnd : (l.map (codeR c)).Nodup := by
    rw [List.Nodup, List.pairwise_map]
    refine List.Pairwise.imp_of_mem ?_ hn
    intro a b ha hb hab z
    obtain ⟨L, hO, e, rfl⟩ := hr a ha
    obtain ⟨M, hO', e', rfl⟩ := hr b hb
    have z1 := codeR_leads (n := n) (L := L)
    have z2 := codeR_leads (n := n) (L := M)
    rw [e] at z1
    rw [e'] at z2
    rw [z1, z2] at z
    exact hab (leads_cnt (e.trans e'.symm) (code_inj (by unfold cntV; rw [List.length_map, List.length_map]) (small L e) (small M e') z))
  have hbits : ∀ x ∈ l.map (codeR c), Nat.testBit (bitsN n c) x = true ∧ x < 5 ^ (pairsM n).length := fun x hx => by
    obtain ⟨r, hr', rfl⟩ := List.mem_map.mp hx
    obtain ⟨L, hO, e, rfl⟩ := hr r hr'
    have z1 := codeR_leads (n := n) (L := L)
    have z2 := bits_mem hC hO
    rw [e] at z1 z2
    rw [z1]
    refine ⟨z2, ?_⟩
    have := code_lt (small L e)
    unfold cntV at this ⊢
    rwa [List.length_map] at this
  have hl : l.length = (l.map (codeR c)).length := (List.length_map _).symm
  rw [hl]
  rcases pairs_few h1 h4 with ⟨h3, hp⟩ | ⟨rfl, hp⟩
  · have p5 : 5 ^ (pairsM n).length ≤ 5 ^ 3 := Nat.pow_le_pow_right (by decide) hp
    refine Nat.le_trans (cntB_le (bitsN n c) 7 0 _ hnd fun x hx => ⟨Nat.zero_le _, ?_, (hbits x hx).1⟩) (bits_few3 h1 h3 hc)
    have := (hbits x hx).2
    show x < 0 + 128
    (first | lia | omega)
  · have p5 : 5 ^ (pairsM 4).length ≤ 5 ^ 6 := Nat.pow_le_pow_right (by decide) hp
    refine Nat.le_trans (cntB_le (bitsN 4 c) 14 0 _ hnd fun x hx => ⟨Nat.zero_le _, ?_, (hbits x hx).1⟩) (bits_few4 hc)
    have := (hbits x hx).2
    show x < 0 + 16384
    (first | lia | omega)
end Bm
namespace Bm
open PySem L2
noncomputable def spLeads (K : PySem.W.Frag) : Sp := fun vs H Q _ => ∃ (n : Int) (a : Addr) (L : List (List Int)), vs = [.int n, .ref a] ∧ 1 ≤ n ∧ n ≤ 6 ∧ VAt K H a L ∧ Ords n L ∧ L.length ≤ 100 ∧ ∀ H' p, Same H H' → H p = none → H' p = some (.tup ((leadsM n L).map V.int)) → Q (.ref p) H'
noncomputable def leadsI (n : Int) (L : List (List Int)) (i : Nat) : List Int := ((rangeK i).flatMap (upP n.toNat)).map fun b => leadM L b.1 b.2
theorem leadsI_len {n : Int} (h6 : n ≤ 6) (L : List (List Int)) (i : Nat) : (leadsI n L i).length ≤ i * 6 := by
  unfold leadsI
  rw [List.length_map]
  have := flatMap_len (f := upP n.toNat) (c := 6) (L := rangeK i) fun x _ => by
    unfold upP
    rw [List.length_map]
    have h1 := List.length_filter_le (fun j => !decide (x = j) && decide (x < j)) (rangeK n.toNat)
    rw [rangeK_len] at h1
    (first | lia | omega)
  rw [rangeK_len] at this
  (first | lia | omega)
theorem leadsI_succ (n : Int) (L : List (List Int)) (i : Nat) : leadsI n L (i + 1) = leadsI n L i ++ (List.range (n - ((0 : Int) + (i : Nat) + 1)).toNat).map fun j => leadM L ((0 : Int) + (i : Nat)) ((0 : Int) + (i : Nat) + 1 + (j : Nat)) := by
  unfold leadsI
  rw [rangeK_succ, List.flatMap_append, List.map_append]
  congr 1
  rw [List.flatMap_cons, List.flatMap_nil, List.append_nil, up_eq, List.map_map]
  rw [show n.toNat - (i + 1) = (n - ((0 : Int) + (i : Nat) + 1)).toNat by (first | lia | omega)]
  rfl
section
variable {P : Program} {w : World} {K : PySem.W.Frag} {mg : Str → Option Value} {base : Heap}
theorem sc_law_leads : FnScope ["many", "voters", "found", "one"] ["many", "voters"] (defScope sLeads) := ⟨rfl, rfl, rfl, by decide +kernel, rfl, by decide +kernel, by decide +kernel⟩
theorem ok_lawLeads (d : Def K mg "_law_leads" sLeads ["many", "voters"]) (B : Blt mg) (dL : Def K mg "_law_lead" sLawLead ["voters", "one", "other"]) (GL : FnOk P w K mg base CX0 1 dL.f dL.fd ["voters", "one", "other"] (spAmong K)) : FnOk P w K mg base CX0 2 d.f d.fd ["many", "voters"] (spLeads K) := by
  refine d.F.ok sc_law_leads (fun vs H Q E h => ?_) (fun cdv A outer s H vs Q E hr h => ?_)
  · obtain ⟨n, a, L, rfl, _⟩ := h
    rfl
  · obtain ⟨n, a, L, rfl, h1, h6, hV, hO, hL, k⟩ := h
    refine ⟨_, pss_cons (ps_set (i := 2) sc_law_leads.nd rfl (Or.inl rfl) (pe_lst pa_nil))
      (pss_cons (ps_for PassesOwn.never rfl (pi_range1 (by rfl) B.range (pa_cons (pv 0) pa_nil)) (pg_name (i := 3) sc_law_leads.nd rfl (Or.inr rfl))
        (pss_one (ps_expr (pe_bm PySem.F.plainAttrs_list PySem.F.slot_list_extend PySem.F.type_list_extend mt_extend (pv 2) (pa_cons (pe_comp (ts := ["other"]) (fs := [(1, "voters"), (3, "one")]) rfl (by exact .mk' rfl (by rfl) ⟨rfl, rfl, rfl, rfl, trivial⟩) (pi_range2 (by rfl) B.range (pa_cons (pe_op op_add (pv 3) pe_int) (pa_cons (pv 0) pa_nil)))
          (by intros; exact pg_name (i := 0) (show (["other", "voters", "one"] : List Str).Nodup by decide +kernel) rfl (Or.inl rfl))
          (by intros; exact pts_nil)
          (by intros; exact (pe_call GL (hr.mono (by decide)) (by rfl) dL.mgf dL.F.kp dL.b .nil pass0 (pa_cons (pv 1) (pa_cons (pv 2) (pa_cons (pv 0) pa_nil)))))) pa_nil)))))
      (pss_one (ps_ret (pe_callTy call_tuple_of (by rfl) B.tuple PyProof.Rows.boot_tuple (pa_cons (pv 2) pa_nil))))), ?_⟩
    have small : ∀ {z : Nat}, z ≤ 1000 → z ≤ sizeLine := fun h => Nat.le_of_lt (small1000 h)
    refine ⟨Nat.zero_le _, fun pa fpa => ?_⟩
    refine ⟨_, rfl, n, rfl, by (first | lia | omega), by (first | lia | omega), for_range (n := n.toNat) (fun i σ H' => ∃ (v3 : Option V), σ = [some (.int n), some (.ref a), some (.ref pa), v3] ∧ Same H H' ∧ H' pa = some (.lst ((leadsI n L i).map V.int)))
      ⟨none, rfl, same_upd fpa, upd_same⟩ ?_ ?_⟩
    · rintro i σ H1 hi ⟨v3, rfl, s1, hpa⟩
      refine ⟨_, rfl, .inl ⟨rfl, _, SqL.of hpa⟩, ?_⟩
      refine ⟨_, rfl, _, _, rfl, rfl, _, rfl, _, n, rfl, ⟨by (first | lia | omega), by (first | lia | omega), by (first | lia | omega), by (first | lia | omega)⟩, fun l fl => comp_range' (lo := (0 : Int) + (i : Nat) + 1) (m0 := (n - ((0 : Int) + (i : Nat) + 1)).toNat) (fun c acc H' => Same H1 H' ∧ H' l = some (.lst acc) ∧ acc = ((List.range c).map fun j => leadM L ((0 : Int) + (i : Nat)) ((0 : Int) + (i : Nat) + 1 + (j : Nat))).map V.int)
        ⟨same_upd fl, upd_same, rfl⟩ (fun c acc H' _ ⟨_, z, _⟩ => z) ?_ ?_⟩
      · rintro c acc H2 hc ⟨s2, hl, rfl⟩
        refine ⟨small1000 (by rw [List.length_map, List.length_map, List.length_range]; (first | lia | omega)), ⟨rfl, rfl⟩, tYes_mk ?_⟩
        have b1 : 0 ≤ (0 : Int) + (i : Nat) ∧ (0 : Int) + (i : Nat) < n := by (first | lia | omega)
        have b2 : 0 ≤ (0 : Int) + (i : Nat) + 1 + (c : Nat) ∧ (0 : Int) + (i : Nat) + 1 + (c : Nat) < n := by (first | lia | omega)
        refine ⟨_, rfl, _, rfl, _, rfl, a, L, _, _, rfl, hV.same (s1.trans s2), fun o ho => ⟨ord_mem hO b1 o ho, ord_mem hO b2 o ho⟩, Nat.le_trans hL (by decide), fun H3 s3 => ⟨s3 _ _ hl, Nx.mk hc ⟨same_upd' (s2.trans s3) fl, upd_same, ?_⟩⟩⟩
        rw [List.range_succ, List.map_append, List.map_append]
        rfl
      · rintro acc H2 ⟨s2, hl, rfl⟩
        have hpa2 := s2 _ _ hpa
        refine ⟨pa, l, _, _, rfl, rfl, hpa2, hl, small ?_, ?_⟩
        · have := leadsI_len h6 L i
          rw [List.length_map, List.length_map, List.length_map, List.length_range]
          (first | lia | omega)
        · refine ⟨_, rfl, same_upd' (s1.trans s2) fpa, ?_⟩
          rw [upd_same, leadsI_succ, List.map_append]
    · rintro σ H1 ⟨v3, rfl, s1, hpa⟩
      refine ⟨_, rfl, pa, _, rfl, .inl ⟨SqL.of hpa, fun t ht => ?_⟩⟩
      exact k _ t (same_upd' s1 (s1.free ht)) (s1.free ht) upd_same
end
end Bm
namespace Bm
open PySem L2
noncomputable def spSigns (K : PySem.W.Frag) : Sp := fun vs H Q _ => ∃ (a : Addr) (ns : List Int), vs = [.ref a] ∧ H a = some (.tup (ns.map V.int)) ∧ ns.length ≤ 100 ∧ ∀ H' p, Same H H' → H p = none → H' p = some (.lst ((ns.map sgI).map V.int)) → Q (.ref p) H'
theorem sg_val (x : Int) : (if decide (x > 0) = true then (1 : Int) else 0) - (if decide (x < 0) = true then (1 : Int) else 0) = sgI x := by
  unfold sgI
  by_cases h1 : 0 < x
  · rw [if_pos h1, if_pos (decide_eq_true h1), if_neg (by simp; (first | lia | omega))]
    rfl
  · rw [if_neg h1, if_neg (by simp; (first | lia | omega))]
    by_cases h2 : x < 0
    · rw [if_pos h2, if_pos (decide_eq_true h2)]
      rfl
    · rw [if_neg h2, if_neg (by simp; (first | lia | omega))]
      rfl
section
variable {P : Program} {w : World} {K : PySem.W.Frag} {mg : Str → Option Value} {base : Heap}
theorem sc_law_signs : FnScope ["leads"] ["leads"] (defScope sSigns) := ⟨rfl, rfl, rfl, by decide +kernel, rfl, by decide +kernel, by decide +kernel⟩
theorem ok_lawSigns (d : Def K mg "_law_signs" sSigns ["leads"]) (B : Blt mg) : FnOk P w K mg base CX0 1 d.f d.fd ["leads"] (spSigns K) := by
  refine d.F.ok sc_law_signs (fun vs H Q E h => ?_) (fun cdv A outer s H vs Q E hr h => ?_)
  · obtain ⟨a, ns, rfl, _⟩ := h
    rfl
  · obtain ⟨a, ns, rfl, hS, hL, k⟩ := h
    refine ⟨_, pss_one (ps_ret (pe_comp (ts := ["number"]) (fs := []) rfl (by exact .mk' rfl (by rfl) trivial) (pi_tup (pv 0))
          (by intros; exact pg_name (i := 0) (show (["number"] : List Str).Nodup by decide +kernel) rfl (Or.inl rfl))
          (by intros; exact pts_nil)
          (by intros; exact (pe_op op_sub (pe_callTy call_int1 (by rfl) B.int PyProof.Rows.boot_int (pa_cons (pe_cmpR op_gt (pv 0) pe_int (nomark _)) pa_nil)) (pe_callTy call_int1 (by rfl) B.int PyProof.Rows.boot_int (pa_cons (pe_cmpR op_lt (pv 0) pe_int (nomark _)) pa_nil)))))), ?_⟩
    refine ⟨_, rfl, a, rfl, ⟨_, SqT.of hS⟩, fun l fl => comp_tup' (xs := ns.map V.int) (fun c acc H' => Same H H' ∧ H' l = some (.lst acc) ∧ acc = ((ns.take c).map sgI).map V.int)
      ⟨same_upd fl, upd_same, rfl⟩ (fun c acc H' _ ⟨z1, z2, _⟩ => ⟨SqT.of (z1 _ _ hS), z2⟩) ?_ ?_⟩
    · rintro c x acc H1 hc hlt ⟨s1, hl, rfl⟩
      obtain ⟨y, hy, rfl⟩ := map_get hc
      have hz : (((ns.take c).map sgI).map V.int).length ≤ 100 := by
        rw [List.length_map, List.length_map, List.length_take]
        (first | lia | omega)
      refine ⟨small1000 (by (first | lia | omega)), ⟨rfl, rfl⟩, tYes_mk ?_⟩
      refine ⟨_, rfl, _, _, rfl, rfl, .inr ⟨_, rfl, _, rfl, _, _, rfl, rfl, .inr ⟨_, rfl, _, _, rfl, rfl, hl, Nx.mk hlt ⟨same_upd' s1 fl, upd_same, ?_⟩⟩⟩⟩
      have e : ns.take (c + 1) = ns.take c ++ [y] := by
        obtain ⟨hc', e⟩ := List.getElem?_eq_some_iff.mp hy
        rw [List.take_succ_eq_append_getElem hc', e]
      rw [e, List.map_append, List.map_append]
      congr 1
      exact congrArg (fun z => [V.int z]) (sg_val y)
    · rintro acc H1 ⟨s1, hl, rfl⟩
      rw [List.take_of_length_le (by rw [List.length_map]; exact Nat.le_refl _)] at hl
      exact k H1 l s1 fl hl
end
end Bm
namespace Bm
open PySem L2
noncomputable def spWished4 (K : PySem.W.Frag) : Sp := fun vs H Q _ => ∃ (n : Int) (a : Addr) (W : List (Int × Int)), vs = [.int n, .ref a] ∧ 1 ≤ n ∧ n ≤ 6 ∧ WAt K H a W ∧ ∀ H' p, Same H H' → H p = none → H' p = some (.lst ((wishM n W).map V.int)) → Q (.ref p) H'
noncomputable def wishI (n : Int) (W : List (Int × Int)) (i : Nat) : List Int := ((rangeK i).flatMap (upP n.toNat)).map fun b => netM W b.1 b.2
theorem wishI_len {n : Int} (h6 : n ≤ 6) (W : List (Int × Int)) (i : Nat) : (wishI n W i).length ≤ i * 6 := by
  unfold wishI
  rw [List.length_map]
  have := flatMap_len (f := upP n.toNat) (c := 6) (L := rangeK i) fun x _ => by
    unfold upP
    rw [List.length_map]
    have h1 := List.length_filter_le (fun j => !decide (x = j) && decide (x < j)) (rangeK n.toNat)
    rw [rangeK_len] at h1
    (first | lia | omega)
  rw [rangeK_len] at this
  (first | lia | omega)
theorem wishI_succ (n : Int) (W : List (Int × Int)) (i : Nat) : wishI n W (i + 1) = wishI n W i ++ (List.range (n - ((0 : Int) + (i : Nat) + 1)).toNat).map fun j => netM W ((0 : Int) + (i : Nat)) ((0 : Int) + (i : Nat) + 1 + (j : Nat)) := by
  unfold wishI
  rw [rangeK_succ, List.flatMap_append, List.map_append]
  congr 1
  rw [List.flatMap_cons, List.flatMap_nil, List.append_nil, up_eq, List.map_map]
  rw [show n.toNat - (i + 1) = (n - ((0 : Int) + (i : Nat) + 1)).toNat by (first | lia | omega)]
  rfl
theorem net_val (W : List (Int × Int)) (x y : Int) {b1 b2 : Bool} (h1 : b1 = true ↔ (x, y) ∈ W) (h2 : b2 = true ↔ (y, x) ∈ W) : (if b1 = true then (1 : Int) else 0) - (if b2 = true then (1 : Int) else 0) = netM W x y := by
  unfold netM
  congr 1
  · by_cases z : (x, y) ∈ W
    · rw [if_pos z, if_pos (h1.mpr z)]
    · rw [if_neg z, if_neg fun zz => z (h1.mp zz)]
  · by_cases z : (y, x) ∈ W
    · rw [if_pos z, if_pos (h2.mpr z)]
    · rw [if_neg z, if_neg fun zz => z (h2.mp zz)]
section
variable {P : Program} {w : World} {K : PySem.W.Frag} {mg : Str → Option Value} {base : Heap}
theorem sc_law_wished : FnScope ["many", "web", "wished", "one"] ["many", "web"] (defScope sWished) := ⟨rfl, rfl, rfl, by decide +kernel, rfl, by decide +kernel, by decide +kernel⟩
theorem ok_lawWished4 (d : Def K mg "_law_wished" sWished ["many", "web"]) (B : Blt mg) : FnOk P w K mg base CX0 1 d.f d.fd ["many", "web"] (spWished4 K) := by
  refine d.F.ok sc_law_wished (fun vs H Q E h => ?_) (fun cdv A outer s H vs Q E hr h => ?_)
  · obtain ⟨n, a, W, rfl, _⟩ := h
    rfl
  · obtain ⟨n, a, W, rfl, h1, h6, ⟨ws, hw, pw⟩, k⟩ := h
    refine ⟨_, pss_cons (ps_set (i := 2) sc_law_wished.nd rfl (Or.inl rfl) (pe_lst pa_nil))
      (pss_cons (ps_for PassesOwn.never rfl (pi_range1 (by rfl) B.range (pa_cons (pv 0) pa_nil)) (pg_name (i := 3) sc_law_wished.nd rfl (Or.inr rfl))
        (pss_one (ps_expr (pe_bm PySem.F.plainAttrs_list PySem.F.slot_list_extend PySem.F.type_list_extend mt_extend (pv 2) (pa_cons (pe_comp (ts := ["other"]) (fs := [(1, "web"), (3, "one")]) rfl (by exact .mk' rfl (by rfl) ⟨rfl, rfl, rfl, rfl, trivial⟩) (pi_range2 (by rfl) B.range (pa_cons (pe_op op_add (pv 3) pe_int) (pa_cons (pv 0) pa_nil)))
          (by intros; exact pg_name (i := 0) (show (["other", "web", "one"] : List Str).Nodup by decide +kernel) rfl (Or.inl rfl))
          (by intros; exact pts_nil)
          (by intros; exact (pe_op op_sub (pe_callTy call_int1 (by rfl) B.int PyProof.Rows.boot_int (pa_cons (pe_cmpR (op_inL eq_dP_ok dP_inj (hu2_of hr)) (pe_tup (pa_cons (pv 2) (pa_cons (pv 0) pa_nil))) (pv 1) (by with_unfolding_all rfl)) pa_nil)) (pe_callTy call_int1 (by rfl) B.int PyProof.Rows.boot_int (pa_cons (pe_cmpR (op_inL eq_dP_ok dP_inj (hu2_of hr)) (pe_tup (pa_cons (pv 0) (pa_cons (pv 2) pa_nil))) (pv 1) (by with_unfolding_all rfl)) pa_nil))))) pa_nil)))))
      (pss_one (ps_ret (pv 2)))), ?_⟩
    have small : ∀ {z : Nat}, z ≤ 1000 → z ≤ sizeLine := fun h => Nat.le_of_lt (small1000 h)
    refine ⟨Nat.zero_le _, fun pa fpa => ?_⟩
    refine ⟨_, rfl, n, rfl, by (first | lia | omega), by (first | lia | omega), for_range (n := n.toNat) (fun i σ H' => ∃ (v3 : Option V), σ = [some (.int n), some (.ref a), some (.ref pa), v3] ∧ Same H H' ∧ H' pa = some (.lst ((wishI n W i).map V.int)))
      ⟨none, rfl, same_upd fpa, upd_same⟩ ?_ ?_⟩
    · rintro i σ H1 hi ⟨v3, rfl, s1, hpa⟩
      refine ⟨_, rfl, .inl ⟨rfl, _, SqL.of hpa⟩, ?_⟩
      refine ⟨_, rfl, _, _, rfl, rfl, _, rfl, _, n, rfl, ⟨by (first | lia | omega), by (first | lia | omega), by (first | lia | omega), by (first | lia | omega)⟩, fun l fl => comp_range' (lo := (0 : Int) + (i : Nat) + 1) (m0 := (n - ((0 : Int) + (i : Nat) + 1)).toNat) (fun c acc H' => Same H1 H' ∧ H' l = some (.lst acc) ∧ acc = ((List.range c).map fun j => netM W ((0 : Int) + (i : Nat)) ((0 : Int) + (i : Nat) + 1 + (j : Nat))).map V.int)
        ⟨same_upd fl, upd_same, rfl⟩ (fun c acc H' _ ⟨_, z, _⟩ => z) ?_ ?_⟩
      · rintro c acc H2 hc ⟨s2, hl, rfl⟩
        refine ⟨small1000 (by rw [List.length_map, List.length_map, List.length_range]; (first | lia | omega)), ⟨rfl, rfl⟩, tYes_mk ?_⟩
        refine ⟨_, rfl, _, rfl, sz2, fun t1 ft1 => ?_⟩
        have u1 := (s1.trans s2).trans (same_upd (o := .tup [.int ((0 : Int) + (i : Nat)), .int ((0 : Int) + (i : Nat) + 1 + (c : Nat))]) ft1)
        refine ⟨_, rfl, a, ws, ((0 : Int) + (i : Nat), (0 : Int) + (i : Nat) + 1 + (c : Nat)), W, rfl, .inl (u1.seq hw), ⟨t1, rfl, upd_same⟩, pd_same (dP_same u1) pw, .inr ⟨_, rfl, ?_⟩⟩
        refine ⟨_, rfl, _, rfl, sz2, fun t2 ft2 => ?_⟩
        have u2 := u1.trans (same_upd (o := .tup [.int ((0 : Int) + (i : Nat) + 1 + (c : Nat)), .int ((0 : Int) + (i : Nat))]) ft2)
        have g2 := (same_upd (o := .tup [.int ((0 : Int) + (i : Nat)), .int ((0 : Int) + (i : Nat) + 1 + (c : Nat))]) ft1).trans (same_upd (o := .tup [.int ((0 : Int) + (i : Nat) + 1 + (c : Nat)), .int ((0 : Int) + (i : Nat))]) ft2)
        refine ⟨_, rfl, a, ws, ((0 : Int) + (i : Nat) + 1 + (c : Nat), (0 : Int) + (i : Nat)), W, rfl, .inl (u2.seq hw), ⟨t2, rfl, upd_same⟩, pd_same (dP_same u2) pw, .inr ⟨_, rfl, _, _, rfl, rfl, g2 _ _ hl, Nx.mk hc ⟨same_upd' (s2.trans g2) fl, upd_same, ?_⟩⟩⟩
        rw [List.range_succ, List.map_append, List.map_append]
        congr 1
        refine congrArg (fun z => [V.int z]) (net_val W _ _ ?_ ?_)
        · exact ⟨fun z => of_dec z, fun z => by simpa using z⟩
        · exact ⟨fun z => of_dec z, fun z => by simpa using z⟩
      · rintro acc H2 ⟨s2, hl, rfl⟩
        have hpa2 := s2 _ _ hpa
        refine ⟨pa, l, _, _, rfl, rfl, hpa2, hl, small ?_, ?_⟩
        · have := wishI_len h6 W i
          rw [List.length_map, List.length_map, List.length_map, List.length_range]
          (first | lia | omega)
        · refine ⟨_, rfl, same_upd' (s1.trans s2) fpa, ?_⟩
          rw [upd_same, wishI_succ, List.map_append]
    · rintro σ H1 ⟨v3, rfl, s1, hpa⟩
      exact ⟨_, rfl, k H1 pa s1 fpa hpa⟩
end
end Bm
namespace Bm
open PySem L2
noncomputable def LeastV (n : Int) (ws : List Int) (v : V) : Prop :=
  (∃ c : Nat, v = .int (c : Int) ∧ c ≤ 4 ∧ (∃ L, Ords n L ∧ L.length = c ∧ (leadsM n L).map sgI = ws) ∧ ∀ L, Ords n L → L.length < c → (leadsM n L).map sgI ≠ ws) ∨
  (v = .non ∧ ∀ L, Ords n L → L.length ≤ 4 → (leadsM n L).map sgI ≠ ws)
noncomputable def spLeast (K : PySem.W.Frag) : Sp := fun vs H Q _ => ∃ (n : Int) (b : Addr) (ws : List Int), vs = [.int n, .ref b] ∧ 1 ≤ n ∧ n ≤ 4 ∧ H b = some (.lst (ws.map V.int)) ∧ ws.length = (pairsM n).length ∧ ∀ H' v, Same H H' → LeastV n ws v → Q v H'
theorem ordersM_perm {n : Int} {o : List Int} (h : o ∈ ordersM n n.toNat) : o.Perm (rangeI n) := by
  have hlen := ordersM_row o h
  rw [ordersM_eq] at h
  have hall := ext_full (by rw [cands_nil]; exact rangeK_len _) h
  have : (rangeI n).length = n.toNat := rangeK_len _
  exact perm_of_sub (rangeI_nodup n) hall (by (first | lia | omega))
theorem ext_mem {n : Int} : ∀ (s r : List Int), (r ++ s).Nodup → (∀ x ∈ s, x ∈ rangeI n) → r ++ s ∈ extM n s.length r
  | [], r, _, _ => by rw [List.append_nil]; exact List.mem_singleton.mpr rfl
  | t :: s, r, hn, hs => by
    have e : r ++ t :: s = (r ++ [t]) ++ s := by rw [List.append_assoc]; rfl
    have ih := ext_mem s (r ++ [t]) (by rw [← e]; exact hn) fun x hx => hs x (List.mem_cons_of_mem _ hx)
    rw [e]
    refine List.mem_flatMap.mpr ⟨t, List.mem_filter.mpr ⟨hs t List.mem_cons_self, ?_⟩, ih⟩
    have : t ∉ r := fun z => (List.nodup_append.mp hn).2.2 t z t List.mem_cons_self rfl
    simpa using this
theorem ordersM_mem {n : Int} {o : List Int} (h : o.Perm (rangeI n)) : o ∈ ordersM n n.toNat := by
  rw [ordersM_eq]
  have hl : o.length = n.toNat := by rw [h.length_eq]; exact rangeK_len _
  have := ext_mem (n := n) o [] (h.nodup_iff.mpr (rangeI_nodup n)) fun x hx => h.mem_iff.mp hx
  rw [hl] at this
  exact this
theorem rows_step {n : Int} {c : Nat} {R : List (List Int)} (h : ∀ r, r ∈ R ↔ RowOf n c r) (r' : List Int) : r' ∈ R.flatMap (fun r => ((ordersM n n.toNat).map fun o => leadsM n [o]).map (addL r)) ↔ RowOf n (c + 1) r' := by
  rw [List.mem_flatMap]
  constructor
  · rintro ⟨r, hr, hm⟩
    obtain ⟨L, hO, hl, rfl⟩ := (h r).mp hr
    rw [List.map_map] at hm
    obtain ⟨o, ho, rfl⟩ := List.mem_map.mp hm
    refine ⟨L ++ [o], ords_append hO fun o' ho' => ?_, by rw [List.length_append, hl]; rfl, leads_add n L o⟩
    rw [List.mem_singleton.mp ho']
    exact ordersM_perm ho
  · rintro ⟨L, hO, hl, rfl⟩
    have hne : L ≠ [] := fun z => by rw [z] at hl; cases hl
    have e := List.dropLast_concat_getLast hne
    have hO1 : Ords n L.dropLast := fun o ho => hO o ((List.dropLast_sublist L).mem ho)
    refine ⟨leadsM n L.dropLast, (h _).mpr ⟨_, hO1, by rw [List.length_dropLast, hl]; rfl, rfl⟩, ?_⟩
    rw [List.map_map]
    refine List.mem_map.mpr ⟨L.getLast hne, ordersM_mem (hO _ (List.getLast_mem hne)), ?_⟩
    show addL (leadsM n L.dropLast) (leadsM n [L.getLast hne]) = _
    rw [leads_add, e]
theorem add_range : ∀ {a b : List Int}, b.length = a.length → (List.range a.length).map (fun z => a.getD z 0 + b.getD z 0) = addL a b
  | [], [], _ => rfl
  | x :: a, y :: b, h => by
    rw [List.length_cons, List.range_succ_eq_map, List.map_cons, List.map_map]
    have ih := add_range (a := a) (b := b) (by simpa using h)
    show (x + y) :: _ = (x + y) :: addL a b
    congr 1
theorem row_len {n : Int} {c : Nat} {r : List Int} (h : RowOf n c r) : r.length = (pairsM n).length := by
  obtain ⟨L, _, _, rfl⟩ := h
  exact List.length_map _
section
variable {P : Program} {w : World} {K : PySem.W.Frag} {mg : Str → Option Value} {base : Heap}
theorem sc_law_least : FnScope ["many", "wished", "single", "rows", "count", "longer", "row"] ["many", "wished"] (defScope sLeast) := ⟨rfl, rfl, rfl, by decide +kernel, rfl, by decide +kernel, by decide +kernel⟩
theorem ok_lawLeast (d : Def K mg "_law_least" sLeast ["many", "wished"]) (B : Blt mg)
    (dOr : Def K mg "_law_orders" sOrders ["many"]) (GOr : FnOk P w K mg base CX0 1 dOr.f dOr.fd ["many"] spOrders)
    (dLs : Def K mg "_law_leads" sLeads ["many", "voters"]) (GLs : FnOk P w K mg base CX0 2 dLs.f dLs.fd ["many", "voters"] (spLeads K))
    (dSg : Def K mg "_law_signs" sSigns ["leads"]) (GSg : FnOk P w K mg base CX0 1 dSg.f dSg.fd ["leads"] (spSigns K)) : FnOk P w K mg base CX0 3 d.f d.fd ["many", "wished"] (spLeast K) := by
  refine d.F.ok sc_law_least (fun vs H Q E h => ?_) (fun cdv A outer s H vs Q E hr h => ?_)
  · obtain ⟨n, b, ws, rfl, _⟩ := h
    rfl
  · obtain ⟨n, b, ws, rfl, h1, h4, hW, hwl, k⟩ := h
    refine ⟨_, pss_cons (ps_setC (i := 2) (ts := ["voter"]) (fs := [(0, "many")]) sc_law_least.nd rfl (Or.inl rfl) rfl (by exact .mk' rfl (by rfl) ⟨rfl, rfl, trivial⟩) (pi_list (pe_call GOr (hr.mono (by decide)) (by rfl) dOr.mgf dOr.F.kp dOr.b .nil pass0 (pa_cons (pv 0) pa_nil)))
          (by intros; exact pg_name (i := 0) (show (["voter", "many"] : List Str).Nodup by decide +kernel) rfl (Or.inl rfl))
          (by intros; exact pts_nil)
          (by intros; exact (pe_call GLs (hr.mono (by decide)) (by rfl) dLs.mgf dLs.F.kp dLs.b .nil pass0 (pa_cons (pv 1) (pa_cons (pe_lst (pa_cons (pv 0) pa_nil)) pa_nil)))))
      (pss_cons (ps_set (i := 3) sc_law_least.nd rfl (Or.inl rfl) (pe_lst (pa_cons (pe_callTy call_tuple_of (by rfl) B.tuple PyProof.Rows.boot_tuple (pa_cons (pe_op op_rep (pe_lst (pa_cons pe_int pa_nil)) (pe_callB call_len_seq (by rfl) B.len PySem.boot_len (pa_cons (pv 1) pa_nil))) pa_nil)) pa_nil)))
      (pss_cons (ps_set (i := 4) sc_law_least.nd rfl (Or.inl rfl) pe_int)
      (pss_cons (ps_while PassesOwn.never (pt_cmpR op_eq (pe_callB call_len_seq (by rfl) B.len PySem.boot_len (pa_cons (pe_comp (ts := ["row"]) (fs := [(1, "wished")]) rfl (by exact .mk' rfl (by rfl) ⟨rfl, rfl, trivial⟩) (pi_list (pv 3))
          (by intros; exact pg_name (i := 0) (show (["row", "wished"] : List Str).Nodup by decide +kernel) rfl (Or.inl rfl))
          (by intros; exact pts_one (pt_cmpR (op_eqL eq_int_ok (hu_of hr)) (pe_call GSg (hr.mono (by decide)) (by rfl) dSg.mgf dSg.F.kp dSg.b .nil pass0 (pa_cons (pv 0) pa_nil)) (pv 1) (nomark _)))
          (by intros; exact (pv 0))) pa_nil)) pe_int (nomark _))
        (pss_cons (ps_if (pt_cmpR op_eq (pv 4) pe_int (nomark _)) (pss_one (ps_ret pe_non)) pss_nil)
        (pss_cons (ps_set (i := 5) sc_law_least.nd rfl (Or.inl rfl) (pe_lst pa_nil))
        (pss_cons (ps_for PassesOwn.never rfl (pi_list (pv 3)) (pg_name (i := 6) sc_law_least.nd rfl (Or.inr rfl))
          (pss_one (ps_expr (pe_bm PySem.F.plainAttrs_list PySem.F.slot_list_extend PySem.F.type_list_extend mt_extend (pv 5) (pa_cons (pe_compOF (y := "more") (fs := [(6, "row")]) rfl (by exact .mk' rfl (by decide +kernel) (by decide +kernel) rfl (by rfl) ⟨rfl, rfl, trivial⟩ (fun _ _ => rfl)) (pi_list (pv 2))
          (by intros; exact pg_name (i := 0) (show (["more", "row"] : List Str).Nodup by decide +kernel) rfl (Or.inr rfl))
          (by intros; exact pts_nil)
          (by intros; exact (pe_callTy call_tuple_of (by rfl) B.tuple PyProof.Rows.boot_tuple (pa_cons (pe_comp (ts := ["k"]) (fs := [(1, "row"), (0, "more")]) rfl (by exact .mk' rfl (by rfl) ⟨rfl, rfl, rfl, rfl, trivial⟩) (pi_range1 (by rfl) B.range (pa_cons (pe_callB call_len_seq (by rfl) B.len PySem.boot_len (pa_cons (pv 1) pa_nil)) pa_nil))
          (by intros; exact pg_name (i := 0) (show (["k", "row", "more"] : List Str).Nodup by decide +kernel) rfl (Or.inl rfl))
          (by intros; exact pts_nil)
          (by intros; exact (pe_op op_add (pe_ix ix_tup (pv 1) (pv 0) (fun _ _ => rfl)) (pe_ix ix_tup (pv 2) (pv 0) (fun _ _ => rfl))))) pa_nil)))) pa_nil)))))
        (pss_cons (ps_set (i := 3) sc_law_least.nd rfl (Or.inl rfl) (pe_sortSet rfl hr.units (by rfl) B.sorted (by rfl) B.set (pv 5)))
        (pss_one (ps_set (i := 4) sc_law_least.nd rfl (Or.inl rfl) (pe_op op_add (pv 4) pe_int))))))))
      (pss_one (ps_ret (pv 4)))))), ?_⟩
    have small : ∀ {z : Nat}, z ≤ 200000 → z < sizeLine := fun {z} h => by rw [sizeLine_eq]; (first | lia | omega)
    have hps : (pairsM n).length ≤ 36 := pairs_len (by (first | lia | omega))
    -- single
    refine ⟨_, rfl, n, rfl, h1, by (first | lia | omega), fun H1 ro os s1 fro hro po => ?_⟩
    have hol : (ordersM n n.toNat).length = os.length := Paired.length po
    have hOl : (ordersM n n.toNat).length ≤ 1296 := by
      refine Nat.le_trans (ordersM_len (by (first | lia | omega)) _) ?_
      exact Nat.pow_le_pow_right (n := 6) (by decide) (show n.toNat ≤ 4 by (first | lia | omega))
    refine ⟨ro, rfl, ⟨_, SqL.of hro⟩, fun si fsi => comp_list' (xs := os) (fun i acc H' => Same H1 H' ∧ H' si = some (.lst acc) ∧ Paired (dT H') (((ordersM n n.toNat).take i).map fun o => leadsM n [o]) acc ∧ acc.length = i)
      ⟨same_upd fsi, upd_same, .nil, rfl⟩ (fun i acc H' _ ⟨z1, z2, _⟩ => ⟨SqL.of (z1 _ _ hro), z2⟩) ?_ ?_⟩
    · rintro i x acc H2 hi hlt ⟨s2, hl2, pa2, hal⟩
      obtain ⟨o, ho, q, rfl, hq⟩ := paired_get po hi
      refine ⟨small (by (first | lia | omega)), ⟨rfl, rfl⟩, tYes_mk ?_⟩
      refine ⟨_, rfl, _, rfl, sz1, fun t ft => ?_⟩
      have t3 := same_upd (o := .lst [.ref q]) ft
      refine ⟨n, t, [o], rfl, h1, by (first | lia | omega), ⟨[.ref q], SqL.of upd_same, .cons ⟨q, rfl, t3 _ _ (s2 _ _ hq)⟩ .nil⟩, fun o' ho' => ?_, (by show 1 ≤ 100; decide), fun H3 p s3 fp hp => ?_⟩
      · rw [List.mem_singleton.mp ho']
        exact ordersM_perm (List.mem_of_getElem? ho)
      · have u3 := t3.trans s3
        have hl3 := u3 _ _ hl2
        refine ⟨hl3, Nx.mk hlt ⟨same_upd' (s2.trans u3) fsi, upd_same, ?_, by rw [List.length_append, List.length_singleton]; (first | lia | omega)⟩⟩
        rw [List.take_add_one, ho, List.map_append]
        refine pd_append (pd_same (fun _ _ ⟨c, e, hc⟩ => ⟨c, e, by rw [upd_ne (ne_of (u3 _ _ hc) hl3 (by intro z; cases z))]; exact u3 _ _ hc⟩) pa2) (.cons ⟨p, rfl, ?_⟩ .nil)
        rw [upd_ne (ne_of hp hl3 (by intro z; cases z))]
        exact hp
    rintro ss H2 ⟨s2, hsi, pss, hsl⟩
    rw [List.take_of_length_le (by (first | lia | omega))] at pss
    have s02 := s1.trans s2
    -- rows
    have hW2 := s02 _ _ hW
    refine ⟨sz1, fun z0 fz0 => ?_⟩
    have u0 := same_upd (o := .lst [.int 0]) fz0
    refine ⟨_, rfl, b, _, rfl, .inl (SqL.of (u0 _ _ hW2)), z0, _, _, rfl, rfl, upd_same, by (first | lia | omega), by rw [List.length_map]; (first | lia | omega), ?_, fun z1 fz1 => ?_⟩
    · show 1 * (((ws.map V.int).length : Int)).toNat ≤ sizeLine
      rw [List.length_map]
      exact Nat.le_of_lt (small (by (first | lia | omega)))
    have u1 := u0.trans (same_upd (o := .lst (List.replicate ((((ws.map V.int).length : Nat) : Int)).toNat [V.int 0]).flatten) fz1)
    refine ⟨z1, _, rfl, .inl ⟨SqL.of upd_same, fun z2 fz2 => ⟨sz1, fun ra0 fra0 => ?_⟩⟩⟩
    have e0 : (List.replicate ((((ws.map V.int).length : Nat) : Int)).toNat [V.int 0]).flatten = (leadsM n []).map V.int := by
      rw [leads_nil, List.map_map, List.length_map, hwl]
      generalize pairsM n = l
      rw [show ((l.length : Int)).toNat = l.length from rfl]
      induction l with
      | nil => rfl
      | cons x l ih => rw [List.length_cons, List.replicate_succ, List.flatten_cons, ih]; rfl
    rw [e0] at u1 fz2 fra0 ⊢
    have u2 := (u1.trans (same_upd (o := .tup ((leadsM n []).map V.int)) fz2))
    have u3 := u2.trans (same_upd (o := .lst [.ref z2]) fra0)
    -- the turns
    refine ⟨fun m σ H' => ∃ (c : Nat) (ra : Addr) (xs : List V) (R : List (List Int)) (v5 v6 : Option V), m + c = 4 ∧ σ = [some (.int n), some (.ref b), some (.ref si), some (.ref ra), some (.int (c : Int)), v5, v6] ∧ Same H2 H' ∧ H' ra = some (.lst xs) ∧ Paired (dT H') R xs ∧
        (∀ r, r ∈ R ↔ RowOf n c r) ∧ R.length ≤ 4914 ∧ ∀ L, Ords n L → L.length < c → (leadsM n L).map sgI ≠ ws,
      ⟨4, 0, ra0, [.ref z2], [leadsM n []], none, none, rfl, rfl, u3, upd_same, .cons ⟨z2, rfl, ?_⟩ .nil, fun r => ?_, (by show 1 ≤ 4914; decide), fun L _ z => absurd z (Nat.not_lt_zero _)⟩, ?_⟩
    · rw [upd_ne (ne_of_none upd_same fra0), upd_same]
    · rw [List.mem_singleton]
      constructor
      · rintro rfl
        exact ⟨[], fun o z => absurd z (by simp), rfl, rfl⟩
      · rintro ⟨L, _, hl, rfl⟩
        rw [List.eq_nil_of_length_eq_zero hl]
    rintro m σ H3 ⟨c, ra, xs, R, v5, v6, hmc, rfl, s3, hra, px, hR, hRl, hno⟩
    have hxl := Paired.length px
    refine ⟨_, rfl, ra, rfl, ⟨_, SqL.of hra⟩, fun l fl => comp_list' (xs := xs) (fun i acc H' => Same H3 H' ∧ H' l = some (.lst acc) ∧ Paired (dT H3) ((R.take i).filter fun r => decide (r.map sgI = ws)) acc ∧ acc.length ≤ i)
      ⟨same_upd fl, upd_same, .nil, Nat.le_refl _⟩ (fun i acc H' _ ⟨z1, z2, _⟩ => ⟨SqL.of (z1 _ _ hra), z2⟩) ?_ ?_⟩
    · rintro i x acc H4 hi hlt ⟨s4, hl4, pa4, hal⟩
      obtain ⟨r, hr, q, rfl, hq⟩ := paired_get px hi
      have hrl := row_len ((hR r).mp (List.mem_of_getElem? hr))
      refine ⟨small (by (first | lia | omega)), ⟨rfl, rfl⟩, _, rfl, q, r, rfl, s4 _ _ hq, by (first | lia | omega), fun H5 p s5 fp hp => ?_⟩
      refine ⟨_, rfl, p, b, _, _, r.map sgI, ws, rfl, rfl, SqL.of hp, SqL.of (s5 _ _ (s4 _ _ (s3 _ _ hW2))), paired_ints _, paired_ints _, _, rfl, ?_⟩
      have key := take_filter_succ (fun r => decide (r.map sgI = ws)) hr
      refine ite2 (fun hb => ?_) (fun hb => ?_)
      · have hb' : (decide (r.map sgI = ws)) = true := hb
        rw [if_pos hb'] at key
        refine ⟨_, rfl, s5 _ _ hl4, Nx.mk hlt ⟨same_upd' (s4.trans s5) fl, upd_same, ?_, ?_⟩⟩
        · rw [key]; exact pd_append pa4 (.cons ⟨q, rfl, hq⟩ .nil)
        · rw [List.length_append, List.length_singleton]; (first | lia | omega)
      · have hb' : ¬ (decide (r.map sgI = ws)) = true := hb
        rw [if_neg hb', List.append_nil] at key
        exact Nx.mk hlt ⟨s4.trans s5, s5 _ _ hl4, by rw [key]; exact pa4, by (first | lia | omega)⟩
    rintro acc H4 ⟨s4, hl4, pa4, hal⟩
    rw [List.take_of_length_le (by (first | lia | omega))] at pa4
    have hla := Paired.length pa4
    refine ⟨l, acc, rfl, .inl (SqL.of hl4), rfl, _, rfl, ?_⟩
    have s34 := s3.trans s4
    have s04 := s02.trans s34
    have some_iff : acc.length = 0 ↔ ∀ L, Ords n L → L.length = c → (leadsM n L).map sgI ≠ ws := by
      constructor
      · intro h0 L hO hl e
        have hm : leadsM n L ∈ R.filter fun r => decide (r.map sgI = ws) := List.mem_filter.mpr ⟨(hR _).mpr ⟨L, hO, hl, rfl⟩, decide_eq_true e⟩
        rw [List.eq_nil_of_length_eq_zero (hla.trans h0)] at hm
        cases hm
      · intro hh
        apply Classical.byContradiction
        intro h0
        have hpos : 0 < (R.filter fun r => decide (r.map sgI = ws)).length := by (first | lia | omega)
        obtain ⟨r, hr⟩ := List.exists_mem_of_length_pos hpos
        obtain ⟨hr1, hr2⟩ := List.mem_filter.mp hr
        obtain ⟨L, hO, hl, rfl⟩ := (hR r).mp hr1
        exact hh L hO hl (of_decide_eq_true hr2)
    refine ite2 (fun hb => ?_) (fun hb => ?_)
    · have h0 : acc.length = 0 := by simpa using hb
      have hc0 := some_iff.mp h0
      have hno' : ∀ L, Ords n L → L.length < c + 1 → (leadsM n L).map sgI ≠ ws := fun L hO hl => by
        by_cases z : L.length = c
        · exact hc0 L hO z
        · exact hno L hO (by (first | lia | omega))
      refine ⟨_, fun σ' H' h => h, ?_⟩
      refine ⟨_, rfl, rfl, _, rfl, ite2 (fun hb4 => ?_) (fun hb4 => ?_)⟩
      · have h4' : c = 4 := by
          have : (c : Int) = 4 := by simpa using hb4
          (first | lia | omega)
        exact k _ _ s04 (.inr ⟨rfl, fun L hO hl => hno' L hO (by (first | lia | omega))⟩)
      · have h4' : c ≠ 4 := fun z => hb4 (by rw [z]; rfl)
        refine ⟨Nat.zero_le _, fun lo flo => ?_⟩
        have hra5 : (upd H4 lo (.lst [])) ra = some (.lst xs) := (same_upd flo) _ _ (s4 _ _ hra)
        have hsi4 := s34 _ _ hsi
        have pss4 := pd_same (dT_same s34) pss
        have px4 := pd_same (dT_same s4) px
        have hsil : ss.length = (ordersM n n.toNat).length := by
          have := Paired.length pss
          rw [List.length_map] at this
          exact this.symm
        have hbd : ∀ i, i ≤ 4914 → i * ss.length ≤ 200000 * 32 := fun i hi => by
          have : ss.length ≤ 1296 := by (first | lia | omega)
          calc i * ss.length ≤ 4914 * 1296 := Nat.mul_le_mul hi this
            _ ≤ 200000 * 32 := by decide
        refine ⟨_, rfl, ra, rfl, ⟨_, SqL.of hra5⟩, for_list (K := K) (a := ra) (xs := xs) (fun i σ H' => ∃ (v6 : Option V) (ys : List V), σ = [some (.int n), some (.ref b), some (.ref si), some (.ref ra), some (.int (c : Int)), some (.ref lo), v6] ∧ Same H4 H' ∧ H' lo = some (.lst ys) ∧
            Paired (dT H') ((R.take i).flatMap fun r => ((ordersM n n.toNat).map fun o => leadsM n [o]).map (addL r)) ys ∧ ys.length = i * ss.length)
          ⟨v6, [], rfl, same_upd flo, upd_same, .nil, by rw [Nat.zero_mul]; rfl⟩ (fun i σ H' _ ⟨_, _, _, z, _⟩ => SqL.of (z _ _ (s4 _ _ hra))) ?_ ?_⟩
        · rintro i x σ H5 hi ⟨v6', ys, rfl, s5, hlo, pl, hyl⟩
          obtain ⟨r, hr, q, rfl, hq⟩ := paired_get px4 hi
          have hil : i < R.length := (List.getElem?_eq_some_iff.mp hr).1
          have hrl := row_len ((hR r).mp (List.mem_of_getElem? hr))
          have hq5 := s5 _ _ hq
          have hsi5 := s5 _ _ hsi4
          have pss5 := pd_same (dT_same s5) pss4
          refine ⟨_, rfl, .inl ⟨rfl, _, SqL.of hlo⟩, ?_⟩
          refine ⟨_, rfl, si, rfl, ⟨_, SqL.of hsi5⟩, fun l2 fl2 => comp_list' (xs := ss) (fun j acc H' => Same H5 H' ∧ H' l2 = some (.lst acc) ∧ Paired (dT H') ((((ordersM n n.toNat).map fun o => leadsM n [o]).take j).map (addL r)) acc ∧ acc.length = j)
            ⟨same_upd fl2, upd_same, .nil, rfl⟩ (fun j acc H' _ ⟨z1, z2, _⟩ => ⟨SqL.of (z1 _ _ hsi5), z2⟩) ?_ ?_⟩
          · rintro j x acc H6 hj hlt ⟨s6, hl6, pa6, hal6⟩
            obtain ⟨mo, hmo, q2, rfl, hq2⟩ := paired_get pss5 hj
            have hml : mo.length = (pairsM n).length := by
              obtain ⟨o, _, rfl⟩ := List.mem_map.mp (List.mem_of_getElem? hmo)
              exact List.length_map _
            refine ⟨small (by (first | lia | omega)), ⟨rfl, rfl⟩, tYes_mk ?_⟩
            have hq6 := s6 _ _ hq5
            have hq26 := s6 _ _ hq2
            refine ⟨_, rfl, q, _, rfl, .inr (SqT.of hq6), _, rfl, by (first | lia | omega), by rw [List.length_map]; (first | lia | omega), fun l3 fl3 => comp_range' (lo := 0) (m0 := (((r.map V.int).length : Nat) : Int).toNat) (fun z acc3 H' => Same H6 H' ∧ H' l3 = some (.lst acc3) ∧ acc3 = ((List.range z).map fun z => r.getD z 0 + mo.getD z 0).map V.int)
              ⟨same_upd fl3, upd_same, rfl⟩ (fun z acc3 H' _ ⟨_, zz, _⟩ => zz) ?_ ?_⟩
            · rintro z acc3 H7 hz ⟨s7, hl7, rfl⟩
              have hz' : z < r.length := by rw [List.length_map] at hz; (first | lia | omega)
              have hz2 : z < mo.length := by (first | lia | omega)
              refine ⟨small (by rw [List.length_map, List.length_map, List.length_range]; (first | lia | omega)), ⟨rfl, rfl⟩, tYes_mk ?_⟩
              have a1 : atI (r.map V.int) ((0 : Int) + (z : Nat)) = some (V.int (r.getD z 0)) := by
                rw [Int.zero_add]
                refine atI_nat ?_
                rw [List.getElem?_map, List.getElem?_eq_getElem hz', List.getD_eq_getElem?_getD, List.getElem?_eq_getElem hz']
                rfl
              have a2 : atI (mo.map V.int) ((0 : Int) + (z : Nat)) = some (V.int (mo.getD z 0)) := by
                rw [Int.zero_add]
                refine atI_nat ?_
                rw [List.getElem?_map, List.getElem?_eq_getElem hz2, List.getD_eq_getElem?_getD, List.getElem?_eq_getElem hz2]
                rfl
              refine ⟨_, rfl, _, rfl, q, _, _, _, rfl, rfl, SqT.of (s7 _ _ hq6), a1, _, rfl, _, rfl, q2, _, _, _, rfl, rfl, SqT.of (s7 _ _ hq26), a2, _, _, rfl, rfl, hl7, Nx.mk hz ⟨same_upd' s7 fl3, upd_same, ?_⟩⟩
              rw [List.range_succ, List.map_append, List.map_append]
              rfl
            · rintro acc3 H7 ⟨s7, hl7, rfl⟩
              have e3 : (List.range ((((r.map V.int).length : Nat) : Int).toNat)).map (fun z => r.getD z 0 + mo.getD z 0) = addL r mo := by
                rw [List.length_map, show ((r.length : Int)).toNat = r.length from rfl]
                exact add_range (by (first | lia | omega))
              rw [e3] at hl7
              refine ⟨l3, _, rfl, .inl ⟨SqL.of hl7, fun t ft => ?_⟩⟩
              have t7 := same_upd (o := .tup ((addL r mo).map V.int)) ft
              have u7 := s7.trans t7
              have hl8 := u7 _ _ hl6
              refine ⟨hl8, Nx.mk hlt ⟨same_upd' (s6.trans u7) fl2, upd_same, ?_, by rw [List.length_append, List.length_singleton]; (first | lia | omega)⟩⟩
              rw [List.take_add_one, hmo, List.map_append]
              refine pd_append (pd_same (fun _ _ ⟨c, e, hc⟩ => ⟨c, e, by rw [upd_ne (ne_of (u7 _ _ hc) hl8 (by intro z; cases z))]; exact u7 _ _ hc⟩) pa6) (.cons ⟨t, rfl, ?_⟩ .nil)
              rw [upd_ne (ne_of upd_same hl8 (by intro z; cases z)), upd_same]
          · rintro acc H6 ⟨s6, hl6, pa6, hal6⟩
            rw [List.take_of_length_le (by rw [List.length_map]; (first | lia | omega))] at pa6
            have hlo6 := s6 _ _ hlo
            have hb1 := hbd (i + 1) (by (first | lia | omega))
            rw [Nat.succ_mul] at hb1
            refine ⟨lo, l2, ys, acc, rfl, rfl, hlo6, hl6, by rw [sizeLine_eq]; (first | lia | omega), ?_⟩
            refine ⟨_, ys ++ acc, rfl, same_upd' (s5.trans s6) flo, upd_same, ?_, by rw [List.length_append, Nat.succ_mul]; (first | lia | omega)⟩
            rw [List.take_add_one, hr, List.flatMap_append]
            have e : (some r).toList.flatMap (fun r => ((ordersM n n.toNat).map fun o => leadsM n [o]).map (addL r)) = ((ordersM n n.toNat).map fun o => leadsM n [o]).map (addL r) := by
              show ([r] : List (List Int)).flatMap _ = _
              rw [List.flatMap_cons, List.flatMap_nil, List.append_nil]
            rw [e]
            refine pd_append (pd_same (fun _ _ ⟨c, e, hc⟩ => ⟨c, e, by rw [upd_ne (ne_of (s6 _ _ hc) hlo6 (by intro z; cases z))]; exact s6 _ _ hc⟩) pl) (pd_same (fun _ _ ⟨c, e, hc⟩ => ⟨c, e, by rw [upd_ne (ne_of hc hlo6 (by intro z; cases z))]; exact hc⟩) pa6)
        · rintro σ H5 ⟨v6', ys, rfl, s5, hlo, pl, hyl⟩
          rw [List.take_of_length_le (by (first | lia | omega))] at pl
          refine ⟨_, rfl, lo, ys, _, RowOf n (c + 1), rfl, SqL.of hlo, pl, fun r hr => (rows_step hR r).mp hr, rows_few h1 h4 (by (first | lia | omega)) fun o ho => ordersM_mem ho, fun hm r hr => ?_, fun l' ys' W' fl' hnd hmem pw => ?_⟩
          · have e1 := row_len ((rows_step hR _).mp hm)
            have e2 := row_len ((rows_step hR _).mp hr)
            exact List.eq_nil_of_length_eq_zero (e2.trans e1.symm)
          · have hrow : ∀ r, r ∈ W' ↔ RowOf n (c + 1) r := fun r => (hmem r).trans (rows_step hR r)
            have u5 := same_upd (o := .lst ys') fl'
            refine ⟨_, rfl, _, _, rfl, rfl, m - 1, by (first | lia | omega), c + 1, l', ys', W', _, _, by (first | lia | omega), rfl, (s34.trans s5).trans u5, upd_same, ?_, hrow, rows_few h1 h4 (by (first | lia | omega)) (fun o ho => ordersM_mem ho) W' hnd fun r hr => (hrow r).mp hr, hno'⟩
            exact pd_same (dT_same u5) pw
    · have h0 : ¬ acc.length = 0 := fun z => hb (by rw [z]; rfl)
      have hex : ∃ L, Ords n L ∧ L.length = c ∧ (leadsM n L).map sgI = ws := by
        apply Classical.byContradiction
        intro hn
        exact h0 (some_iff.mpr fun L hO hl e => hn ⟨L, hO, hl, e⟩)
      exact ⟨_, rfl, k _ _ s04 (.inl ⟨c, rfl, by (first | lia | omega), hex, hno⟩)⟩
end
end Bm
namespace Bm
open PySem L2
noncomputable def spLaw (K : PySem.W.Frag) : Sp := fun vs H Q _ => ∃ (a : Addr) (ns : List Int), vs = [.ref a] ∧ SqL K H a (ns.map V.int) ∧ ns.length ≤ 63 ∧ ∀ H', Q (.bl true) H'
theorem okP_sg {w x : Int} (hw : w = 1 ∨ w = -1 ∨ w = 0) : okP w x 0 ↔ sgI x = w := by
  rw [sg_spec hw]
  unfold okP
  rcases hw with rfl | rfl | rfl
  · constructor
    · rintro ⟨_, h⟩; have := h (by decide); (first | lia | omega)
    · rintro h; exact ⟨fun z => absurd z (by decide), fun _ => by (first | lia | omega)⟩
  · constructor
    · rintro ⟨_, h⟩; have := h (by decide); (first | lia | omega)
    · rintro h; exact ⟨fun z => absurd z (by decide), fun _ => by (first | lia | omega)⟩
  · constructor
    · rintro ⟨h, _⟩; have := h rfl; (first | lia | omega)
    · rintro h; exact ⟨fun _ => by (first | lia | omega), fun z => absurd rfl z⟩
theorem signs_web {n : Int} {L : List (List Int)} (hO : Ords n L) {W : List (Int × Int)} (g : Good n W) : (leadsM n L).map sgI = wishM n W ↔ beatsC n L = webC n W := by
  rw [← reach_web hO g]
  have hw := wishM_ok g
  unfold leadsM wishM at *
  rw [List.map_map, List.map_inj_left]
  constructor
  · intro h i w x h1 h2
    rw [List.getElem?_map] at h1 h2
    obtain ⟨b, hb, rfl⟩ := Option.map_eq_some_iff.mp h1
    rw [hb] at h2
    cases h2
    have hm := List.mem_of_getElem? hb
    exact (okP_sg (hw _ (List.mem_map.mpr ⟨b, hm, rfl⟩))).mpr (h b hm)
  · intro h b hm
    obtain ⟨i, hi, e⟩ := List.getElem_of_mem hm
    have hb : (pairsM n)[i]? = some b := by rw [List.getElem?_eq_getElem hi, e]
    exact (okP_sg (hw _ (List.mem_map.mpr ⟨b, hm, rfl⟩))).mp (h i _ _ (by rw [List.getElem?_map, hb]; rfl) (by rw [List.getElem?_map, hb]; rfl))
section
variable {P : Program} {w : World} {K : PySem.W.Frag} {mg : Str → Option Value} {base : Heap}
theorem sc_law : FnScope ["script", "many", "web", "least", "handed", "turn", "found"] ["script"] (defScope sLaw) := ⟨rfl, rfl, rfl, by decide +kernel, rfl, by decide +kernel, by decide +kernel⟩
theorem ok_law (d : Def K mg "law" sLaw ["script"]) (B : Blt mg) (dC : Def K mg "_law_cell_at" sCellAt ["script", "k"]) (GC : FnOk P w K mg base CX0 1 dC.f dC.fd ["script", "k"] (spCell K))
    (dWb : Def K mg "_law_web" sLawWeb ["script", "start", "many"]) (GWb : FnOk P w K mg base CX0 2 dWb.f dWb.fd ["script", "start", "many"] (spLawWeb K))
    (dB : Def K mg "_law_beats" sBeats ["many", "voters"]) (GB : FnOk P w K mg base CX0 2 dB.f dB.fd ["many", "voters"] (spWebP K))
    (dV : Def K mg "_law_voters" sVoters ["script", "start", "many", "most"]) (GV : FnOk P w K mg base CX0 2 dV.f dV.fd ["script", "start", "many", "most"] (spLawVoters K))
    (dLe : Def K mg "_law_least" sLeast ["many", "wished"]) (GLe : FnOk P w K mg base CX0 3 dLe.f dLe.fd ["many", "wished"] (spLeast K))
    (dWi : Def K mg "_law_wished" sWished ["many", "web"]) (GWi : FnOk P w K mg base CX0 1 dWi.f dWi.fd ["many", "web"] (spWished4 K))
    (dFe : Def K mg "fewest" sFewest ["many", "web"]) (GFe : FnOk P w K mg base CX0 15 dFe.f dFe.fd ["many", "web"] (spFewest K))
    (dIV : Def K mg "_law_is_voters" sIsVoters ["found", "many"]) (GIV : FnOk P w K mg base CX0 3 dIV.f dIV.fd ["found", "many"] (spIsVoters K)) : FnOk P w K mg base CX0 16 d.f d.fd ["script"] (spLaw K) := by
  refine d.F.ok sc_law (fun vs H Q E h => ?_) (fun cdv A outer s H vs Q E hr h => ?_)
  · obtain ⟨a, ns, rfl, _⟩ := h
    rfl
  · obtain ⟨a, ns, rfl, hS, hlen, k⟩ := h
    refine ⟨_, pss_cons (ps_set (i := 1) sc_law.nd rfl (Or.inl rfl) (pe_op op_add pe_int (pe_op op_mod (pe_call GC (hr.mono (by decide)) (by rfl) dC.mgf dC.F.kp dC.b .nil pass0 (pa_cons (pv 0) (pa_cons pe_int pa_nil))) pe_int)))
      (pss_cons (ps_set (i := 2) sc_law.nd rfl (Or.inl rfl) (pe_call GWb (hr.mono (by decide)) (by rfl) dWb.mgf dWb.F.kp dWb.b .nil pass0 (pa_cons (pv 0) (pa_cons pe_int (pa_cons (pv 1) pa_nil)))))
      (pss_cons (ps_cut (ps_if (pt_cmpR op_eq (pe_op op_mod (pe_call GC (hr.mono (by decide)) (by rfl) dC.mgf dC.F.kp dC.b .nil pass0 (pa_cons (pv 0) (pa_cons pe_int pa_nil))) pe_int) pe_int (nomark _)) (pss_one (ps_set (i := 2) sc_law.nd rfl (Or.inl rfl) (pe_call GB (hr.mono (by decide)) (by rfl) dB.mgf dB.F.kp dB.b .nil pass0 (pa_cons (pv 1) (pa_cons (pe_call GV (hr.mono (by decide)) (by rfl) dV.mgf dV.F.kp dV.b .nil pass0 (pa_cons (pv 0) (pa_cons pe_int (pa_cons (pv 1) (pa_cons pe_int pa_nil))))) pa_nil))))) pss_nil))
      (pss_cons (ps_set (i := 3) sc_law.nd rfl (Or.inl rfl) (pe_call GLe (hr.mono (by decide)) (by rfl) dLe.mgf dLe.F.kp dLe.b .nil pass0 (pa_cons (pv 1) (pa_cons (pe_call GWi (hr.mono (by decide)) (by rfl) dWi.mgf dWi.F.kp dWi.b .nil pass0 (pa_cons (pv 1) (pa_cons (pv 2) pa_nil))) pa_nil))))
      (pss_cons (ps_cut (ps_if (pt_cmpR op_isN (pv 3) pe_non (nomark _)) (pss_cons (ps_set (i := 2) sc_law.nd rfl (Or.inl rfl) (pe_call GB (hr.mono (by decide)) (by rfl) dB.mgf dB.F.kp dB.b .nil pass0 (pa_cons (pv 1) (pa_cons (pe_slice sl_list (pe_call GV (hr.mono (by decide)) (by rfl) dV.mgf dV.F.kp dV.b .nil pass0 (pa_cons (pv 0) (pa_cons pe_int (pa_cons (pv 1) (pa_cons pe_int pa_nil))))) po_none (po_some pe_int)) pa_nil))))
        (pss_one (ps_set (i := 3) sc_law.nd rfl (Or.inl rfl) (pe_call GLe (hr.mono (by decide)) (by rfl) dLe.mgf dLe.F.kp dLe.b .nil pass0 (pa_cons (pv 1) (pa_cons (pe_call GWi (hr.mono (by decide)) (by rfl) dWi.mgf dWi.F.kp dWi.b .nil pass0 (pa_cons (pv 1) (pa_cons (pv 2) pa_nil))) pa_nil)))))) pss_nil))
      (pss_cons (ps_set (i := 4) sc_law.nd rfl (Or.inl rfl) (pe_callTy call_list_of (by rfl) B.list PyProof.Rows.boot_list (pa_cons (pv 2) pa_nil)))
      (pss_cons (ps_for PassesOwn.never rfl (pi_range1 (by rfl) B.range (pa_cons pe_int pa_nil)) (pg_name (i := 5) sc_law.nd rfl (Or.inl rfl))
        (pss_cons (ps_set (i := 6) sc_law.nd rfl (Or.inl rfl) (pe_call GFe hr (by rfl) dFe.mgf dFe.F.kp dFe.b .nil pass0 (pa_cons (pv 1) (pa_cons (pv 4) pa_nil))))
        (pss_cons (ps_if (pw_or (pt_not (pt_val (pe_call GIV (hr.mono (by decide)) (by rfl) dIV.mgf dIV.F.kp dIV.b .nil pass0 (pa_cons (pv 6) (pa_cons (pv 1) pa_nil))))) (pw_or (pt_cmpR op_ne (pe_callB call_len_seq (by rfl) B.len PySem.boot_len (pa_cons (pv 6) pa_nil)) (pv 3) (nomark _)) (pw_or1 (pt_cmpR (op_neL eq_dP_ok (hu2_of hr)) (pv 4) (pv 2) (nomark _))))).pt pss_never pss_nil)
        (pss_cons (ps_if (pt_cmpR (op_neL eq_dP_ok (hu2_of hr)) (pe_call GB (hr.mono (by decide)) (by rfl) dB.mgf dB.F.kp dB.b .nil pass0 (pa_cons (pv 1) (pa_cons (pv 6) pa_nil))) (pe_callB call_sortedP (by rfl) B.sorted PyProof.Rows.boot_sorted (pa_cons (pv 2) pa_nil)) (nomark _)) pss_never pss_nil)
        (pss_one (ps_expr (pe_bm PySem.F.plainAttrs_list PySem.F.slot_list_append PySem.F.type_list_append mt_append (pv 6) (pa_cons (pe_tup pa_nil) pa_nil))))))))
      (pss_one (ps_ret pe_bl)))))))), ?_⟩
    -- many
    refine ⟨_, rfl, a, ns, 0, rfl, hS, by decide, _, _, rfl, rfl, (by show (0 : Int) < 4; decide), _, _, rfl, rfl, ?_⟩
    obtain ⟨n, en, h1, h4⟩ : ∃ n, 1 + ns.getD (0 : Int).toNat 0 % 4 = n ∧ 1 ≤ n ∧ n ≤ 4 := ⟨_, rfl, by have := Int.emod_nonneg (ns.getD (0 : Int).toNat 0) (by decide : (4 : Int) ≠ 0); (first | lia | omega), by have := Int.emod_lt_of_pos (ns.getD (0 : Int).toNat 0) (by decide : (0 : Int) < 4); (first | lia | omega)⟩
    dsimp only
    rw [en]
    have h6 : n ≤ 6 := by (first | lia | omega)
    refine ⟨_, rfl, _, rfl, a, ns, 1, n, rfl, hS, by decide, h1, h6, fun H1 wb0 ws0 W0 s1 fwb0 hwb0 pw0 g0 => ?_⟩
    have hS1 := s1.seq hS
    -- the web
    refine ⟨fun σ H' => ∃ (wb : Addr) (ws : List V) (W : List (Int × Int)), σ = [some (.ref a), some (.int n), some (.ref wb), none, none, none, none] ∧ Same H1 H' ∧ H' wb = some (.lst ws) ∧ Paired (dP H') W ws ∧ Good n W, ?_, ?_⟩
    · refine ⟨_, rfl, a, ns, 3, rfl, hS1, by decide, _, _, rfl, rfl, (by show (0 : Int) < 3; decide), rfl, _, rfl, ite2 (fun hb => ?_) (fun hb => ?_)⟩
      · refine ⟨_, rfl, _, rfl, _, rfl, a, ns, 4, n, 3, rfl, hS1, by decide, h1, h6, by decide, by decide, fun H2 vp vs L s2 fvp hvp pvs hOL hLl => ?_⟩
        exact ⟨n, vp, L, rfl, h1, h6, ⟨vs, SqL.of hvp, pvs⟩, hOL, by (first | lia | omega), fun H3 bb bs s3 fbb hbb pbb => ⟨bb, bs, _, rfl, s2.trans s3, hbb, pbb, beats_good h6 hOL⟩⟩
      · exact ⟨wb0, ws0, W0, rfl, Same.refl _, hwb0, pw0, g0⟩
    rintro σ H2 ⟨wb1, ws1, W1, rfl, s2, hwb1, pw1, g1⟩
    have hwl : ∀ W : List (Int × Int), (wishM n W).length = (pairsM n).length := fun W => List.length_map _
    refine ⟨_, rfl, _, rfl, _, rfl, n, wb1, W1, rfl, h1, h6, ⟨ws1, SqL.of hwb1, pw1⟩, fun H3 wi s3 fwi hwi => ⟨n, wi, wishM n W1, rfl, h1, h4, hwi, hwl W1, fun H4 v s4 hv => ?_⟩⟩
    have s24 := s3.trans s4
    -- the least
    refine ⟨fun σ H' => ∃ (wb : Addr) (ws : List V) (W : List (Int × Int)) (c : Nat), σ = [some (.ref a), some (.int n), some (.ref wb), some (.int (c : Int)), none, none, none] ∧ Same H1 H' ∧ H' wb = some (.lst ws) ∧ Paired (dP H') W ws ∧ Good n W ∧ (∃ L, Ords n L ∧ L.length = c ∧ beatsC n L = webC n W) ∧ ∀ L, Ords n L → beatsC n L = webC n W → c ≤ L.length, ?_, ?_⟩
    · refine ⟨_, rfl, rfl, _, rfl, ?_⟩
      rcases hv with ⟨c, rfl, hc4, ⟨L, hO, hl, he⟩, hmin⟩ | ⟨rfl, hnone⟩
      · refine iteN (by intro z; cases z) ?_
        exact ⟨wb1, ws1, W1, c, rfl, s2.trans s24, s24 _ _ hwb1, pd_same (dP_same s24) pw1, g1, ⟨L, hO, hl, (signs_web hO g1).mp he⟩, fun M hM e => Nat.le_of_not_lt fun z => hmin M hM z ((signs_web hM g1).mpr e)⟩
      · refine iteP rfl ?_
        refine ⟨_, rfl, _, rfl, _, rfl, a, ns, 4, n, 3, rfl, (s2.trans s24).seq hS1, by decide, h1, h6, by decide, by decide, fun H5 vp vs L s5 fvp hvp pvs hOL hLl => ?_⟩
        refine ⟨_, rfl, vp, vs, rfl, SqL.of hvp, fun t ft => ?_⟩
        rw [cut_take _ (by decide)]
        have u5 := same_upd (o := .lst (vs.take (4 : Int).toNat)) ft
        have hO4 : Ords n (L.take 4) := ords_take hOL 4
        refine ⟨n, t, L.take 4, rfl, h1, h6, ⟨_, SqL.of upd_same, pd_same (dT_same u5) (pd_take 4 pvs)⟩, hO4, by rw [List.length_take]; (first | lia | omega), fun H6 bb bs s6 fbb hbb pbb => ?_⟩
        have g2 := beats_good h6 hO4
        refine ⟨_, rfl, _, rfl, _, rfl, n, bb, _, rfl, h1, h6, ⟨bs, SqL.of hbb, pbb⟩, fun H7 wi2 s7 fwi2 hwi2 => ⟨n, wi2, _, rfl, h1, h4, hwi2, hwl _, fun H8 v2 s8 hv2 => ?_⟩⟩
        have s78 := s7.trans s8
        rcases hv2 with ⟨c, rfl, hc4, ⟨M, hO, hl, he⟩, hmin⟩ | ⟨rfl, hnone2⟩
        · exact ⟨bb, bs, _, c, rfl, (((s2.trans s24).trans s5).trans u5).trans (s6.trans s78), s78 _ _ hbb, pd_same (dP_same s78) pbb, g2, ⟨M, hO, hl, (signs_web hO g2).mp he⟩, fun M' hM e => Nat.le_of_not_lt fun z => hmin M' hM z ((signs_web hM g2).mpr e)⟩
        · exact absurd ((signs_web hO4 g2).mpr (webC_self h6 hO4).symm) (hnone2 _ hO4 (by rw [List.length_take]; (first | lia | omega)))
    rintro σ H5 ⟨wb, ws, W, c, rfl, s5, hwb, pw, g, ⟨L0, hO0, hl0, hb0⟩, hmin⟩
    refine ⟨_, rfl, wb, ws, rfl, .inl (SqL.of hwb), fun hd fhd => ?_⟩
    have u6 := same_upd (o := .lst ws) fhd
    have hwb6 := u6 _ _ hwb
    have pw6 := pd_same (dP_same u6) pw
    have hhd6 : (upd H5 hd (.lst ws)) hd = some (.lst ws) := upd_same
    generalize upd H5 hd (.lst ws) = H6 at u6 hwb6 pw6 hhd6 ⊢
    have hWd : WAt K H6 hd W := ⟨ws, SqL.of hhd6, pw6⟩
    have hw64 : W.length < 64 := by have := web_len h1 h4 g; (first | lia | omega)
    have web_is : ∀ {W' : List (Int × Int)}, W'.Perm W → W'.Pairwise (fun b c => lexB b c = true) → W' = webC n W := fun hp hs => webC_of g (fun x => hp.mem_iff) (pw_lex hs)
    refine ⟨2, rfl, by decide, by decide, for_range (n := 2) (fun i σ H' => ∃ v5 v6 : Option V, σ = [some (.ref a), some (.int n), some (.ref wb), some (.int (c : Int)), some (.ref hd), v5, v6] ∧ Same H6 H') ⟨_, _, rfl, Same.refl _⟩ ?_ ?_⟩
    · rintro i σ H7 hi ⟨v5, v6, rfl, s7⟩
      refine ⟨_, rfl, _, rfl, n, hd, W, rfl, h1, h4, hWd.same s7, g, fun H8 fd xs L s8 ffd hfd px hO hbe hmn hL12 => ?_⟩
      have s68 := s7.trans s8
      refine ⟨_, rfl, _, rfl, fd, L, n, rfl, h1, h6, ⟨xs, SqL.of hfd, px⟩, hO, fun H9 s9 => ⟨true, rfl, iteF ?_⟩⟩
      have s69 := s68.trans s9
      have hxl := Paired.length px
      have hcl : (xs.length : Int) = (c : Int) := by
        have e1 := hmin L hO hbe
        have e2 := hmn L0 hO0 hb0
        (first | lia | omega)
      refine ⟨_, rfl, fd, xs, rfl, .inl (SqL.of (s9 _ _ hfd)), _, rfl, rfl, _, rfl, iteNS (by rw [hcl]) ?_⟩
      refine ⟨_, rfl, _, rfl, hd, wb, ws, ws, W, W, rfl, rfl, SqL.of (s69 _ _ hhd6), SqL.of (s69 _ _ hwb6), pd_same (dP_same s69) pw6, pd_same (dP_same s69) pw6, _, rfl, iteS rfl ?_⟩
      refine ⟨_, rfl, _, rfl, n, fd, L, rfl, h1, h6, ⟨xs, SqL.of (s9 _ _ hfd), pd_same (dT_same s9) px⟩, hO, by (first | lia | omega), fun HA bb bs sA fbb hbb pbb => ?_⟩
      have s6A := s69.trans sA
      refine ⟨_, rfl, wb, ws, W, rfl, SqL.of (s6A _ _ hwb6), pd_same (dP_same s6A) pw6, g.nodup, hw64, fun l2 ys2 W2 fl2 hp2 hs2 pl2 => ?_⟩
      have sB := same_upd (o := .lst ys2) fl2
      refine ⟨bb, l2, bs, ys2, _, W2, rfl, rfl, SqL.of (sB _ _ hbb), SqL.of upd_same, pd_same (dP_same sB) pbb, pd_same (dP_same sB) pl2, _, rfl, iteS (by rw [web_is hp2 hs2, hbe]) ?_⟩
      have s8B := s9.trans (sA.trans sB)
      refine ⟨_, rfl, .inl ⟨rfl, _, SqL.of (s8B _ _ hfd)⟩, Nat.zero_le _, fun t ft => ?_⟩
      refine ⟨fd, xs, _, rfl, rfl, (same_upd ft) _ _ (s8B _ _ hfd), small1000 (by (first | lia | omega)), ?_⟩
      exact ⟨_, _, rfl, same_upd' ((s68.trans s8B).trans (same_upd ft)) (s7.free ffd)⟩
    · rintro σ H7 ⟨v5, v6, rfl, s7⟩
      exact k _
end
end Bm
namespace Bm
open PySem L2
noncomputable def mkDef {K : PySem.W.Frag} {h : Heap} {mg : Str → Option Value} (X : K.In h) (G : h.Ns mainGlobals mg) {x : Str} {st : Stmt} {ps : List Str} {f : Addr} {oc : Value} {od an : Option Addr} {osl : Array (Option Value)} {kV doc pm cdv ct : Value}
    (a : PySem.W.nsIn K mainGlobals x = some (some (.ref f))) (l : K.lookup f = some ⟨oc, od, .func (PySem.W.fnOf x x (defArgs st) (defBody st) (defScope st) .none kV doc pm an cdv ct), osl⟩) (c : PySem.W.codeIn K cdv x = true) (k : PySem.W.keepIn K (.ref f) = true)
    (hb : ∀ (kV doc pm : Value) (an : Option Addr) (cdv ct : Value) (us : List Value), us.length = ps.length → bindArgs (PySem.W.fnOf x x (defArgs st) (defBody st) (defScope st) .none kV doc pm an cdv ct) ⟨us, []⟩ = pure (ps.zip us)) : Def K mg x st ps :=
  ⟨f, _, fun_mk (st := st) l c k, PySem.W.mg_of X G a, (fun_mk (st := st) l c k).binds hb⟩
theorem len1 {C : List Value → Prop} (k : ∀ a : Value, C [a]) : ∀ us : List Value, us.length = 1 → C us := by
  intro us h
  cases us with
  | nil => cases h
  | cons a t =>
    cases t with
    | nil => exact k a
    | cons b t => cases h
theorem len2 {C : List Value → Prop} (k : ∀ a b : Value, C [a, b]) : ∀ us : List Value, us.length = 2 → C us := by
  intro us h
  cases us with
  | nil => cases h
  | cons a t =>
    exact len1 (C := fun l => C (a :: l)) (fun b => k a b) t (Nat.succ.inj h)
theorem len3 {C : List Value → Prop} (k : ∀ a b c : Value, C [a, b, c]) : ∀ us : List Value, us.length = 3 → C us := by
  intro us h
  cases us with
  | nil => cases h
  | cons a t =>
    exact len2 (C := fun l => C (a :: l)) (fun b c => k a b c) t (Nat.succ.inj h)
theorem len4 {C : List Value → Prop} (k : ∀ a b c d : Value, C [a, b, c, d]) : ∀ us : List Value, us.length = 4 → C us := by
  intro us h
  cases us with
  | nil => cases h
  | cons a t =>
    exact len3 (C := fun l => C (a :: l)) (fun b c d => k a b c d) t (Nat.succ.inj h)
theorem len5 {C : List Value → Prop} (k : ∀ a b c d e : Value, C [a, b, c, d, e]) : ∀ us : List Value, us.length = 5 → C us := by
  intro us h
  cases us with
  | nil => cases h
  | cons a t =>
    exact len4 (C := fun l => C (a :: l)) (fun b c d e => k a b c d e) t (Nat.succ.inj h)
theorem walkZ {q : Program} {loose : List Str} {XP : (Str → Option Value) → Heap → Prop} {r : PySem.W.RowW} {d : DefRec} {kwd : List (Str × Expr)} {run : Value → List Value → Sem Value} {K : Params → PySem.W.Frag} {as : List Addr} {n t : Nat} (e : ∀ P, as = (K P).map (·.1))
    (h : PySem.W.WalkO q loose XP (fun w h => (K w.params).In h) r d kwd run) : PySem.W.WalkX q loose XP (PySem.W.X.obsZ as) (PySem.W.X.valZ K n t) r d kwd run :=
  fun w s₀ s₁ mg mb G y a o pm cd doc dV kV ho hd hcd hD hmg hg args vals bs L hpre hlay hrd hwl hlo =>
    h w s₀ s₁ mg mb G (PySem.W.InK.keeps w _ _ (PySem.W.X.z_facts e y).2.1 L.keeps) a o pm cd doc dV kV ho hd hcd hD hmg hg args vals bs hpre hlay hrd hwl hlo
theorem all_mk {l : PySem.W.OpenLaw} {w : World} {K : PySem.W.Frag} {h : Heap} {mg : Str → Option Value} {fa f1 f2 f3 f4 f5 f6 f7 f8 f9 f10 f11 f12 f13 f14 f15 f16 f17 f18 f19 f20 f21 f22 f23 f24 f25 : Addr} (X : K.In h) (G : h.Ns mainGlobals mg) (hfa : mg "law" = some (.ref fa))
    {od1 an1 od2 an2 od3 an3 od4 an4 od5 an5 od6 an6 od7 an7 od8 an8 od9 an9 od10 an10 od11 an11 od12 an12 od13 an13 od14 an14 od15 an15 od16 an16 od17 an17 od18 an18 od19 an19 od20 an20 od21 an21 od22 an22 od23 an23 od24 an24 od25 an25 : Option Addr} {sl1 sl2 sl3 sl4 sl5 sl6 sl7 sl8 sl9 sl10 sl11 sl12 sl13 sl14 sl15 sl16 sl17 sl18 sl19 sl20 sl21 sl22 sl23 sl24 sl25 : Array (Option Value)} {oc1 kV1 dc1 pm1 cd1 ct1 oc2 kV2 dc2 pm2 cd2 ct2 oc3 kV3 dc3 pm3 cd3 ct3 oc4 kV4 dc4 pm4 cd4 ct4 oc5 kV5 dc5 pm5 cd5 ct5 oc6 kV6 dc6 pm6 cd6 ct6 oc7 kV7 dc7 pm7 cd7 ct7 oc8 kV8 dc8 pm8 cd8 ct8 oc9 kV9 dc9 pm9 cd9 ct9 oc10 kV10 dc10 pm10 cd10 ct10 oc11 kV11 dc11 pm11 cd11 ct11 oc12 kV12 dc12 pm12 cd12 ct12 oc13 kV13 dc13 pm13 cd13 ct13 oc14 kV14 dc14 pm14 cd14 ct14 oc15 kV15 dc15 pm15 cd15 ct15 oc16 kV16 dc16 pm16 cd16 ct16 oc17 kV17 dc17 pm17 cd17 ct17 oc18 kV18 dc18 pm18 cd18 ct18 oc19 kV19 dc19 pm19 cd19 ct19 oc20 kV20 dc20 pm20 cd20 ct20 oc21 kV21 dc21 pm21 cd21 ct21 oc22 kV22 dc22 pm22 cd22 ct22 oc23 kV23 dc23 pm23 cd23 ct23 oc24 kV24 dc24 pm24 cd24 ct24 oc25 kV25 dc25 pm25 cd25 ct25 : Value} {tM : Tok} {tF : Tok}
    (a1 : PySem.W.nsIn K mainGlobals "check_count" = some (some (.ref f1))) (l1 : K.lookup f1 = some ⟨oc1, od1, .func (PySem.W.fnOf "check_count" "check_count" (defArgs sCheckCount) (defBody sCheckCount) (defScope sCheckCount) .none kV1 dc1 pm1 an1 cd1 ct1), sl1⟩) (c1 : PySem.W.codeIn K cd1 "check_count" = true) (k1 : PySem.W.keepIn K (.ref f1) = true)
    (a2 : PySem.W.nsIn K mainGlobals "check_web" = some (some (.ref f2))) (l2 : K.lookup f2 = some ⟨oc2, od2, .func (PySem.W.fnOf "check_web" "check_web" (defArgs sCheckWeb) (defBody sCheckWeb) (defScope sCheckWeb) .none kV2 dc2 pm2 an2 cd2 ct2), sl2⟩) (c2 : PySem.W.codeIn K cd2 "check_web" = true) (k2 : PySem.W.keepIn K (.ref f2) = true)
    (a3 : PySem.W.nsIn K mainGlobals "lead_among" = some (some (.ref f3))) (l3 : K.lookup f3 = some ⟨oc3, od3, .func (PySem.W.fnOf "lead_among" "lead_among" (defArgs sLeadAmong) (defBody sLeadAmong) (defScope sLeadAmong) .none kV3 dc3 pm3 an3 cd3 ct3), sl3⟩) (c3 : PySem.W.codeIn K cd3 "lead_among" = true) (k3 : PySem.W.keepIn K (.ref f3) = true)
    (a4 : PySem.W.nsIn K mainGlobals "fewest" = some (some (.ref f4))) (l4 : K.lookup f4 = some ⟨oc4, od4, .func (PySem.W.fnOf "fewest" "fewest" (defArgs sFewest) (defBody sFewest) (defScope sFewest) .none kV4 dc4 pm4 an4 cd4 ct4), sl4⟩) (c4 : PySem.W.codeIn K cd4 "fewest" = true) (k4 : PySem.W.keepIn K (.ref f4) = true)
    (a5 : PySem.W.nsIn K mainGlobals "places_of_voters" = some (some (.ref f5))) (l5 : K.lookup f5 = some ⟨oc5, od5, .func (PySem.W.fnOf "places_of_voters" "places_of_voters" (defArgs sPlaces) (defBody sPlaces) (defScope sPlaces) .none kV5 dc5 pm5 an5 cd5 ct5), sl5⟩) (c5 : PySem.W.codeIn K cd5 "places_of_voters" = true) (k5 : PySem.W.keepIn K (.ref f5) = true)
    (a6 : PySem.W.nsIn K mainGlobals "in_reach" = some (some (.ref f6))) (l6 : K.lookup f6 = some ⟨oc6, od6, .func (PySem.W.fnOf "in_reach" "in_reach" (defArgs sInReach) (defBody sInReach) (defScope sInReach) .none kV6 dc6 pm6 an6 cd6 ct6), sl6⟩) (c6 : PySem.W.codeIn K cd6 "in_reach" = true) (k6 : PySem.W.keepIn K (.ref f6) = true)
    (a7 : PySem.W.nsIn K mainGlobals "pairs_of" = some (some (.ref f7))) (l7 : K.lookup f7 = some ⟨oc7, od7, .func (PySem.W.fnOf "pairs_of" "pairs_of" (defArgs sPairsOf) (defBody sPairsOf) (defScope sPairsOf) .none kV7 dc7 pm7 an7 cd7 ct7), sl7⟩) (c7 : PySem.W.codeIn K cd7 "pairs_of" = true) (k7 : PySem.W.keepIn K (.ref f7) = true)
    (a8 : PySem.W.nsIn K mainGlobals "wish_of" = some (some (.ref f8))) (l8 : K.lookup f8 = some ⟨oc8, od8, .func (PySem.W.fnOf "wish_of" "wish_of" (defArgs sWishOf) (defBody sWishOf) (defScope sWishOf) .none kV8 dc8 pm8 an8 cd8 ct8), sl8⟩) (c8 : PySem.W.codeIn K cd8 "wish_of" = true) (k8 : PySem.W.keepIn K (.ref f8) = true)
    (a9 : PySem.W.nsIn K mainGlobals "orders_of" = some (some (.ref f9))) (l9 : K.lookup f9 = some ⟨oc9, od9, .func (PySem.W.fnOf "orders_of" "orders_of" (defArgs sOrdersOf) (defBody sOrdersOf) (defScope sOrdersOf) .none kV9 dc9 pm9 an9 cd9 ct9), sl9⟩) (c9 : PySem.W.codeIn K cd9 "orders_of" = true) (k9 : PySem.W.keepIn K (.ref f9) = true)
    (a10 : PySem.W.nsIn K mainGlobals "steps_of" = some (some (.ref f10))) (l10 : K.lookup f10 = some ⟨oc10, od10, .func (PySem.W.fnOf "steps_of" "steps_of" (defArgs sStepsOf) (defBody sStepsOf) (defScope sStepsOf) .none kV10 dc10 pm10 an10 cd10 ct10), sl10⟩) (c10 : PySem.W.codeIn K cd10 "steps_of" = true) (k10 : PySem.W.keepIn K (.ref f10) = true)
    (a11 : PySem.W.nsIn K mainGlobals "_law_cell_at" = some (some (.ref f11))) (l11 : K.lookup f11 = some ⟨oc11, od11, .func (PySem.W.fnOf "_law_cell_at" "_law_cell_at" (defArgs sCellAt) (defBody sCellAt) (defScope sCellAt) .none kV11 dc11 pm11 an11 cd11 ct11), sl11⟩) (c11 : PySem.W.codeIn K cd11 "_law_cell_at" = true) (k11 : PySem.W.keepIn K (.ref f11) = true)
    (a12 : PySem.W.nsIn K mainGlobals "_law_whole" = some (some (.ref f12))) (l12 : K.lookup f12 = some ⟨oc12, od12, .func (PySem.W.fnOf "_law_whole" "_law_whole" (defArgs sWhole) (defBody sWhole) (defScope sWhole) .none kV12 dc12 pm12 an12 cd12 ct12), sl12⟩) (c12 : PySem.W.codeIn K cd12 "_law_whole" = true) (k12 : PySem.W.keepIn K (.ref f12) = true)
    (a13 : PySem.W.nsIn K mainGlobals "_law_order" = some (some (.ref f13))) (l13 : K.lookup f13 = some ⟨oc13, od13, .func (PySem.W.fnOf "_law_order" "_law_order" (defArgs sOrder) (defBody sOrder) (defScope sOrder) .none kV13 dc13 pm13 an13 cd13 ct13), sl13⟩) (c13 : PySem.W.codeIn K cd13 "_law_order" = true) (k13 : PySem.W.keepIn K (.ref f13) = true)
    (a14 : PySem.W.nsIn K mainGlobals "_law_voters" = some (some (.ref f14))) (l14 : K.lookup f14 = some ⟨oc14, od14, .func (PySem.W.fnOf "_law_voters" "_law_voters" (defArgs sVoters) (defBody sVoters) (defScope sVoters) .none kV14 dc14 pm14 an14 cd14 ct14), sl14⟩) (c14 : PySem.W.codeIn K cd14 "_law_voters" = true) (k14 : PySem.W.keepIn K (.ref f14) = true)
    (a15 : PySem.W.nsIn K mainGlobals "_law_lead" = some (some (.ref f15))) (l15 : K.lookup f15 = some ⟨oc15, od15, .func (PySem.W.fnOf "_law_lead" "_law_lead" (defArgs sLawLead) (defBody sLawLead) (defScope sLawLead) .none kV15 dc15 pm15 an15 cd15 ct15), sl15⟩) (c15 : PySem.W.codeIn K cd15 "_law_lead" = true) (k15 : PySem.W.keepIn K (.ref f15) = true)
    (a16 : PySem.W.nsIn K mainGlobals "_law_beats" = some (some (.ref f16))) (l16 : K.lookup f16 = some ⟨oc16, od16, .func (PySem.W.fnOf "_law_beats" "_law_beats" (defArgs sBeats) (defBody sBeats) (defScope sBeats) .none kV16 dc16 pm16 an16 cd16 ct16), sl16⟩) (c16 : PySem.W.codeIn K cd16 "_law_beats" = true) (k16 : PySem.W.keepIn K (.ref f16) = true)
    (a17 : PySem.W.nsIn K mainGlobals "_law_web" = some (some (.ref f17))) (l17 : K.lookup f17 = some ⟨oc17, od17, .func (PySem.W.fnOf "_law_web" "_law_web" (defArgs sLawWeb) (defBody sLawWeb) (defScope sLawWeb) .none kV17 dc17 pm17 an17 cd17 ct17), sl17⟩) (c17 : PySem.W.codeIn K cd17 "_law_web" = true) (k17 : PySem.W.keepIn K (.ref f17) = true)
    (a18 : PySem.W.nsIn K mainGlobals "_law_orders" = some (some (.ref f18))) (l18 : K.lookup f18 = some ⟨oc18, od18, .func (PySem.W.fnOf "_law_orders" "_law_orders" (defArgs sOrders) (defBody sOrders) (defScope sOrders) .none kV18 dc18 pm18 an18 cd18 ct18), sl18⟩) (c18 : PySem.W.codeIn K cd18 "_law_orders" = true) (k18 : PySem.W.keepIn K (.ref f18) = true)
    (a19 : PySem.W.nsIn K mainGlobals "_law_is_order" = some (some (.ref f19))) (l19 : K.lookup f19 = some ⟨oc19, od19, .func (PySem.W.fnOf "_law_is_order" "_law_is_order" (defArgs sIsOrder) (defBody sIsOrder) (defScope sIsOrder) .none kV19 dc19 pm19 an19 cd19 ct19), sl19⟩) (c19 : PySem.W.codeIn K cd19 "_law_is_order" = true) (k19 : PySem.W.keepIn K (.ref f19) = true)
    (a20 : PySem.W.nsIn K mainGlobals "_law_is_voters" = some (some (.ref f20))) (l20 : K.lookup f20 = some ⟨oc20, od20, .func (PySem.W.fnOf "_law_is_voters" "_law_is_voters" (defArgs sIsVoters) (defBody sIsVoters) (defScope sIsVoters) .none kV20 dc20 pm20 an20 cd20 ct20), sl20⟩) (c20 : PySem.W.codeIn K cd20 "_law_is_voters" = true) (k20 : PySem.W.keepIn K (.ref f20) = true)
    (a21 : PySem.W.nsIn K mainGlobals "_law_leads" = some (some (.ref f21))) (l21 : K.lookup f21 = some ⟨oc21, od21, .func (PySem.W.fnOf "_law_leads" "_law_leads" (defArgs sLeads) (defBody sLeads) (defScope sLeads) .none kV21 dc21 pm21 an21 cd21 ct21), sl21⟩) (c21 : PySem.W.codeIn K cd21 "_law_leads" = true) (k21 : PySem.W.keepIn K (.ref f21) = true)
    (a22 : PySem.W.nsIn K mainGlobals "_law_signs" = some (some (.ref f22))) (l22 : K.lookup f22 = some ⟨oc22, od22, .func (PySem.W.fnOf "_law_signs" "_law_signs" (defArgs sSigns) (defBody sSigns) (defScope sSigns) .none kV22 dc22 pm22 an22 cd22 ct22), sl22⟩) (c22 : PySem.W.codeIn K cd22 "_law_signs" = true) (k22 : PySem.W.keepIn K (.ref f22) = true)
    (a23 : PySem.W.nsIn K mainGlobals "_law_least" = some (some (.ref f23))) (l23 : K.lookup f23 = some ⟨oc23, od23, .func (PySem.W.fnOf "_law_least" "_law_least" (defArgs sLeast) (defBody sLeast) (defScope sLeast) .none kV23 dc23 pm23 an23 cd23 ct23), sl23⟩) (c23 : PySem.W.codeIn K cd23 "_law_least" = true) (k23 : PySem.W.keepIn K (.ref f23) = true)
    (a24 : PySem.W.nsIn K mainGlobals "_law_wished" = some (some (.ref f24))) (l24 : K.lookup f24 = some ⟨oc24, od24, .func (PySem.W.fnOf "_law_wished" "_law_wished" (defArgs sWished) (defBody sWished) (defScope sWished) .none kV24 dc24 pm24 an24 cd24 ct24), sl24⟩) (c24 : PySem.W.codeIn K cd24 "_law_wished" = true) (k24 : PySem.W.keepIn K (.ref f24) = true)
    (a25 : PySem.W.nsIn K mainGlobals "law" = some (some (.ref f25))) (l25 : K.lookup f25 = some ⟨oc25, od25, .func (PySem.W.fnOf "law" "law" (defArgs sLaw) (defBody sLaw) (defScope sLaw) .none kV25 dc25 pm25 an25 cd25 ct25), sl25⟩) (c25 : PySem.W.codeIn K cd25 "law" = true) (k25 : PySem.W.keepIn K (.ref f25) = true)
    (m1 : PySem.W.nsIn K mainGlobals "MOST_THINGS" = some (some (.int 6 tM)))
    (m2 : PySem.W.nsIn K mainGlobals "MOST_THINGS_FOR_FEWEST" = some (some (.int 4 tF)))
    (z1 : PySem.W.nsIn K mainGlobals "range" = some none)
    (z2 : PySem.W.nsIn K mainGlobals "len" = some none)
    (z3 : PySem.W.nsIn K mainGlobals "list" = some none)
    (z4 : PySem.W.nsIn K mainGlobals "sorted" = some none)
    (z5 : PySem.W.nsIn K mainGlobals "tuple" = some none)
    (z6 : PySem.W.nsIn K mainGlobals "isinstance" = some none)
    (z7 : PySem.W.nsIn K mainGlobals "int" = some none)
    (z8 : PySem.W.nsIn K mainGlobals "bool" = some none)
    (z9 : PySem.W.nsIn K mainGlobals "all" = some none)
    (z10 : PySem.W.nsIn K mainGlobals "set" = some none)
    (z11 : PySem.W.nsIn K mainGlobals "reversed" = some none)
    (z12 : PySem.W.nsIn K mainGlobals "str" = some none)
    (z13 : PySem.W.nsIn K mainGlobals "zip" = some none)
    (z14 : PySem.W.nsIn K mainGlobals "abs" = some none)
    : ∃ fd : FuncData, (∀ (s : Shared) (v : Value), BindsTo s fd ⟨[v], []⟩ [("script", v)]) ∧ ∀ base : Heap, K.In base → base.Ns mainGlobals mg → FnOk l.prog w K mg base CX0 16 fa fd ["script"] (spLaw K) := by
  have e := hfa.symm.trans (PySem.W.mg_of X G a25)
  cases e
  let d1 : Def K mg "check_count" sCheckCount ["many"] := mkDef X G a1 l1 c1 k1 fun _ _ _ _ _ _ => len1 fun _ => rfl
  let d2 : Def K mg "check_web" sCheckWeb ["many", "web"] := mkDef X G a2 l2 c2 k2 fun _ _ _ _ _ _ => len2 fun _ _ => rfl
  let d3 : Def K mg "lead_among" sLeadAmong ["voters", "one", "other"] := mkDef X G a3 l3 c3 k3 fun _ _ _ _ _ _ => len3 fun _ _ _ => rfl
  let d4 : Def K mg "fewest" sFewest ["many", "web"] := mkDef X G a4 l4 c4 k4 fun _ _ _ _ _ _ => len2 fun _ _ => rfl
  let d5 : Def K mg "places_of_voters" sPlaces ["steps", "wishes", "leads", "left", "first"] := mkDef X G a5 l5 c5 k5 fun _ _ _ _ _ _ => len5 fun _ _ _ _ _ => rfl
  let d6 : Def K mg "in_reach" sInReach ["wishes", "leads", "left"] := mkDef X G a6 l6 c6 k6 fun _ _ _ _ _ _ => len3 fun _ _ _ => rfl
  let d7 : Def K mg "pairs_of" sPairsOf ["many"] := mkDef X G a7 l7 c7 k7 fun _ _ _ _ _ _ => len1 fun _ => rfl
  let d8 : Def K mg "wish_of" sWishOf ["web", "one", "other"] := mkDef X G a8 l8 c8 k8 fun _ _ _ _ _ _ => len3 fun _ _ _ => rfl
  let d9 : Def K mg "orders_of" sOrdersOf ["things"] := mkDef X G a9 l9 c9 k9 fun _ _ _ _ _ _ => len1 fun _ => rfl
  let d10 : Def K mg "steps_of" sStepsOf ["order", "pairs"] := mkDef X G a10 l10 c10 k10 fun _ _ _ _ _ _ => len2 fun _ _ => rfl
  let d11 : Def K mg "_law_cell_at" sCellAt ["script", "k"] := mkDef X G a11 l11 c11 k11 fun _ _ _ _ _ _ => len2 fun _ _ => rfl
  let d12 : Def K mg "_law_whole" sWhole ["found"] := mkDef X G a12 l12 c12 k12 fun _ _ _ _ _ _ => len1 fun _ => rfl
  let d13 : Def K mg "_law_order" sOrder ["cell", "many"] := mkDef X G a13 l13 c13 k13 fun _ _ _ _ _ _ => len2 fun _ _ => rfl
  let d14 : Def K mg "_law_voters" sVoters ["script", "start", "many", "most"] := mkDef X G a14 l14 c14 k14 fun _ _ _ _ _ _ => len4 fun _ _ _ _ => rfl
  let d15 : Def K mg "_law_lead" sLawLead ["voters", "one", "other"] := mkDef X G a15 l15 c15 k15 fun _ _ _ _ _ _ => len3 fun _ _ _ => rfl
  let d16 : Def K mg "_law_beats" sBeats ["many", "voters"] := mkDef X G a16 l16 c16 k16 fun _ _ _ _ _ _ => len2 fun _ _ => rfl
  let d17 : Def K mg "_law_web" sLawWeb ["script", "start", "many"] := mkDef X G a17 l17 c17 k17 fun _ _ _ _ _ _ => len3 fun _ _ _ => rfl
  let d18 : Def K mg "_law_orders" sOrders ["many"] := mkDef X G a18 l18 c18 k18 fun _ _ _ _ _ _ => len1 fun _ => rfl
  let d19 : Def K mg "_law_is_order" sIsOrder ["found", "many"] := mkDef X G a19 l19 c19 k19 fun _ _ _ _ _ _ => len2 fun _ _ => rfl
  let d20 : Def K mg "_law_is_voters" sIsVoters ["found", "many"] := mkDef X G a20 l20 c20 k20 fun _ _ _ _ _ _ => len2 fun _ _ => rfl
  let d21 : Def K mg "_law_leads" sLeads ["many", "voters"] := mkDef X G a21 l21 c21 k21 fun _ _ _ _ _ _ => len2 fun _ _ => rfl
  let d22 : Def K mg "_law_signs" sSigns ["leads"] := mkDef X G a22 l22 c22 k22 fun _ _ _ _ _ _ => len1 fun _ => rfl
  let d23 : Def K mg "_law_least" sLeast ["many", "wished"] := mkDef X G a23 l23 c23 k23 fun _ _ _ _ _ _ => len2 fun _ _ => rfl
  let d24 : Def K mg "_law_wished" sWished ["many", "web"] := mkDef X G a24 l24 c24 k24 fun _ _ _ _ _ _ => len2 fun _ _ => rfl
  let d25 : Def K mg "law" sLaw ["script"] := mkDef X G a25 l25 c25 k25 fun _ _ _ _ _ _ => len1 fun _ => rfl
  have y1 := PySem.W.mg_none_of X G z1
  have y2 := PySem.W.mg_none_of X G z2
  have y3 := PySem.W.mg_none_of X G z3
  have y4 := PySem.W.mg_none_of X G z4
  have y5 := PySem.W.mg_none_of X G z5
  have y6 := PySem.W.mg_none_of X G z6
  have y7 := PySem.W.mg_none_of X G z7
  have y8 := PySem.W.mg_none_of X G z8
  have y9 := PySem.W.mg_none_of X G z9
  have y10 := PySem.W.mg_none_of X G z10
  have y11 := PySem.W.mg_none_of X G z11
  have y12 := PySem.W.mg_none_of X G z12
  have y13 := PySem.W.mg_none_of X G z13
  have y14 := PySem.W.mg_none_of X G z14
  have x1 := PySem.W.mg_of X G m1
  have x2 := PySem.W.mg_of X G m2
  have B : Blt mg := ⟨y1, y2, y3, y4, y5, y6, y7, y8, y9, y10, y11, y12⟩
  have B2 : Blt2 mg := ⟨y13, y14⟩
  have Gf : Glob4 mg := ⟨tF, x2⟩
  have Gb : Glob mg := ⟨tM, x1⟩
  refine ⟨d25.fd, fun s v => .of_eq rfl, fun base _ _ => ?_⟩
  have G1 := ok_count (P := l.prog) (w := w) (base := base) d1 Gb
  have G2 := ok_checkWeb d2 d1 G1
  have G3 := ok_among (P := l.prog) (w := w) (base := base) d3 B
  have G6 := ok_inReach (P := l.prog) (w := w) (base := base) d6 B2
  have G5 := ok_places d5 B B2 d6 G6
  have G7 := ok_pairsOf (P := l.prog) (w := w) (base := base) d7 B
  have G8 := ok_wishOf (P := l.prog) (w := w) (base := base) d8
  have G9 := ok_ordersOf (P := l.prog) (w := w) (base := base) d9 B
  have G10 := ok_stepsOf d10 d3 G3
  have G4 := ok_fewest d4 B Gf d2 G2 d7 G7 d8 G8 d9 G9 d10 G10 d5 G5
  have G11 := ok_cell (P := l.prog) (w := w) (base := base) d11 B
  have G12 := ok_whole (P := l.prog) (w := w) (base := base) d12 B
  have G13 := ok_order (P := l.prog) (w := w) (base := base) d13 B
  have G14 := ok_lawVoters d14 B d11 G11 d13 G13
  have G15 := ok_lawLead (P := l.prog) (w := w) (base := base) d15 B
  have G16 := ok_beats d16 B d15 G15
  have G17 := ok_lawWeb d17 B d11 G11 d13 G13
  have G18 := ok_orders (P := l.prog) (w := w) (base := base) d18 B
  have G19 := ok_isOrder d19 B d12 G12
  have G20 := ok_isVoters d20 B d19 G19
  have G21 := ok_lawLeads d21 B d15 G15
  have G22 := ok_lawSigns (P := l.prog) (w := w) (base := base) d22 B
  have G23 := ok_lawLeast d23 B d18 G18 d21 G21 d22 G22
  have G24 := ok_lawWished4 (P := l.prog) (w := w) (base := base) d24 B
  exact ok_law d25 B d11 G11 d17 G17 d16 (G16.imp spWebP_of) d14 G14 d23 G23 d24 G24 d4 G4 d20 G20
theorem walk {l : PySem.W.OpenLaw} {q : Program} {loose : List Str} {XP : (Str → Option Value) → Heap → Prop} {YP : World → Heap → Prop} {d : DefRec} {K : Params → PySem.W.Frag} (hn : l.most = some 63) (hdf : d.params.defaults = [])
    (hY : ∀ (w : World) (h : Heap), YP w h → (K w.params).In h)
    (F : ∀ (w : World) (mg : Str → Option Value) (fa : Addr) (h : Heap), (K w.params).In h → h.Ns mainGlobals mg → mg d.name = some (.ref fa) →
      ∃ fd : FuncData, (∀ (s : Shared) (u : Value), BindsTo s fd ⟨[u], []⟩ [("script", u)]) ∧ ∀ base : Heap, (K w.params).In base → base.Ns mainGlobals mg → FnOk l.prog w (K w.params) mg base CX0 16 fa fd ["script"] (spLaw (K w.params))) :
    PySem.W.WalkO q loose XP YP l.row.toRowW d [] (fun f vs => PySem.call f vs) :=
  L2.walk_of (n := 63) (k := 16) (x := "script") (CX := fun _ => CX0) (sp := fun w => spLaw (K w.params)) hn (by decide) hdf ⟨rfl, by decide, by decide⟩ hY F (fun _ _ a ns hl _ hS => ⟨a, ns, rfl, hS, hl, fun _ => rfl⟩) fun _ _ _ _ _ z => z
end Bm
open PySem PySem.W PyProof.Rows
set_option maxRecDepth 100000 in
set_option maxHeartbeats 0 in
theorem PySem.Challenge.cw_beatmakers_k04_whole_the_fewest_voters_holds : PySem.Challenge.rw_beatmakers_k04_whole_the_fewest_voters.Holds := by
  w_on; o_law; z_head; (case hw => w_witness2)
  k_fill
  refine Bm.walkZ (fun _ => by kernel_rfl) (Bm.walk (l := PySem.Challenge.rw_beatmakers_k04_whole_the_fewest_voters) rfl rfl (fun w h Y => Y) ?F)
  case F =>
    intro w mg fa h KX G hmg
    refine' Bm.all_mk KX G hmg ?a1 ?l1 ?c1 ?k1 ?a2 ?l2 ?c2 ?k2 ?a3 ?l3 ?c3 ?k3 ?a4 ?l4 ?c4 ?k4 ?a5 ?l5 ?c5 ?k5 ?a6 ?l6 ?c6 ?k6 ?a7 ?l7 ?c7 ?k7 ?a8 ?l8 ?c8 ?k8 ?a9 ?l9 ?c9 ?k9 ?a10 ?l10 ?c10 ?k10 ?a11 ?l11 ?c11 ?k11 ?a12 ?l12 ?c12 ?k12 ?a13 ?l13 ?c13 ?k13 ?a14 ?l14 ?c14 ?k14 ?a15 ?l15 ?c15 ?k15 ?a16 ?l16 ?c16 ?k16 ?a17 ?l17 ?c17 ?k17 ?a18 ?l18 ?c18 ?k18 ?a19 ?l19 ?c19 ?k19 ?a20 ?l20 ?c20 ?k20 ?a21 ?l21 ?c21 ?k21 ?a22 ?l22 ?c22 ?k22 ?a23 ?l23 ?c23 ?k23 ?a24 ?l24 ?c24 ?k24 ?a25 ?l25 ?c25 ?k25 ?m1 ?m2 ?z1 ?z2 ?z3 ?z4 ?z5 ?z6 ?z7 ?z8 ?z9 ?z10 ?z11 ?z12 ?z13 ?z14
    (case a1 => k_is); (case l1 => k_is); (case c1 => k_is); (case k1 => k_is)
    (case a2 => k_is); (case l2 => k_is); (case c2 => k_is); (case k2 => k_is)
    (case a3 => k_is); (case l3 => k_is); (case c3 => k_is); (case k3 => k_is)
    (case a4 => k_is); (case l4 => k_is); (case c4 => k_is); (case k4 => k_is)
    (case a5 => k_is); (case l5 => k_is); (case c5 => k_is); (case k5 => k_is)
    (case a6 => k_is); (case l6 => k_is); (case c6 => k_is); (case k6 => k_is)
    (case a7 => k_is); (case l7 => k_is); (case c7 => k_is); (case k7 => k_is)
    (case a8 => k_is); (case l8 => k_is); (case c8 => k_is); (case k8 => k_is)
    (case a9 => k_is); (case l9 => k_is); (case c9 => k_is); (case k9 => k_is)
    (case a10 => k_is); (case l10 => k_is); (case c10 => k_is); (case k10 => k_is)
    (case a11 => k_is); (case l11 => k_is); (case c11 => k_is); (case k11 => k_is)
    (case a12 => k_is); (case l12 => k_is); (case c12 => k_is); (case k12 => k_is)
    (case a13 => k_is); (case l13 => k_is); (case c13 => k_is); (case k13 => k_is)
    (case a14 => k_is); (case l14 => k_is); (case c14 => k_is); (case k14 => k_is)
    (case a15 => k_is); (case l15 => k_is); (case c15 => k_is); (case k15 => k_is)
    (case a16 => k_is); (case l16 => k_is); (case c16 => k_is); (case k16 => k_is)
    (case a17 => k_is); (case l17 => k_is); (case c17 => k_is); (case k17 => k_is)
    (case a18 => k_is); (case l18 => k_is); (case c18 => k_is); (case k18 => k_is)
    (case a19 => k_is); (case l19 => k_is); (case c19 => k_is); (case k19 => k_is)
    (case a20 => k_is); (case l20 => k_is); (case c20 => k_is); (case k20 => k_is)
    (case a21 => k_is); (case l21 => k_is); (case c21 => k_is); (case k21 => k_is)
    (case a22 => k_is); (case l22 => k_is); (case c22 => k_is); (case k22 => k_is)
    (case a23 => k_is); (case l23 => k_is); (case c23 => k_is); (case k23 => k_is)
    (case a24 => k_is); (case l24 => k_is); (case c24 => k_is); (case k24 => k_is)
    (case a25 => k_is); (case l25 => k_is); (case c25 => k_is); (case k25 => k_is)
    (case m1 => k_is); (case m2 => k_is); (case z1 => k_is); (case z2 => k_is)
    (case z3 => k_is); (case z4 => k_is); (case z5 => k_is); (case z6 => k_is)
    (case z7 => k_is); (case z8 => k_is); (case z9 => k_is); (case z10 => k_is)
    (case z11 => k_is); (case z12 => k_is); (case z13 => k_is); (case z14 => k_is)
