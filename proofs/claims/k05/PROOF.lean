import PyProof.Rows.All
import Wide.All
import OpenK.AllK
import Wide.FinOn
import Lean
import PyProof.EqAt
import PyProof.EqKinds
import PyProof.TupleCall
import PySem.Challenge.RW_beatmakers_k05_whole_one_voter_more
set_option Elab.async false
set_option linter.all false
set_option maxRecDepth 100000
namespace L2
open PySem PySem.Spec PyProof.Rows
abbrev Key := Sum Int Str
def keyIs : Key → Value → Bool
  | .inl k, v => Value.isInt k v
  | .inr x, v => Value.isStrOf x v
def keyH (w : World) : Key → Int
  | .inl k => hashInt k
  | .inr x => hashStr w x
theorem keyIs_shape : ∀ {k : Key} {v : Value}, keyIs k v = true → (∃ i t, k = Sum.inl i ∧ v = Value.int i t) ∨ (∃ x t, k = Sum.inr x ∧ v = Value.str x t)
  | .inl i, v, h => by
    obtain ⟨t, e⟩ := Value.isInt_shape (k := i) (v := v) h
    exact .inl ⟨i, t, rfl, e⟩
  | .inr x, v, h => by
    obtain ⟨t, e⟩ := Value.isStrOf_shape (x := x) (v := v) h
    exact .inr ⟨x, t, rfl, e⟩
theorem keyIs_int (i : Int) (t : Tok) : keyIs (.inl i) (.int i t) = true := by simp [keyIs, Value.isInt]
theorem keyIs_str (x : Str) (t : Tok) : keyIs (.inr x) (.str x t) = true := by simp [keyIs, Value.isStrOf]
theorem key_ll (a b : Int) : decide ((Sum.inl a : Key) = Sum.inl b) = (a == b) := by
  by_cases e : a = b
  · subst e; simp
  · have h : ¬ (Sum.inl a : Key) = Sum.inl b := fun q => e (Sum.inl.inj q)
    rw [decide_eq_false h]
    exact (beq_eq_false_iff_ne.mpr e).symm
theorem key_rr (a b : Str) : decide ((Sum.inr a : Key) = Sum.inr b) = decide (a = b) := by
  by_cases e : a = b
  · subst e; simp
  · have h : ¬ (Sum.inr a : Key) = Sum.inr b := fun q => e (Sum.inr.inj q)
    rw [decide_eq_false h, decide_eq_false e]
theorem key_lr (a : Int) (b : Str) : decide ((Sum.inl a : Key) = Sum.inr b) = false := decide_eq_false (fun q => nomatch q)
theorem key_rl (a : Str) (b : Int) : decide ((Sum.inr a : Key) = Sum.inl b) = false := decide_eq_false (fun q => nomatch q)
def mixKind (prog : Program) (w : World) : PySem.KeyKind prog w Key where
  is := keyIs
  hash := keyH w
  inj := fun v a b ha hb => by
    rcases keyIs_shape ha with ⟨i, t, rfl, rfl⟩ | ⟨x, t, rfl, rfl⟩
    · rcases keyIs_shape hb with ⟨j, u, rfl, e⟩ | ⟨y, u, rfl, e⟩
      · injection e with e1 _; rw [e1]
      · exact nomatch e
    · rcases keyIs_shape hb with ⟨j, u, rfl, e⟩ | ⟨y, u, rfl, e⟩
      · exact nomatch e
      · injection e with e1 _; rw [e1]
  byValue := fun k v h => by
    rcases keyIs_shape h with ⟨i, t, rfl, rfl⟩ | ⟨x, t, rfl, rfl⟩ <;> rfl
  pyHash := fun hv h => by
    rcases keyIs_shape hv with ⟨i, t, rfl, rfl⟩ | ⟨x, t, rfl, rfl⟩
    · exact wpAny_pyHash_int h
    · exact wpAny_pyHash_str h
  eqBool := fun hu hv h => by
    rcases keyIs_shape hu with ⟨i, t, rfl, rfl⟩ | ⟨x, t, rfl, rfl⟩
    · rcases keyIs_shape hv with ⟨j, u, rfl, rfl⟩ | ⟨y, u, rfl, rfl⟩
      · rw [key_ll] at h; exact wpAny_eqBool_int h
      · rw [key_lr] at h; exact SeqAt.EqAt.int_str i t y u _ _ _ _ h
    · rcases keyIs_shape hv with ⟨j, u, rfl, rfl⟩ | ⟨y, u, rfl, rfl⟩
      · rw [key_rl] at h; exact SeqAt.EqAt.str_int x t j u _ _ _ _ h
      · rw [key_rr] at h; exact wpAny_eqBool_str h
  «strs» := fun k x t v h => by
    rcases keyIs_shape h with ⟨i, u, rfl, e⟩ | ⟨y, u, rfl, e⟩
    · exact nomatch e
    · injection e with e1 _
      subst e1
      cases v <;> rfl
theorem mixKind_int (prog : Program) (w : World) (i : Int) (t : Tok) : (mixKind prog w).is (.inl i) (.int i t) = true := keyIs_int i t
theorem mixKind_str (prog : Program) (w : World) (x : Str) (t : Tok) : (mixKind prog w).is (.inr x) (.str x t) = true := keyIs_str x t
end L2
namespace L2
open PySem PySem.Spec PyProof.Rows
inductive V where
  | non | bl (b : Bool) | int (i : Int) | str (x : Str) | byt (b : Array UInt8) | flt (b : UInt64) | ref (a : Addr) | ty (n : String)
  deriving DecidableEq
def RelV : V → Value → Prop
  | .non, u => u = Value.none
  | .bl b, u => u = Value.bool b
  | .int i, u => ∃ t, u = Value.int i t
  | .str x, u => ∃ t, u = Value.str x t
  | .byt b, u => ∃ t, u = Value.bytes b t
  | .flt b, u => ∃ t, u = Value.float b t
  | .ref a, u => u = Value.ref a
  | .ty n, u => u = Value.type n
abbrev Vals : List V → List Value → Prop := Paired RelV
theorem Vals.length {xs : List V} {us : List Value} (r : Vals xs us) : xs.length = us.length := Paired.length r
theorem Vals.get : ∀ {xs : List V} {us : List Value} {i : Nat} {x : V}, Vals xs us → xs[i]? = some x → ∃ u, us[i]? = some u ∧ RelV x u
  | _, _, _, _, .nil, e => by simp at e
  | _, _, 0, _, .cons r _, e => by simp at e; subst e; exact ⟨_, rfl, r⟩
  | _, _, i + 1, x, .cons _ t, e => by
    obtain ⟨u, h1, h2⟩ := Vals.get (i := i) (x := x) t (by simpa using e)
    exact ⟨u, by simpa using h1, h2⟩
theorem Vals.append : ∀ {xs ys : List V} {us ws : List Value}, Vals xs us → Vals ys ws → Vals (xs ++ ys) (us ++ ws)
  | _, _, _, _, .nil, s => s
  | _, _, _, _, .cons r t, s => .cons r (Vals.append t s)
theorem Vals.take : ∀ {xs : List V} {us : List Value} (n : Nat), Vals xs us → Vals (xs.take n) (us.take n)
  | _, _, 0, _ => .nil
  | _, _, _ + 1, .nil => .nil
  | _, _, n + 1, .cons r t => .cons r (Vals.take n t)
theorem Vals.drop : ∀ {xs : List V} {us : List Value} (n : Nat), Vals xs us → Vals (xs.drop n) (us.drop n)
  | _, _, 0, r => r
  | _, _, _ + 1, .nil => .nil
  | _, _, n + 1, .cons _ t => Vals.drop n t
def RelO : Option V → Option Value → Prop
  | some v, some u => RelV v u
  | none, none => True
  | _, _ => False
def KV {κ : Type} : List (κ × V) → List (κ × Value) → Prop := Paired fun (p : κ × V) (q : κ × Value) => p.1 = q.1 ∧ RelV p.2 q.2
def kV : Key → V
  | .inl i => .int i
  | .inr x => .str x
inductive HO where
    | lst (xs : List V)
    | tup (xs : List V)
    | dK (kvs : List (Key × V)) | dT (kvs : List (List Key × V))
    | set (S : Int → Bool) (n : Nat)
    | ins (C dx : Addr) (fs : List (Str × V))
    | own (x : Addr)
    | xd (fs : List (Str × V))
    | met (f x : Addr)
    | rng (lo hi : Int)
    | frz (o : Obj) (u : HO)
    | tbl (ps : Array Value)
    | ext (φ : Heap → Prop)
abbrev Hp := Addr → Option HO
def upd (H : Hp) (a : Addr) (o : HO) : Hp := fun b => if b = a then some o else H b
theorem upd_same {H : Hp} {a : Addr} {o : HO} : upd H a o a = some o := by unfold upd; rw [if_pos rfl]
theorem upd_ne {H : Hp} {a b : Addr} {o : HO} (h : b ≠ a) : upd H a o b = H b := by unfold upd; rw [if_neg h]
theorem upd_upd {H : Hp} {a : Addr} {o u : HO} : upd (upd H a o) a u = upd H a u := by
  funext b; unfold upd; split <;> rfl
theorem ne_of {H : Hp} {a b : Addr} {o u : HO} (h : H a = some o) (h' : H b = some u) (d : o ≠ u) : a ≠ b := by
  intro e; subst e; rw [h] at h'; exact d (Option.some.inj h')
theorem ne_of_none {H : Hp} {a b : Addr} {o : HO} (h : H a = some o) (h' : H b = none) : a ≠ b := by
  intro e; subst e; rw [h] at h'; cases h'
def TupP (h : Heap) (a : Addr) (items : Array Value) : Prop := ∃ o, h.get? a = some o ∧ o.cls = .type "tuple" ∧ o.dict = none ∧ ∃ n, o.data = .seq items n
theorem TupP.tup {h : Heap} {a : Addr} {items : Array Value} (x : TupP h a items) : IsTup h a items := let ⟨o, e, c, _, d⟩ := x; ⟨o, e, c, d⟩
theorem TupP.lt {h : Heap} {a : Addr} {items : Array Value} (x : TupP h a items) : a < h.objs.size := let ⟨_, e, _⟩ := x; Heap.lt_size e
theorem TupP.new (h : Heap) (items : Array Value) : TupP (h.push { cls := .type "tuple", data := .seq items }) h.objs.size items := ⟨_, Heap.get?_push_size _ rfl, rfl, rfl, _, rfl⟩
section
variable (P : Program) (w : World)
def ObjOk (H : Hp) (h : Heap) (a : Addr) : HO → Prop
  | .lst xs => xs.length ≤ sizeLine ∧ ∃ (its : List Value) (n : Nat), Vals xs its ∧ h.get? a = some { cls := .type "list", data := .seq its.toArray n }
  | .tup xs => xs.length ≤ sizeLine ∧ ∃ its : List Value, Vals xs its ∧ TupP h a its.toArray
  | .dK kvs => kvs.length ≤ sizeLine ∧ (a == sysModules) = false ∧ ∃ vs, KV kvs vs ∧ h.DictOf (mixKind P w) a vs
  | .dT kvs => kvs.length ≤ sizeLine ∧ (a == sysModules) = false ∧ ∃ xs : List (List Key × Addr × Value),
      Paired (fun (p : List Key × V) (q : List Key × Addr × Value) => p.1 = q.1 ∧ H q.2.1 = some (.tup (p.1.map kV)) ∧ RelV p.2 q.2.2) kvs xs ∧
      ∃ o es ep, h.get? a = some o ∧ o.ExactDict ∧ o.data = .dict es ep ∧ es.toList = xs.map (entryOfKey (tupleKind (mixKind P w))) ∧ (xs.map (·.1)).Nodup
  | .set S n => h.SetOf (intKind P w) a S n
  | .ins C dx fs => H dx = some (.own a) ∧ fs.length ≤ 1000 ∧ dx ≠ a ∧ h.get? a = some (PySem.W.instObj C dx) ∧
      ∃ mA, h.Ns1 dx mA ∧ (∀ f, RelO (fs.lookup f) (mA f)) ∧ PySem.Within mA (fs.map (·.1))
  | .own _ => ∃ o, h.get? a = some o
  | .xd fs => ∃ mA, h.Ns1 a mA ∧ ∀ f, RelO (fs.lookup f) (mA f)
  | .rng lo hi => ∃ t u v, h.get? a = some { cls := .type "range", data := .fields #[.int lo t, .int hi u, .int 1 v] }
  | .frz o u => h.get? a = some o ∧ ObjOk H h a u
  | .tbl ps => h.get? a = some { cls := .none, data := .fields ps }
  | .met f x => h.get? a = some (PySem.W.methodObj (.ref f) (.ref x))
  | .ext φ => φ h ∧ (∃ o, h.get? a = some o) ∧ ∀ h1 h2 : Heap, φ h1 → (∀ o, h1.get? a = some o → h2.get? a = some o) → φ h2
def HOk (H : Hp) (h : Heap) : Prop := ∀ a o, H a = some o → ObjOk P w H h a o
end
section
variable {P : Program} {w : World} {H H' : Hp} {h h' : Heap} {a : Addr} {o : HO}
theorem ObjOk.lt (x : ObjOk P w H h a o) : a < h.objs.size := by
  cases o with
  | lst xs => obtain ⟨_, _, _, _, e⟩ := x; exact Heap.lt_size e
  | tup xs => obtain ⟨_, _, _, p⟩ := x; exact p.lt
  | dK kvs => obtain ⟨_, _, _, _, o, _, _, e, _⟩ := x; exact Heap.lt_size e
  | dT kvs => obtain ⟨_, _, _, _, o, _, _, e, _⟩ := x; exact Heap.lt_size e
  | set S n => obtain ⟨o, _, _, _, e, _⟩ := x; exact Heap.lt_size e
  | ins C dx fs => obtain ⟨_, _, _, e, _⟩ := x; exact Heap.lt_size e
  | own y => obtain ⟨_, e⟩ := x; exact Heap.lt_size e
  | xd fs => obtain ⟨_, ⟨_, _, _, e, _⟩, _⟩ := x; exact Heap.lt_size e
  | rng lo hi => obtain ⟨_, _, _, e⟩ := x; exact Heap.lt_size e
  | frz ob u => obtain ⟨e, _⟩ := x; exact Heap.lt_size e
  | tbl ps => exact Heap.lt_size (show h.get? a = some _ from x)
  | met f y => exact Heap.lt_size (show h.get? a = some _ from x)
  | ext φ => obtain ⟨_, ⟨_, e⟩, _⟩ := x; exact Heap.lt_size e
theorem Paired.mapP {α β : Type} {F G : α → β → Prop} : ∀ {l₁ : List α} {l₂ : List β}, Paired F l₁ l₂ → (∀ a b, F a b → G a b) → Paired G l₁ l₂
  | _, _, .nil, _ => .nil
  | _, _, .cons r t, f => .cons (f _ _ r) (Paired.mapP t f)
theorem ObjOk.stay (x : ObjOk P w H h a o) (k : ∀ b u, (b = a ∨ H b = some (.own a)) → h.get? b = some u → h'.get? b = some u)
    (ho : ∀ b, H b = some (.own a) → H' b = some (.own a)) (ht : ∀ b xs, H b = some (.tup xs) → H' b = some (.tup xs)) : ObjOk P w H' h' a o := by
  induction o with
  | lst xs => obtain ⟨z, its, n, r, e⟩ := x; exact ⟨z, its, n, r, k _ _ (.inl rfl) e⟩
  | tup xs => obtain ⟨z, its, r, ob, e, c⟩ := x; exact ⟨z, its, r, ob, k _ _ (.inl rfl) e, c⟩
  | dK kvs => obtain ⟨z, y, vs, r, ob, es, ep, e, c⟩ := x; exact ⟨z, y, vs, r, ob, es, ep, k _ _ (.inl rfl) e, c⟩
  | dT kvs =>
    obtain ⟨z, y, xs, r, ob, es, ep, e, c⟩ := x
    exact ⟨z, y, xs, Paired.mapP r fun p q z => ⟨z.1, ht _ _ z.2.1, z.2.2⟩, ob, es, ep, k _ _ (.inl rfl) e, c⟩
  | set S n => obtain ⟨ob, es, ep, t, e, c⟩ := x; exact ⟨ob, es, ep, t, k _ _ (.inl rfl) e, c⟩
  | ins C dx fs =>
    obtain ⟨d, z, ne, e, mA, ⟨od, es, ep, e2, c⟩, r⟩ := x
    exact ⟨ho _ d, z, ne, k _ _ (.inl rfl) e, mA, ⟨od, es, ep, k _ _ (.inr d) e2, c⟩, r⟩
  | own y => obtain ⟨ob, e⟩ := x; exact ⟨ob, k _ _ (.inl rfl) e⟩
  | xd fs => obtain ⟨mA, ⟨od, es, ep, e, c⟩, r⟩ := x; exact ⟨mA, ⟨od, es, ep, k _ _ (.inl rfl) e, c⟩, r⟩
  | rng lo hi => obtain ⟨t, u, v, e⟩ := x; exact ⟨t, u, v, k _ _ (.inl rfl) e⟩
  | frz ob u ih => obtain ⟨e, q⟩ := x; exact ⟨k _ _ (.inl rfl) e, ih q⟩
  | tbl ps =>
    have e : h.get? a = some { cls := .none, data := .fields ps } := x
    show h'.get? a = some { cls := .none, data := .fields ps }
    exact k a _ (.inl rfl) e
  | met f y =>
    have e : h.get? a = some (PySem.W.methodObj (.ref f) (.ref y)) := x
    show h'.get? a = some (PySem.W.methodObj (.ref f) (.ref y))
    exact k a _ (.inl rfl) e
  | ext φ => obtain ⟨p, ⟨o, e⟩, st⟩ := x; exact ⟨st _ _ p fun o q => k _ _ (.inl rfl) q, ⟨o, k _ _ (.inl rfl) e⟩, st⟩
theorem HOk.lt (x : HOk P w H h) (e : H a = some o) : a < h.objs.size := (x a o e).lt
theorem HOk.fresh (x : HOk P w H h) (e : h.objs.size ≤ a) : H a = none := by
  cases q : H a with
  | none => rfl
  | some u => exact absurd (Nat.lt_of_lt_of_le (x.lt q) e) (Nat.lt_irrefl _)
theorem HOk.kept (x : HOk P w H h) (k : ∀ b u, h.get? b = some u → h'.get? b = some u) : HOk P w H h' := fun a o e =>
  (x a o e).stay (fun b u _ q => k b u q) (fun _ q => q) fun _ _ q => q
theorem HOk.laid (x : HOk P w H h) (k : ∀ b u, h.get? b = some u → h'.get? b = some u) (hp : h.objs.size ≤ a) (new : ObjOk P w (upd H a o) h' a o) : HOk P w (upd H a o) h' := fun b u e => by
  have hn := x.fresh hp
  by_cases hb : b = a
  · subst hb; rw [upd_same] at e; cases e; exact new
  · rw [upd_ne hb] at e
    exact (x b u e).stay (fun c v _ q => k c v q) (fun c q => by rw [upd_ne (ne_of_none q hn)]; exact q) fun c xs q => by rw [upd_ne (ne_of_none q hn)]; exact q
end
def Rd (H : Hp) (a : Addr) (u : HO) : Prop := H a = some u ∨ ∃ o, H a = some (.frz o u)
theorem Rd.ok {P : Program} {w : World} {H : Hp} {h : Heap} {a : Addr} {u : HO} (r : Rd H a u) (x : HOk P w H h) : ObjOk P w H h a u := by
  rcases r with r | ⟨o, r⟩
  · exact x a u r
  · obtain ⟨_, q⟩ := x a _ r
    exact q
def Mut : Option HO → Prop
  | some (.lst _) => True
  | some (.dK _) => True
  | some (.dT _) => True
  | some (.set _ _) => True
  | some (.ins _ _ _) => True
  | some (.ext _) => True
  | _ => False
section
variable {P : Program} {w : World} {H : Hp} {h h' : Heap} {x e : Addr} {o' : HO}
theorem HOk.write (ok : HOk P w H h) (mu : Mut (H x)) (he : e = x ∨ H e = some (.own x)) (k : ∀ b u, b ≠ e → h.get? b = some u → h'.get? b = some u) (heo : ∃ u, h'.get? e = some u)
    (new : ObjOk P w (upd H x o') h' x o') : HOk P w (upd H x o') h' := fun b u q => by
  have nown : ∀ c y, H c = some (.own y) → c ≠ x := fun c y r z => by subst z; rw [r] at mu; exact mu
  have ntup : ∀ c xs, H c = some (.tup xs) → c ≠ x := fun c xs r z => by subst z; rw [r] at mu; exact mu
  by_cases hb : b = x
  · subst hb; rw [upd_same] at q; cases q; exact new
  · rw [upd_ne hb] at q
    by_cases hbe : b = e
    · have q' : H b = some (.own x) := by
        rcases he with z | z
        · exact absurd (hbe.trans z) hb
        · rw [hbe]; exact z
      rw [q] at q'; cases q'
      obtain ⟨v, hv⟩ := heo
      exact ⟨v, by rw [hbe]; exact hv⟩
    · refine (ok b u q).stay (fun c v hc r => k c v ?_ r) (fun c r => by rw [upd_ne (nown c b r)]; exact r) fun c xs r => by rw [upd_ne (ntup c xs r)]; exact r
      rcases hc with rfl | hc
      · exact hbe
      · rintro rfl
        rcases he with z | z
        · exact nown c b hc z
        · rw [hc] at z; cases z; exact hb rfl
end
structure Un (fs ex : List Addr) (H H' : Hp) (h h' : Heap) : Prop where
  keep : ∀ b o, h.get? b = some o → H b = none → b ∉ fs → b ∉ ex → h'.get? b = some o
  slot : ∀ b o, h.get? b = some o → H b = none → b ∈ fs → b ∉ ex → ∃ sl, h'.get? b = some { o with slots := sl }
  free : ∀ b o, h.get? b = some o → H b = none → b ∉ ex → H' b = none
  there : ∀ b o, h.get? b = some o → b ∉ ex → ∃ o', h'.get? b = some o'
  tups : ∀ b xs, H b = some (.tup xs) → H' b = some (.tup xs)
  frzs : ∀ b o u, H b = some (.frz o u) → H' b = some (.frz o u)
  tbls : ∀ b ps, H b = some (.tbl ps) → ∃ more, H' b = some (.tbl (ps ++ more))
section
variable {fs fs' ex ex' : List Addr} {H H1 H2 : Hp} {h h1 h2 h' : Heap} {a x e : Addr} {o : HO}
theorem Un.any (u : Un fs ex H H1 h h1) {b : Addr} {ob : Obj} (q : h.get? b = some ob) (n : H b = none) (hx : b ∉ ex) : ∃ sl, h1.get? b = some { ob with slots := sl } := by
  by_cases hb : b ∈ fs
  · exact u.slot b ob q n hb hx
  · exact ⟨ob.slots, u.keep b ob q n hb hx⟩
theorem Un.kept (k : ∀ b u, h.get? b = some u → h'.get? b = some u) : Un fs ex H H h h' :=
  ⟨fun b ob q _ _ _ => k b ob q, fun b ob q _ _ _ => ⟨ob.slots, k b ob q⟩, fun _ _ _ n _ => n, fun b ob q _ => ⟨ob, k b ob q⟩, fun _ _ q => q, fun _ _ _ q => q, fun _ ps q => ⟨#[], by rw [q]; simp⟩⟩
theorem Un.refl : Un fs ex H H h h := Un.kept fun _ _ q => q
theorem Un.laid (k : ∀ b u, h.get? b = some u → h'.get? b = some u) (hp : h.objs.size ≤ a) (hn : H a = none) : Un fs ex H (upd H a o) h h' where
  keep := fun b u q _ _ _ => k b u q
  slot := fun b u q _ _ _ => ⟨u.slots, k b u q⟩
  free := fun b u q n _ => by rw [upd_ne (Nat.ne_of_lt (Nat.lt_of_lt_of_le (Heap.lt_size q) hp))]; exact n
  there := fun b u q _ => ⟨u, k b u q⟩
  tups := fun b xs q => by rw [upd_ne (ne_of_none q hn)]; exact q
  frzs := fun b u xs q => by rw [upd_ne (ne_of_none q hn)]; exact q
  tbls := fun b ps q => ⟨#[], by rw [upd_ne (ne_of_none q hn), q]; simp⟩
theorem Un.write (mu : Mut (H x)) (he : e = x ∨ H e = some (.own x)) (k : ∀ b u, b ≠ e → h.get? b = some u → h'.get? b = some u) (heo : ∃ u, h'.get? e = some u) : Un fs ex H (upd H x o) h h' := by
  have hx : ∀ b, H b = none → b ≠ x := fun b n z => by subst z; rw [n] at mu; exact mu
  have hb : ∀ b, H b = none → b ≠ e := fun b n z => by
    subst z
    rcases he with r | r
    · exact hx b n r
    · rw [n] at r; cases r
  have hm : ∀ b u, H b = some u → ¬ Mut (some u) → b ≠ x := fun b u q nm z => by subst z; rw [q] at mu; exact nm mu
  refine ⟨fun b u q n _ _ => k b u (hb b n) q, fun b u q n _ _ => ⟨u.slots, k b u (hb b n) q⟩, fun b u q n _ => by rw [upd_ne (hx b n)]; exact n, fun b u q _ => ?_,
    fun b xs q => by rw [upd_ne (hm b _ q fun z => z)]; exact q, fun b u xs q => by rw [upd_ne (hm b _ q fun z => z)]; exact q, fun b ps q => ⟨#[], by rw [upd_ne (hm b _ q fun z => z), q]; simp⟩⟩
  by_cases hbe : b = e
  · subst hbe; exact heo
  · exact ⟨u, k b u hbe q⟩
end
def trk (h : Heap) (H : Hp) : List Addr := (List.range h.objs.size).filter fun a => (H a).isSome
def hidT (h : Heap) (H : Hp) : Heap := PySem.W.hideAll h (trk h H)
theorem hidT_size (h : Heap) (H : Hp) : (hidT h H).objs.size = h.objs.size := PySem.W.hideAll_size _ _
theorem hidT_get {h : Heap} {H : Hp} {b : Addr} {o : Obj} (e : h.get? b = some o) (n : H b = none) : (hidT h H).get? b = some o :=
  PySem.W.hideAll_get _ e fun hm => by
    have q : (H b).isSome = true := (List.mem_filter.mp hm).2
    rw [n] at q; simp at q
theorem of_hidT {h : Heap} {H : Hp} {b : Addr} {o : Obj} (e : (hidT h H).get? b = some o) : h.get? b = some o ∧ H b = none := by
  have e' : h.get? b = some o := PySem.W.of_hideAll (trk h H) e
  refine ⟨e', ?_⟩
  cases q : H b with
  | none => rfl
  | some x =>
    have hm : b ∈ trk h H := List.mem_filter.mpr ⟨List.mem_range.mpr (Heap.lt_size e'), by simp [q]⟩
    have z : (hidT h H).get? b = none := PySem.W.hideAll_none (trk h H) hm
    rw [z] at e; cases e
end L2
namespace L2
open PySem PySem.Spec PyProof.Rows
structure Mod (K : PySem.W.Frag) (mg : Str → Option Value) (base : Heap) : Prop where
  kin : K.In base
  glob : base.Ns mainGlobals mg
  blt : ∃ mb, base.Ns builtinsNs mb ∧ ∀ x : Str, x ≠ "__name__" → mb x = bootBuiltins x
  nolimit : base.NoLimit
structure Cx where
  prog : Program
  w : World
  K : PySem.W.Frag
  mg : Str → Option Value
  base : Heap
  A : Around
  N : List Str
  s₀ : Shared
  H₀ : Hp
  env : Env
  outer : List Env
  stack : List Env
  ex : List Addr
  fn : Str → Bool
  calm : Bool
  pn : List (Addr × Obj)
  xe : Value → Shared → Prop
def frs (l : List Env) : List Addr := l.filterMap (·.frame)
abbrev Cx.fs (X : Cx) : List Addr := frs X.outer
def Vis (sc : Scope) (x : Str) : Prop := sc.names.lookup x = some .local ∨ sc.names.lookup x = some .cell ∨ sc.names.lookup x = some .free
def Loc (sc : Scope) (x : Str) : Prop := sc.names.lookup x = some .local ∨ sc.names.lookup x = some .cell
def Look (env : Env) (h : Heap) (m : Str → Option Value) (x : Str) (u : Value) : Prop :=
  (env.kindOf x = some .local ∧ m x = some u) ∨ ((env.kindOf x = some .cell ∨ env.kindOf x = some .free) ∧ ∃ c, env.cells.lookup x = some c ∧ h.IsCell c (some u))
structure Cx.Ok (X : Cx) : Prop where
  mod : Mod X.K X.mg X.base
  kind : X.env.scope.kind = .function
  glob : X.env.globals = mainGlobals
  blt : X.env.builtins = builtinsNs
  above : X.s₀.heap.objs.size ≤ X.env.locals
  inj : ∀ x y c, X.env.cells.lookup x = some c → X.env.cells.lookup y = some c → x = y
  has : ∀ x, (X.env.kindOf x = some .cell ∨ X.env.kindOf x = some .free) → ∃ c, X.env.cells.lookup x = some c
  cab : ∀ x c, X.fn x = true → X.env.cells.lookup x = some c → X.s₀.heap.objs.size ≤ c
  hd : X.calm = true → X.A.handled = none
  frames : X.A.frames = some X.stack
  stk : X.stack = X.outer ∨ (X.stack = X.env :: X.outer ∧ X.env.frame = some X.env.locals)
  exf : ∀ b ∈ X.ex, b ≠ X.env.locals ∧ ∀ x c, X.env.cells.lookup x = some c → c ≠ b
  bs : ∀ b o, X.base.get? b = some o → X.s₀.heap.get? b = some o ∧ X.H₀ b = none
  bsz : X.base.objs.size ≤ X.s₀.heap.objs.size
  noex : ∀ b o, X.base.get? b = some o → b ∉ X.ex
  exfs : ∀ b ∈ X.ex, b ∉ X.fs
  funs : X.s₀.heap.FunFrames X.base X.outer
  frf : ∀ b ∈ X.fs, X.H₀ b = none
structure Inv (X : Cx) (pins : List (Addr × Obj)) (σ : List (Option V)) (H : Hp) (s : Shared) : Prop where
  ok : X.Ok
  os : s.os = X.s₀.os
  bare : AllBare s.gens
  base : Un X.fs X.ex X.H₀ H X.s₀.heap s.heap
  loc : ∃ m, s.heap.Ns X.env.locals m ∧ ∀ (i : Nat) (x : Str) (v : V), X.N[i]? = some x → σ[i]? = some (some v) → Vis X.env.scope x → ∃ u, RelV v u ∧ Look X.env s.heap m x u
  cell : ∀ x c, X.env.cells.lookup x = some c → ∃ v, s.heap.IsCell c v
  free : H X.env.locals = none
  freeC : ∀ x c, X.env.cells.lookup x = some c → H c = none
  pin : ∀ p ∈ X.pn ++ pins, s.heap.get? p.1 = some p.2 ∧ H p.1 = none ∧ p.1 ≠ X.env.locals ∧ p.1 ∉ X.fs ∧ ∀ v, p.2.data ≠ .cell v
  hok : HOk X.prog X.w H s.heap
  len : σ.length = X.N.length
section
variable {X : Cx} {pins : List (Addr × Obj)} {σ : List (Option V)} {H H' : Hp} {s : Shared} {h' : Heap}
theorem Cx.Ok.nofr (ok : X.Ok) {b : Addr} {o : Obj} (e : X.base.get? b = some o) : b ∉ X.fs := fun hb => by
  have := (ok.funs.mem hb).1
  rw [e] at this; cases this
theorem Inv.bs (I : Inv X pins σ H s) : ∀ b o, X.base.get? b = some o → s.heap.get? b = some o ∧ H b = none := fun b o e =>
  ⟨I.base.keep b o (I.ok.bs b o e).1 (I.ok.bs b o e).2 (I.ok.nofr e) (I.ok.noex b o e), I.base.free b o (I.ok.bs b o e).1 (I.ok.bs b o e).2 (I.ok.noex b o e)⟩
theorem Inv.bk (I : Inv X pins σ H s) : ∀ b o, X.base.get? b = some o → s.heap.get? b = some o := fun b o e => (I.bs b o e).1
theorem Inv.mod (I : Inv X pins σ H s) : Mod X.K X.mg X.base := I.ok.mod
theorem Inv.kIn (I : Inv X pins σ H s) : X.K.In s.heap := I.ok.mod.kin.keeps I.bk
theorem Inv.lt (I : Inv X pins σ H s) : X.env.locals < s.heap.objs.size := let ⟨_, hn, _⟩ := I.loc; hn.lt
theorem Inv.sz (I : Inv X pins σ H s) : X.s₀.heap.objs.size ≤ s.heap.objs.size := Nat.le_trans I.ok.above (Nat.le_of_lt I.lt)
theorem Inv.nofs (I : Inv X pins σ H s) {a : Addr} (h : s.heap.objs.size ≤ a) : a ∉ X.fs := fun hb => by
  obtain ⟨_, o, ho, _⟩ := I.ok.funs.mem hb
  exact absurd (Nat.lt_of_lt_of_le (Heap.lt_size ho) (Nat.le_trans I.sz h)) (Nat.lt_irrefl _)
theorem Inv.cne (I : Inv X pins σ H s) : ∀ x c, X.env.cells.lookup x = some c → c ≠ X.env.locals := fun x c e z => by
  obtain ⟨v, o, ho, hd⟩ := I.cell x c e
  obtain ⟨m, ⟨o', es, ep, ho', hd', _⟩, _⟩ := I.loc
  rw [z, ho'] at ho; cases ho; rw [hd'] at hd; cases hd
theorem Inv.funs (I : Inv X pins σ H s) : s.heap.FunFrames X.base X.outer := by
  have all : ∀ (l : List Env), (∀ b ∈ frs l, b ∈ X.fs) → X.s₀.heap.FunFrames X.base l → s.heap.FunFrames X.base l := by
    intro l
    induction l with
    | nil => intro _ _; trivial
    | cons env r ih =>
      intro hs hl
      obtain ⟨hk, ⟨L, o, hf, hn, ho, hd⟩, hr⟩ := hl
      have hL : L ∈ X.fs := hs L (by unfold frs; rw [List.filterMap_cons, hf]; exact List.mem_cons_self)
      obtain ⟨sl, e⟩ := I.base.slot L o ho (I.ok.frf L hL) hL fun z => I.ok.exfs L z hL
      exact ⟨hk, ⟨L, _, hf, hn, e, hd⟩, ih (fun b hb => hs b (by unfold frs; rw [List.filterMap_cons, hf]; exact List.mem_cons_of_mem _ hb)) hr⟩
  exact all X.outer (fun _ hb => hb) I.ok.funs
theorem Inv.stack (I : Inv X pins σ H s) : s.heap.FunFrames X.base X.stack := by
  rcases I.ok.stk with e | ⟨e, hf⟩
  · rw [e]; exact I.funs
  · rw [e]
    obtain ⟨m, hn, _⟩ := I.loc
    refine .cons (by rw [I.ok.kind]; decide) hf hn ?_ I.funs
    exact Heap.get?_none_of_le (Nat.le_trans I.ok.bsz I.ok.above)
theorem Inv.stkSub (I : Inv X pins σ H s) : ∀ b ∈ frs X.stack, b ∈ X.env.locals :: X.fs := fun b hb => by
  rcases I.ok.stk with e | ⟨e, hf⟩
  · rw [e] at hb; exact List.mem_cons_of_mem _ hb
  · rw [e] at hb
    unfold frs at hb
    rw [List.filterMap_cons, hf] at hb
    exact hb
theorem Inv.stkFree (I : Inv X pins σ H s) : ∀ b ∈ frs X.stack, H b = none := fun b hb => by
  rcases List.mem_cons.mp (I.stkSub b hb) with e | hb
  · rw [e]; exact I.free
  · obtain ⟨_, o, ho, _⟩ := I.ok.funs.mem hb
    exact I.base.free b o ho (I.ok.frf b hb) fun z => I.ok.exfs b z hb
theorem Inv.step {g' : Array GenState} {t' : Nat} {d' : Drawn} {ch : List Addr} (I : Inv X pins σ H s)
    (hch : ∀ b ∈ ch, (b ∈ X.ex ∨ X.s₀.heap.objs.size ≤ b) ∧ b ≠ X.env.locals ∧ (∀ x c, X.env.cells.lookup x = some c → c ≠ b) ∧ ∀ p ∈ X.pn ++ pins, p.1 ≠ b)
    (keep : ∀ b o, b ≠ X.env.locals → b ∉ X.fs → b ∉ ch → s.heap.get? b = some o → H b = none → h'.get? b = some o)
    (slot : ∀ b o, b ≠ X.env.locals → b ∈ X.fs → b ∉ ch → s.heap.get? b = some o → H b = none → ∃ sl, h'.get? b = some { o with slots := sl }) (free : ∀ b o, b ∉ ch → s.heap.get? b = some o → H b = none → H' b = none)
    (there : ∀ b o, b ∉ ch → s.heap.get? b = some o → ∃ o', h'.get? b = some o')
    (tups : ∀ b xs, H b = some (.tup xs) → H' b = some (.tup xs)) (frzs : ∀ b o u, H b = some (.frz o u) → H' b = some (.frz o u)) (tbls : ∀ b ps, H b = some (.tbl ps) → ∃ more, H' b = some (.tbl (ps ++ more)))
    (ns : ∀ m, s.heap.Ns X.env.locals m → h'.Ns X.env.locals m) (hok : HOk X.prog X.w H' h') (hg : AllBare g') :
    Inv X pins σ H' { s with heap := h', gens := g', drawn := d', toks := t' } := by
  have neL : ∀ b o, X.s₀.heap.get? b = some o → b ≠ X.env.locals := fun b o e => Nat.ne_of_lt (Nat.lt_of_lt_of_le (Heap.lt_size e) I.ok.above)
  have neC : ∀ b o, X.s₀.heap.get? b = some o → b ∉ X.ex → b ∉ ch := fun b o e hx hb => by
    rcases (hch b hb).1 with z | z
    · exact hx z
    · exact absurd (Nat.lt_of_lt_of_le (Heap.lt_size e) z) (Nat.lt_irrefl _)
  have cellK : ∀ x c, X.env.cells.lookup x = some c → ∀ v, s.heap.IsCell c v → h'.IsCell c v := fun x c e v ⟨o, ho, hd⟩ => by
    have nch : c ∉ ch := fun z => (hch c z).2.2.1 x c e rfl
    by_cases hc : c ∈ X.fs
    · obtain ⟨sl, q⟩ := slot c o (I.cne x c e) hc nch ho (I.freeC x c e)
      exact ⟨_, q, hd⟩
    · exact ⟨o, keep c o (I.cne x c e) hc nch ho (I.freeC x c e), hd⟩
  refine ⟨I.ok, I.os, hg, ⟨fun b o e n hb hx => ?_, fun b o e n hb hx => ?_, fun b o e n hx => ?_, fun b o e hx => ?_, fun b xs e => tups b xs (I.base.tups b xs e), fun b o xs e => frzs b o xs (I.base.frzs b o xs e), fun b ps e => ?_⟩, ?_, fun x c e => ?_, ?_, fun x c e => ?_, fun p hp => ?_, hok, I.len⟩
  · exact keep b o (neL b o e) hb (neC b o e hx) (I.base.keep b o e n hb hx) (I.base.free b o e n hx)
  · obtain ⟨sl, e1⟩ := I.base.slot b o e n hb hx
    obtain ⟨sl', e2⟩ := slot b _ (neL b o e) hb (neC b o e hx) e1 (I.base.free b o e n hx)
    exact ⟨sl', e2⟩
  · obtain ⟨o', e1⟩ := I.base.there b o e hx
    exact free b o' (neC b o e hx) e1 (I.base.free b o e n hx)
  · obtain ⟨o', e1⟩ := I.base.there b o e hx
    exact there b o' (neC b o e hx) e1
  · obtain ⟨m1, e1⟩ := I.base.tbls b ps e
    obtain ⟨m2, e2⟩ := tbls b _ e1
    exact ⟨m1 ++ m2, by rw [e2, Array.append_assoc]⟩
  · obtain ⟨m, hn, hl⟩ := I.loc
    refine ⟨m, ns m hn, fun i x v e1 e2 e3 => ?_⟩
    obtain ⟨u, r, l⟩ := hl i x v e1 e2 e3
    refine ⟨u, r, ?_⟩
    rcases l with l | ⟨k, c, e, z⟩
    · exact .inl l
    · exact .inr ⟨k, c, e, cellK x c e _ z⟩
  · obtain ⟨v, z⟩ := I.cell x c e
    exact ⟨v, cellK x c e v z⟩
  · obtain ⟨m, ⟨o, _, _, ho, _⟩, _⟩ := I.loc
    exact free _ o (fun z => (hch _ z).2.1 rfl) ho I.free
  · obtain ⟨v, o, ho, hd⟩ := I.cell x c e
    exact free c o (fun z => (hch c z).2.2.1 x c e rfl) ho (I.freeC x c e)
  · obtain ⟨e, n, ne, nf, d⟩ := I.pin p hp
    have nch : p.1 ∉ ch := fun z => (hch p.1 z).2.2.2 p hp rfl
    exact ⟨keep p.1 p.2 ne nf nch e n, free p.1 p.2 nch e n, ne, nf, d⟩
theorem Inv.un {t' : Nat} (I : Inv X pins σ H s) (u : Un X.fs [] H H' s.heap h') (hok : HOk X.prog X.w H' h') : Inv X pins σ H' { s with heap := h', toks := t' } := by
  obtain ⟨m, ⟨o, es, ep, ho, r⟩, _⟩ := id I.loc
  obtain ⟨sl, hL⟩ := u.any ho I.free (by simp)
  exact I.step (g' := s.gens) (d' := s.drawn) (ch := []) (fun _ z => nomatch z) (fun b o _ hb _ e n => u.keep b o e n hb (by simp)) (fun b o _ hb _ e n => u.slot b o e n hb (by simp)) (fun b o _ e n => u.free b o e n (by simp)) (fun b o _ e => u.there b o e (by simp)) u.tups u.frzs u.tbls (fun m' hm => by
    obtain ⟨o', es', ep', ho', r'⟩ := hm
    rw [ho] at ho'; cases ho'
    exact ⟨_, es', ep', hL, r'⟩) hok I.bare
theorem Inv.call {g' : Array GenState} {t' : Nat} {d' : Drawn} {ch : List Addr} (I : Inv X pins σ H s) (u : Un (frs X.stack) ch H H' s.heap h') (hok : HOk X.prog X.w H' h') (hg : AllBare g')
    (hch : ∀ b ∈ ch, (b ∈ X.ex ∨ X.s₀.heap.objs.size ≤ b) ∧ b ≠ X.env.locals ∧ (∀ x c, X.env.cells.lookup x = some c → c ≠ b) ∧ ∀ p ∈ X.pn ++ pins, p.1 ≠ b) :
    Inv X pins σ H' { s with heap := h', gens := g', drawn := d', toks := t' } := by
  obtain ⟨m, ⟨o, es, ep, ho, r⟩, _⟩ := id I.loc
  obtain ⟨sl, hL⟩ := u.any ho I.free fun z => (hch _ z).2.1 rfl
  exact I.step (ch := ch) hch (fun b o hL hb hc e n => u.keep b o e n (fun z => (List.mem_cons.mp (I.stkSub b z)).elim hL hb) hc) (fun b o _ _ hc e n => u.any e n hc) (fun b o hc e n => u.free b o e n hc) (fun b o hc e => u.there b o e hc) u.tups u.frzs u.tbls (fun m' hm => by
    obtain ⟨o', es', ep', ho', r'⟩ := hm
    rw [ho] at ho'; cases ho'
    exact ⟨_, es', ep', hL, r'⟩) hok hg
theorem Inv.turned {t' : Nat} {it : Addr} (I : Inv X pins σ H s) (k : ∀ b o, b ≠ it → s.heap.get? b = some o → h'.get? b = some o) (hn : H it = none) (hL : it ≠ X.env.locals)
    (h1 : it ∈ X.ex ∨ X.s₀.heap.objs.size ≤ it) (h2 : ∀ x c, X.env.cells.lookup x = some c → c ≠ it) (h3 : ∀ p ∈ X.pn ++ pins, p.1 ≠ it) : Inv X pins σ H { s with heap := h', toks := t' } := by
  have nit : ∀ b u, H b = some u → b ≠ it := fun b u e z => by rw [z, hn] at e; cases e
  refine I.step (g' := s.gens) (d' := s.drawn) (ch := [it]) (fun b hb => ?_) (fun b o _ _ hc e _ => k b o (fun z => hc (by simp [z])) e) (fun b o _ _ hc e _ => ⟨o.slots, k b o (fun z => hc (by simp [z])) e⟩) (fun _ _ _ _ n => n)
    (fun b o hc e => ⟨o, k b o (fun z => hc (by simp [z])) e⟩) (fun _ _ e => e) (fun _ _ _ e => e) (fun b ps e => ⟨#[], by rw [e]; simp⟩) (fun m hm => ?_) (fun b u e => ?_) I.bare
  · have e : b = it := by simpa using hb
    subst e
    exact ⟨h1, hL, h2, h3⟩
  · obtain ⟨o, es, ep, ho, r⟩ := hm
    exact ⟨o, es, ep, k _ o (Ne.symm hL) ho, r⟩
  · refine (I.hok b u e).stay (fun c v hc q => k c v ?_ q) (fun _ q => q) fun _ _ q => q
    rcases hc with z | z
    · rw [z]; exact nit b u e
    · exact nit c _ z
theorem Inv.tok (I : Inv X pins σ H s) (t : Nat) : Inv X pins σ H { s with toks := t } := I.un (h' := s.heap) (t' := t) Un.refl I.hok
theorem Inv.kept {t' : Nat} (I : Inv X pins σ H s) (k : ∀ b u, s.heap.get? b = some u → h'.get? b = some u) : Inv X pins σ H { s with heap := h', toks := t' } := I.un (Un.kept k) (I.hok.kept k)
theorem Inv.laid {a : Addr} {o : HO} {t' : Nat} (I : Inv X pins σ H s) (k : ∀ b u, s.heap.get? b = some u → h'.get? b = some u) (hp : s.heap.objs.size ≤ a) (new : ObjOk X.prog X.w (upd H a o) h' a o) :
    Inv X pins σ (upd H a o) { s with heap := h', toks := t' } := I.un (Un.laid k hp (I.hok.fresh hp)) (I.hok.laid k hp new)
theorem Inv.write {x e : Addr} {o : HO} {t' : Nat} (I : Inv X pins σ H s) (mu : Mut (H x)) (he : e = x ∨ H e = some (.own x)) (k : ∀ b u, b ≠ e → s.heap.get? b = some u → h'.get? b = some u) (heo : ∃ u, h'.get? e = some u)
    (new : ObjOk X.prog X.w (upd H x o) h' x o) : Inv X pins σ (upd H x o) { s with heap := h', toks := t' } := I.un (Un.write mu he k heo) (I.hok.write mu he k heo new)
theorem Inv.weak {σ' : List (Option V)} (I : Inv X pins σ H s) (hl : σ'.length = σ.length) (w : ∀ (i : Nat) v, σ'[i]? = some (some v) → σ[i]? = some (some v)) : Inv X pins σ' H s :=
  ⟨I.ok, I.os, I.bare, I.base, let ⟨m, hn, hl'⟩ := I.loc; ⟨m, hn, fun i x v e1 e2 e3 => hl' i x v e1 (w i v e2) e3⟩, I.cell, I.free, I.freeC, I.pin, I.hok, hl.trans I.len⟩
theorem Inv.pins_of {pins' : List (Addr × Obj)} (I : Inv X pins σ H s) (h : ∀ p ∈ pins', s.heap.get? p.1 = some p.2 ∧ H p.1 = none ∧ p.1 ≠ X.env.locals ∧ p.1 ∉ X.fs ∧ ∀ v, p.2.data ≠ .cell v) : Inv X pins' σ H s :=
  ⟨I.ok, I.os, I.bare, I.base, I.loc, I.cell, I.free, I.freeC, fun p hp => (List.mem_append.mp hp).elim (fun z => I.pin p (List.mem_append_left _ z)) (h p), I.hok, I.len⟩
theorem nodup_ix {N : List Str} (hN : N.Nodup) {i j : Nat} {x : Str} (a : N[i]? = some x) (b : N[j]? = some x) : i = j := by
  obtain ⟨h1, e1⟩ := List.getElem?_eq_some_iff.mp a
  obtain ⟨h2, e2⟩ := List.getElem?_eq_some_iff.mp b
  exact (List.getElem_inj hN).mp (e1.trans e2.symm)
theorem store_ok2 {M : Model} {A : Around} {E : Value → Shared → Prop} {i : Nat} {x : Str} {v : V} {u : Value} {Q : Unit → Shared → Prop} (I : Inv X pins σ H s) (hN : X.N.Nodup) (hi : X.N[i]? = some x) (hx : Loc X.env.scope x) (r : RelV v u)
    (h : ∀ s', Inv X pins (σ.set i (some v)) H s' → (∃ a, Heap.SameBut a s.heap s'.heap ∧ (a = X.env.locals ∨ X.env.cells.lookup x = some a)) → Q () s') (hf : X.fn x = true ∨ X.env.scope.names.lookup x = some .local := by first | exact .inl rfl | exact .inr rfl | assumption) : wpAny M A (storeName X.env x u) Q E s := by
  obtain ⟨m, hn, hl⟩ := id I.loc
  have hcls : (X.env.scope.kind == .class || (X.env.scope.kind == .module && X.env.locals != X.env.globals)) = false := by rw [I.ok.kind]; rfl
  have hiσ : i < σ.length := by rw [I.len]; exact (List.getElem?_eq_some_iff.mp hi).1
  have cne := I.cne
  have tracked : ∀ {a : Addr} {h' : Heap}, (∃ o, s.heap.get? a = some o ∧ H a = none) → Heap.SameBut a s.heap h' → HOk X.prog X.w H h' := fun {a h'} ha hs b ob e => by
    obtain ⟨_, _, hfree⟩ := ha
    refine (I.hok b ob e).stay (fun c w' hc q => (hs.2 c ?_).trans q) (fun _ q => q) fun _ _ q => q
    rintro rfl
    rcases hc with rfl | hc
    · rw [hfree] at e; cases e
    · rw [hfree] at hc; cases hc
  rcases hx with hk | hk
  · refine wpAny_storeName_local hk hn (fun h' hn' hs => ?_) hcls
    obtain ⟨oL, _, _, hoL, _⟩ := id hn
    refine h _ ⟨I.ok, I.os, I.bare, ⟨fun b o e n hb hx => ?_, fun b o e n hb hx => ?_, I.base.free, fun b o e hx => ?_, I.base.tups, I.base.frzs, I.base.tbls⟩, ⟨_, hn', fun j y v' e1 e2 e3 => ?_⟩, fun y c e => ?_, I.free, I.freeC, fun p hp => ?_, tracked ⟨oL, hoL, I.free⟩ hs, by simpa using I.len⟩ ⟨_, hs, .inl rfl⟩
    · exact (hs.2 b (Nat.ne_of_lt (Nat.lt_of_lt_of_le (Heap.lt_size e) I.ok.above))).trans (I.base.keep b o e n hb hx)
    · obtain ⟨sl, e1⟩ := I.base.slot b o e n hb hx
      exact ⟨sl, (hs.2 b (Nat.ne_of_lt (Nat.lt_of_lt_of_le (Heap.lt_size e) I.ok.above))).trans e1⟩
    · obtain ⟨o', e1⟩ := I.base.there b o e hx
      exact ⟨o', (hs.2 b (Nat.ne_of_lt (Nat.lt_of_lt_of_le (Heap.lt_size e) I.ok.above))).trans e1⟩
    · by_cases hj : j = i
      · subst hj
        rw [hi] at e1; cases e1
        rw [List.getElem?_set_self hiσ] at e2
        cases e2
        exact ⟨u, r, .inl ⟨hk, by simp⟩⟩
      · rw [List.getElem?_set_ne (Ne.symm hj)] at e2
        obtain ⟨u', r', q⟩ := hl j y v' e1 e2 e3
        refine ⟨u', r', ?_⟩
        rcases q with ⟨k, e⟩ | ⟨k, c, e, z⟩
        · refine .inl ⟨k, ?_⟩
          have : y ≠ x := fun e => hj (nodup_ix hN e1 (e ▸ hi))
          simp [this, e]
        · exact .inr ⟨k, c, e, z.sameBut hs (cne y c e)⟩
    · obtain ⟨w', z⟩ := I.cell y c e
      exact ⟨w', z.sameBut hs (cne y c e)⟩
    · obtain ⟨e, n, ne, nf, d⟩ := I.pin p hp
      exact ⟨(hs.2 p.1 ne).trans e, n, ne, nf, d⟩
  · have hfn : X.fn x = true := by
      rcases hf with z | z
      · exact z
      · rw [z] at hk; cases hk
    obtain ⟨c, hc⟩ := I.ok.has x (.inl hk)
    obtain ⟨w', z⟩ := I.cell x c hc
    refine wpAny_storeName_cell I.ok.kind hk hc z (fun h' hc' hs => ?_)
    obtain ⟨oc, hoc, hocd⟩ := id z
    refine h { s with heap := h' } ⟨I.ok, I.os, I.bare, ⟨fun b o e n hb hx => ?_, fun b o e n hb hx => ?_, I.base.free, fun b o e hx => ?_, I.base.tups, I.base.frzs, I.base.tbls⟩, ⟨m, hn.sameBut hs (Ne.symm (cne x c hc)), fun j y v' e1 e2 e3 => ?_⟩, fun y c' e => ?_, I.free, I.freeC, fun p hp => ?_, tracked ⟨oc, hoc, I.freeC x c hc⟩ hs, by simpa using I.len⟩ ⟨c, hs, .inr hc⟩
    · exact (hs.2 b (Nat.ne_of_lt (Nat.lt_of_lt_of_le (Heap.lt_size e) (I.ok.cab x c hfn hc)))).trans (I.base.keep b o e n hb hx)
    · obtain ⟨sl, e1⟩ := I.base.slot b o e n hb hx
      exact ⟨sl, (hs.2 b (Nat.ne_of_lt (Nat.lt_of_lt_of_le (Heap.lt_size e) (I.ok.cab x c hfn hc)))).trans e1⟩
    · obtain ⟨o', e1⟩ := I.base.there b o e hx
      exact ⟨o', (hs.2 b (Nat.ne_of_lt (Nat.lt_of_lt_of_le (Heap.lt_size e) (I.ok.cab x c hfn hc)))).trans e1⟩
    · by_cases hj : j = i
      · subst hj
        rw [hi] at e1; cases e1
        rw [List.getElem?_set_self hiσ] at e2
        cases e2
        exact ⟨u, r, .inr ⟨.inl hk, c, hc, hc'⟩⟩
      · rw [List.getElem?_set_ne (Ne.symm hj)] at e2
        obtain ⟨u', r', q⟩ := hl j y v' e1 e2 e3
        refine ⟨u', r', ?_⟩
        rcases q with q | ⟨k, c', e, z'⟩
        · exact .inl q
        · refine .inr ⟨k, c', e, z'.sameBut hs ?_⟩
          rintro rfl
          exact hj (nodup_ix hN e1 (I.ok.inj _ _ _ e hc ▸ hi))
    · by_cases hcc : c' = c
      · subst hcc; exact ⟨_, hc'⟩
      · obtain ⟨w2, z2⟩ := I.cell y c' e
        exact ⟨w2, z2.sameBut hs hcc⟩
    · obtain ⟨e, n, ne, nf, d⟩ := I.pin p hp
      refine ⟨(hs.2 p.1 ?_).trans e, n, ne, nf, d⟩
      intro q
      rw [q, hoc] at e
      have q' : oc = p.2 := Option.some.inj e
      exact d w' (by rw [← q']; exact hocd)
theorem store_ok {M : Model} {A : Around} {E : Value → Shared → Prop} {i : Nat} {x : Str} {v : V} {u : Value} {Q : Unit → Shared → Prop} (I : Inv X pins σ H s) (hN : X.N.Nodup) (hi : X.N[i]? = some x) (hx : Loc X.env.scope x) (r : RelV v u)
    (h : ∀ s', Inv X pins (σ.set i (some v)) H s' → Q () s') (hf : X.fn x = true ∨ X.env.scope.names.lookup x = some .local := by first | exact .inl rfl | exact .inr rfl | assumption) : wpAny M A (storeName X.env x u) Q E s :=
  store_ok2 I hN hi hx r (fun s' I' _ => h s' I') hf
theorem Inv.call' {s' : Shared} {ch : List Addr} (I : Inv X pins σ H s) (ho : s'.os = s.os) (u : Un (frs X.stack) ch H H' s.heap s'.heap) (hok : HOk X.prog X.w H' s'.heap) (hg : AllBare s'.gens)
    (hch : ∀ b ∈ ch, (b ∈ X.ex ∨ X.s₀.heap.objs.size ≤ b) ∧ b ≠ X.env.locals ∧ (∀ x c, X.env.cells.lookup x = some c → c ≠ b) ∧ ∀ p ∈ X.pn ++ pins, p.1 ≠ b) : Inv X pins σ H' s' := by
  obtain ⟨h', g', d', t', o'⟩ := s'
  have e : o' = s.os := ho
  subst e
  exact I.call (g' := g') (t' := t') (d' := d') u hok hg hch
end
abbrev XK := Value → Option Addr → Hp → Prop
abbrev St := List (Option V)
abbrev VK := V → Hp → Prop
abbrev TE := St → Hp → VK → Prop
abbrev TT := St → Hp → (Bool → Hp → Prop) → Prop
abbrev TA := St → Hp → (List V → Hp → Prop) → Prop
structure Ends where
  nx : St → Hp → Prop
  rt : VK
  bk : St → Hp → Prop := fun _ _ => False
  ct : St → Hp → Prop := fun _ _ => False
abbrev TS := Ends → St → Hp → Prop
def EP (X : Cx) (pins : List (Addr × Obj)) (σ : St) (Q : VK) (u : Value) (s' : Shared) : Prop := ∃ v H', Inv X pins σ H' s' ∧ RelV v u ∧ Q v H'
def TP (X : Cx) (pins : List (Addr × Obj)) (σ : St) (Q : Bool → Hp → Prop) (b : Bool) (s' : Shared) : Prop := ∃ H', Inv X pins σ H' s' ∧ Q b H'
def AP (X : Cx) (pins : List (Addr × Obj)) (σ : St) (Q : List V → Hp → Prop) (us : List Value) (s' : Shared) : Prop := ∃ vs H', Inv X pins σ H' s' ∧ Vals vs us ∧ Q vs H'
def SP (X : Cx) (pins : List (Addr × Obj)) (D : Ends) (f : Flow) (s' : Shared) : Prop :=
  match f with
  | .next => ∃ σ' H', Inv X pins σ' H' s' ∧ D.nx σ' H'
  | .brk => ∃ σ' H', Inv X pins σ' H' s' ∧ D.bk σ' H'
  | .cont => ∃ σ' H', Inv X pins σ' H' s' ∧ D.ct σ' H'
  | .ret u => ∃ v σ' H', Inv X pins σ' H' s' ∧ RelV v u ∧ D.rt v H'
def PE (X : Cx) (e : Expr) (t : TE) : Prop :=
  ∀ (pins : List (Addr × Obj)) (s : Shared) (σ : St) (H : Hp) (Q : VK), Inv X pins σ H s → t σ H Q → wpAny (model X.prog X.w) X.A (eval e X.env) (EP X pins σ Q) X.xe s
def PT (X : Cx) (e : Expr) (t : TT) : Prop :=
  ∀ (pins : List (Addr × Obj)) (s : Shared) (σ : St) (H : Hp) (Q : Bool → Hp → Prop), Inv X pins σ H s → t σ H Q → wpAny (model X.prog X.w) X.A (isTrue e X.env (eval e X.env)) (TP X pins σ Q) X.xe s
def PW (X : Cx) (e : Expr) (t : TT) : Prop :=
  ∀ (whole : Sem Value) (pins : List (Addr × Obj)) (s : Shared) (σ : St) (H : Hp) (Q : Bool → Hp → Prop), Inv X pins σ H s → t σ H Q → wpAny (model X.prog X.w) X.A (isTrue e X.env whole) (TP X pins σ Q) X.xe s
theorem PW.pt {X : Cx} {e : Expr} {t : TT} (h : PW X e t) : PT X e t := h _
def PA (X : Cx) (es : List Expr) (t : TA) : Prop :=
  ∀ (pos : Pos) (pins : List (Addr × Obj)) (s : Shared) (σ : St) (H : Hp) (Q : List V → Hp → Prop), Inv X pins σ H s → t σ H Q → wpAny (model X.prog X.w) X.A (spliced (backTo pos (starEach es X.env))) (AP X pins σ Q) X.xe s
def PS (X : Cx) (st : Stmt) (t : TS) : Prop :=
  ∀ (pins : List (Addr × Obj)) (s : Shared) (σ : St) (H : Hp) (D : Ends), Inv X pins σ H s → t D σ H → wpAny (model X.prog X.w) X.A (exec st X.env) (SP X pins D) X.xe s
def PSs (X : Cx) (st : List Stmt) (t : TS) : Prop :=
  ∀ (pins : List (Addr × Obj)) (s : Shared) (σ : St) (H : Hp) (D : Ends), Inv X pins σ H s → t D σ H → wpAny (model X.prog X.w) X.A (execs st X.env) (SP X pins D) X.xe s
theorem thn {α : Type} {t : Sem α} {Q Q' : α → Shared → Prop} {M : Model} {A : Around} {E : Value → Shared → Prop} {s : Shared} (h : wpAny M A t Q E s) (hQ : ∀ a s, Q a s → Q' a s) : wpAny M A t Q' E s := wpAny_mono h hQ fun _ _ x => x
end L2
namespace L2
open PySem PySem.Spec PyProof.Rows
section
variable {X : Cx}
def tVar (i : Nat) : TE := fun σ H Q => ∃ v, σ[i]? = some (some v) ∧ Q v H
def tC (v : V) : TE := fun _ H Q => Q v H
theorem pe_var {i : Nat} {x : Str} {pos : Pos} (hN : X.N[i]? = some x) (hv : Vis X.env.scope x) (hd : (x == ("__debug__" : Str)) = false := by decide) (hcd : (x == ("__classdict__" : Str)) = false := by decide) : PE X (.Name x pos) (tVar i) := by
  intro pins s σ H Q I h
  obtain ⟨v, e, h⟩ := h
  obtain ⟨m, hn, hl⟩ := I.loc
  obtain ⟨u, r, l⟩ := hl i x v hN e hv
  have fin : EP X pins σ Q u s := ⟨v, H, I, r, h⟩
  rcases l with ⟨hk, hm⟩ | ⟨hk, c, hc, hcell⟩
  · exact wpAny_Name (wpAny_loadName_local I.ok.kind hk hn hm fin) hd
  · rcases hk with hk | hk
    · exact wpAny_Name (wpAny_loadName_cell I.ok.kind hk hc hcell fin) hd
    · exact wpAny_Name (wpAny_loadName_free I.ok.kind hk hc hcell fin hcd) hd
theorem pe_int {i j pos} : PE X (.Constant (.int i) j pos) (tC (.int i)) := fun _ _ _ H _ I h => wpAny_Constant_int ⟨.int i, H, I.tok _, ⟨_, rfl⟩, h⟩
theorem pe_bl {b j pos} : PE X (.Constant (.bool b) j pos) (tC (.bl b)) := fun _ _ _ H _ I h => Constant_bool ⟨.bl b, H, I, rfl, h⟩
theorem pe_non {j pos} : PE X (.Constant .none j pos) (tC .non) := fun _ _ _ H _ I h => Constant_none ⟨.non, H, I, rfl, h⟩
theorem pe_str {x j pos} : PE X (.Constant (.str x) j pos) (tC (.str x)) := fun _ _ _ H _ I h => Calls.Constant_str ⟨.str x, H, I.tok _, ⟨_, rfl⟩, h⟩
def Gl (X : Cx) (x : Str) : Prop := X.env.kindOf x = some .globalImplicit
theorem ld_glob {E : Value → Shared → Prop} {pins : List (Addr × Obj)} {s : Shared} {σ : St} {H : Hp} {x : Str} {u : Value} {pos : Pos} {Q : Value → Shared → Prop} (I : Inv X pins σ H s) (hg : Gl X x) (hm : X.mg x = some u) (h : Q u s)
    (hd : (x == ("__debug__" : Str)) = false := by decide) : wpAny (model X.prog X.w) X.A (eval (.Name x pos) X.env) Q E s :=
  Calls.Name_function_global I.ok.kind hg (Calls.loadGlobal_global (by rw [I.ok.glob]; exact I.mod.glob.keeps I.bk) hm h) hd
theorem ld_blt {E : Value → Shared → Prop} {pins : List (Addr × Obj)} {s : Shared} {σ : St} {H : Hp} {x : Str} {u : Value} {pos : Pos} {Q : Value → Shared → Prop} (I : Inv X pins σ H s) (hg : Gl X x) (hm : X.mg x = none) (hv : bootBuiltins x = some u) (h : Q u s)
    (hn : x ≠ "__name__" := by decide) (hd : (x == ("__debug__" : Str)) = false := by decide) : wpAny (model X.prog X.w) X.A (eval (.Name x pos) X.env) Q E s := by
  obtain ⟨mb, h1, h2⟩ := I.mod.blt
  exact Calls.Name_function_global I.ok.kind hg (Calls.loadGlobal_builtin (by rw [I.ok.glob]; exact I.mod.glob.keeps I.bk) hm (by rw [I.ok.blt]; exact h1.keeps I.bk) ((h2 x hn).trans hv) h) hd
theorem pe_glob {x : Str} {v : V} {u : Value} {pos : Pos} (hg : Gl X x) (hm : X.mg x = some u) (r : RelV v u) (hd : (x == ("__debug__" : Str)) = false := by decide) : PE X (.Name x pos) (tC v) :=
  fun _ _ _ H _ I h => ld_glob I hg hm ⟨v, H, I, r, h⟩ hd
theorem pe_bltn {x : Str} {v : V} {u : Value} {pos : Pos} (hg : Gl X x) (hm : X.mg x = none) (hv : bootBuiltins x = some u) (r : RelV v u) (hn : x ≠ "__name__" := by decide) (hd : (x == ("__debug__" : Str)) = false := by decide) : PE X (.Name x pos) (tC v) :=
  fun _ _ _ H _ I h => ld_blt I hg hm hv ⟨v, H, I, r, h⟩ hn hd
variable {a b : Expr} {ta tb : TE} {pos : Pos}
def PC (X : Cx) (op : CmpOp) (a b : Expr) (t : TE) : Prop :=
  ∀ (pins : List (Addr × Obj)) (s : Shared) (σ : St) (H : Hp) (Q : VK), Inv X pins σ H s → t σ H Q →
    wpAny (model X.prog X.w) X.A (eval a X.env) (fun v s₁ => wpAny (model X.prog X.w) X.A (eval b X.env) (fun u s₂ => wpAny (model X.prog X.w) X.A (compareOp op v u) (EP X pins σ Q) X.xe s₂) X.xe s₁) X.xe s
def tB (t : TE) : TT := fun σ H Q => t σ H fun x H1 => ∃ c, x = .bl c ∧ Q c H1
theorem pt_cmp {op : CmpOp} {t : TE} (h : PC X op a b t) (h1 : behindInMarks op b = false := by first | exact nobehind _ (by decide) (by decide) | rfl) : PT X (.Compare a [op] [b] pos) (tB t) := by
  intro pins s σ H Q I hw
  refine wpAny_isTrue_Compare1 (thn (h pins s σ H _ I hw) fun v s1 h1 => thn h1 fun u s2 h2 => thn h2 fun c s3 ⟨x, H1, I1, r1, q1⟩ => ?_) h1
  obtain ⟨d, rfl, q⟩ := q1
  cases r1
  exact wpAny_truthy_bool ⟨H1, I1, q⟩
theorem pt_val {e : Expr} {t : TE} (h : PE X e t) (he : ∀ whole, isTrue e X.env whole = (do let v ← whole; standAt e.pos; holding [v] (truthy v)) := by intro _; rfl) : PT X e (tB t) := by
  intro pins s σ H Q I hw
  refine isTrue_plain (thn (h pins s σ H _ I hw) fun v s1 ⟨x, H1, I1, r1, q1⟩ => ?_) (he _)
  obtain ⟨d, rfl, q⟩ := q1
  cases r1
  exact wpAny_truthy_bool ⟨H1, I1, q⟩
variable {tA tB' : TT} {rest : List Expr}
def tAnd (t u : TT) : TT := fun σ H Q => t σ H fun c H1 => if c = true then u σ H1 Q else Q false H1
def tOr (t u : TT) : TT := fun σ H Q => t σ H fun c H1 => if c = true then Q true H1 else u σ H1 Q
def tNot (t : TT) : TT := fun σ H Q => t σ H fun c H1 => Q (!c) H1
theorem pw_and1 (ha : PT X a tA) : PW X (.BoolOp .And [a] pos) tA := by
  intro wh pins s σ H Q I h
  refine isTrue_and (thn (ha pins s σ H Q I h) fun c s1 e => ?_)
  cases c with
  | true => exact isTrue_and_nil e
  | false => exact e
theorem pw_or1 (ha : PT X a tA) : PW X (.BoolOp .Or [a] pos) tA := by
  intro wh pins s σ H Q I h
  refine isTrue_or (thn (ha pins s σ H Q I h) fun c s1 e => ?_)
  cases c with
  | false => exact isTrue_or_nil e
  | true => exact e
theorem pw_and (ha : PT X a tA) (hb : PW X (.BoolOp .And (b :: rest) pos) tB') : PW X (.BoolOp .And (a :: b :: rest) pos) (tAnd tA tB') := by
  intro wh pins s σ H Q I h
  refine isTrue_and (thn (ha pins s σ H _ I h) fun c s1 ⟨H1, I1, q1⟩ => ?_)
  cases c with
  | true => exact hb wh pins s1 σ H1 Q I1 q1
  | false => exact ⟨H1, I1, q1⟩
theorem pw_or (ha : PT X a tA) (hb : PW X (.BoolOp .Or (b :: rest) pos) tB') : PW X (.BoolOp .Or (a :: b :: rest) pos) (tOr tA tB') := by
  intro wh pins s σ H Q I h
  refine isTrue_or (thn (ha pins s σ H _ I h) fun c s1 ⟨H1, I1, q1⟩ => ?_)
  cases c with
  | true => exact ⟨H1, I1, q1⟩
  | false => exact hb wh pins s1 σ H1 Q I1 q1
theorem pt_not (ha : PT X a tA) : PT X (.UnaryOp .Not a pos) (tNot tA) := by
  intro pins s σ H Q I h
  exact isTrue_not (ha pins s σ H (fun c H1 => Q (!c) H1) I h)
def tAndV (ta tb : TE) : TE := fun σ H Q => ta σ H fun x H1 => ∃ c, x = .bl c ∧ if c = true then tb σ H1 Q else Q (.bl false) H1
def tNotV (ta : TE) : TE := fun σ H Q => ta σ H fun x H1 => ∃ c, x = .bl c ∧ Q (.bl (!c)) H1
theorem pe_one {op} {t : TE} (h : PE X a t) : PE X (.BoolOp op [a] pos) t := fun pins s σ H Q I hw => BoolOp_one (h pins s σ H Q I hw)
theorem pe_and (ha : PE X a ta) (hb : PE X (.BoolOp .And (b :: rest) pos) tb) : PE X (.BoolOp .And (a :: b :: rest) pos) (tAndV ta tb) := by
  intro pins s σ H Q I h
  refine BoolOp_and (thn (ha pins s σ H _ I h) fun v s1 ⟨x, H1, I1, r1, q1⟩ => ?_)
  obtain ⟨c, rfl, q1⟩ := q1
  cases r1
  refine wpAny_truthy_bool ?_
  cases c with
  | true => exact hb pins s1 σ H1 Q I1 q1
  | false => exact ⟨.bl false, H1, I1, rfl, q1⟩
theorem pe_not (ha : PE X a ta) : PE X (.UnaryOp .Not a pos) (tNotV ta) := by
  intro pins s σ H Q I h
  refine UnaryOp_ (thn (ha pins s σ H _ I h) fun v s1 ⟨x, H1, I1, r1, q1⟩ => ?_)
  obtain ⟨c, rfl, q1⟩ := q1
  cases r1
  exact not_of (wpAny_truthy_bool ⟨.bl (!c), H1, I1, rfl, q1⟩)
end
end L2
namespace L2
open PySem PySem.Spec PyProof.Rows
def SqL (K : PySem.W.Frag) (H : Hp) (a : Addr) (xs : List V) : Prop :=
  Rd H a (.lst xs) ∨
    ∃ (o : Obj) (its : Array Value) (n : Nat), K.lookup a = some o ∧ o.cls = .type "list" ∧ o.dict = none ∧ o.data = .seq its n ∧ its.size ≤ sizeLine ∧ Vals xs its.toList
def SqT (K : PySem.W.Frag) (H : Hp) (a : Addr) (xs : List V) : Prop :=
  Rd H a (.tup xs) ∨
    ∃ (o : Obj) (its : Array Value) (n : Nat), K.lookup a = some o ∧ o.cls = .type "tuple" ∧ o.data = .seq its n ∧ its.size ≤ sizeLine ∧ Vals xs its.toList
def absV : Value → Option V
  | .none => some .non
  | .bool b => some (.bl b)
  | .int i _ => some (.int i)
  | .str x _ => some (.str x)
  | .bytes b _ => some (.byt b)
  | .float b _ => some (.flt b)
  | .ref a => some (.ref a)
  | .type n => some (.ty n)
  | _ => none
theorem RelV.abs {x : V} {u : Value} (r : RelV x u) : absV u = some x := by
  cases x with
  | non => cases r; rfl
  | bl _ => cases r; rfl
  | int _ => obtain ⟨t, rfl⟩ := r; rfl
  | str _ => obtain ⟨t, rfl⟩ := r; rfl
  | byt _ => obtain ⟨t, rfl⟩ := r; rfl
  | flt _ => obtain ⟨t, rfl⟩ := r; rfl
  | ref _ => cases r; rfl
  | ty _ => cases r; rfl
theorem RelV.inj {x y : V} {u : Value} (r : RelV x u) (q : RelV y u) : x = y := Option.some.inj (r.abs.symm.trans q.abs)
theorem Vals.inj : ∀ {xs ys : List V} {us : List Value}, Vals xs us → Vals ys us → xs = ys
  | _, _, _, .nil, .nil => rfl
  | _, _, _, .cons r t, .cons r' t' => by rw [r.inj r', Vals.inj t t']
section
variable {X : Cx} {pins : List (Addr × Obj)} {σ : St} {H : Hp} {s : Shared} {a : Addr} {xs ys : List V}
theorem SqL.of {K : PySem.W.Frag} (h : H a = some (.lst xs)) : SqL K H a xs := .inl (.inl h)
theorem SqT.of {K : PySem.W.Frag} (h : H a = some (.tup xs)) : SqT K H a xs := .inl (.inl h)
theorem Inv.list (I : Inv X pins σ H s) (h : SqL X.K H a xs) : ∃ its : List Value, Vals xs its ∧ PlainL s.heap a its.toArray ∧ xs.length ≤ sizeLine := by
  rcases h with h | ⟨o, its, n, hk, hc, hd, hs, hz, r⟩
  · obtain ⟨z, its, n, r, e⟩ := h.ok I.hok
    exact ⟨its, r, ⟨_, n, e, rfl, rfl, rfl⟩, z⟩
  · refine ⟨its.toList, r, ⟨o, n, I.kIn a o hk, hc, hd, by simpa using hs⟩, ?_⟩
    have e := r.length
    simp only [Array.length_toList] at e
    (first | lia | omega)
theorem Inv.tuple (I : Inv X pins σ H s) (h : SqT X.K H a xs) : ∃ its : List Value, Vals xs its ∧ IsTup s.heap a its.toArray ∧ xs.length ≤ sizeLine := by
  rcases h with h | ⟨o, its, n, hk, hc, hs, hz, r⟩
  · obtain ⟨z, its, r, p⟩ := h.ok I.hok
    exact ⟨its, r, p.tup, z⟩
  · refine ⟨its.toList, r, ⟨o, I.kIn a o hk, hc, n, by simpa using hs⟩, ?_⟩
    have e := r.length
    simp only [Array.length_toList] at e
    (first | lia | omega)
theorem Inv.list_inj (I : Inv X pins σ H s) (h : SqL X.K H a xs) (h' : SqL X.K H a ys) : xs = ys := by
  obtain ⟨its, r, ⟨o, n, e, _, _, d⟩, _⟩ := I.list h
  obtain ⟨its', r', ⟨o', n', e', _, _, d'⟩, _⟩ := I.list h'
  rw [e] at e'; cases e'
  rw [d] at d'
  injection d' with d1 _
  have : its = its' := by simpa using congrArg Array.toList d1
  subst this
  exact r.inj r'
theorem Inv.tuple_inj (I : Inv X pins σ H s) (h : SqT X.K H a xs) (h' : SqT X.K H a ys) : xs = ys := by
  obtain ⟨its, r, ⟨o, e, _, n, d⟩, _⟩ := I.tuple h
  obtain ⟨its', r', ⟨o', e', _, n', d'⟩, _⟩ := I.tuple h'
  rw [e] at e'; cases e'
  rw [d] at d'
  injection d' with d1 _
  have : its = its' := by simpa using congrArg Array.toList d1
  subst this
  exact r.inj r'
end
abbrev Cx.wish (X : Cx) (E : Value → Shared → Prop) : Cx := { X with xe := E }
abbrev Cx.nox (X : Cx) : Cx := X.wish fun _ _ => False
theorem Cx.Ok.wish {X : Cx} (ok : X.Ok) (E : Value → Shared → Prop) : (X.wish E).Ok :=
  ⟨ok.mod, ok.kind, ok.glob, ok.blt, ok.above, ok.inj, ok.has, ok.cab, ok.hd, ok.frames, ok.stk, ok.exf, ok.bs, ok.bsz, ok.noex, ok.exfs, ok.funs, ok.frf⟩
theorem Cx.Ok.unwish {X : Cx} {E : Value → Shared → Prop} (ok : (X.wish E).Ok) : X.Ok :=
  ⟨ok.mod, ok.kind, ok.glob, ok.blt, ok.above, ok.inj, ok.has, ok.cab, ok.hd, ok.frames, ok.stk, ok.exf, ok.bs, ok.bsz, ok.noex, ok.exfs, ok.funs, ok.frf⟩
section
variable {X : Cx} {pins : List (Addr × Obj)} {σ : St} {H : Hp} {s : Shared} {E : Value → Shared → Prop}
theorem Inv.wish (I : Inv X pins σ H s) (E : Value → Shared → Prop) : Inv (X.wish E) pins σ H s := ⟨I.ok.wish E, I.os, I.bare, I.base, I.loc, I.cell, I.free, I.freeC, I.pin, I.hok, I.len⟩
theorem Inv.unwish (I : Inv (X.wish E) pins σ H s) : Inv X pins σ H s := ⟨I.ok.unwish, I.os, I.bare, I.base, I.loc, I.cell, I.free, I.freeC, I.pin, I.hok, I.len⟩
theorem SP.unwish {D : Ends} {f : Flow} {s' : Shared} (h : SP (X.wish E) pins D f s') : SP X pins D f s' := by
  cases f with
  | next => obtain ⟨σ', H', I, q⟩ := h; exact ⟨σ', H', I.unwish, q⟩
  | brk => obtain ⟨σ', H', I, q⟩ := h; exact ⟨σ', H', I.unwish, q⟩
  | cont => obtain ⟨σ', H', I, q⟩ := h; exact ⟨σ', H', I.unwish, q⟩
  | ret u => obtain ⟨v, σ', H', I, r, q⟩ := h; exact ⟨v, σ', H', I.unwish, r, q⟩
theorem PSs.nox {st : List Stmt} {t : TS} (h : PSs X.nox st t) : PSs X st t := fun pins s σ H D I hw =>
  wpAny_mono (h pins s σ H D (I.wish _) hw) (fun _ _ q => q.unwish) fun _ _ z => False.elim z
end
section
variable {X : Cx} {st : Stmt} {rest : List Stmt} {t u : TS} {e : Expr} {te : TE} {pos : Pos}
def tNext : TS := fun D σ H => D.nx σ H
def tSeq (t u : TS) : TS := fun D σ H => t { D with nx := u D } σ H
theorem pss_nil : PSs X [] tNext := fun _ _ σ H _ I h => wpAny_execs_nil ⟨σ, H, I, h⟩
theorem pss_cons (h1 : PS X st t) (h2 : PSs X rest u) : PSs X (st :: rest) (tSeq t u) := by
  intro pins s σ H D I h
  refine wpAny_execs_cons (thn (h1 pins s σ H { D with nx := u D } I h) fun f s1 q => ?_)
  cases f with
  | next =>
    obtain ⟨σ', H', I', q⟩ := q
    exact h2 pins s1 σ' H' D I' q
  | ret v => exact q
  | brk => exact q
  | cont => exact q
theorem pss_one (h1 : PS X st t) : PSs X [st] t := by
  intro pins s σ H D I h
  refine wpAny_execs_cons (thn (h1 pins s σ H D I h) fun f s1 q => ?_)
  cases f with
  | next => exact wpAny_execs_nil q
  | ret v => exact q
  | brk => exact q
  | cont => exact q
theorem Inv.quiet {pins : List (Addr × Obj)} {σ : St} {H : Hp} {s : Shared} (I : Inv X pins σ H s) : interactive X.env = false := by simp [interactive, I.ok.kind]
def tDrop (te : TE) : TS := fun D σ H => te σ H fun _ H1 => D.nx σ H1
theorem ps_expr (he : PE X e te) (hs : swapsWith e none pos.line X.env = pure false := by rfl) : PS X (.Expr e pos) (tDrop te) := by
  intro pins s σ H D I h
  exact wpAny_Expr_any (thn (he pins s σ H _ I h) fun v s1 ⟨x, H1, I1, r1, q1⟩ => ⟨σ, H1, I1, q1⟩) I.quiet hs
def tRet (te : TE) : TS := fun D σ H => te σ H D.rt
theorem ps_ret (he : PE X e te) : PS X (.Return (some e) pos) (tRet te) := by
  intro pins s σ H D I h
  exact wpAny_Return_some (thn (he pins s σ H _ I h) fun v s1 ⟨x, H1, I1, r1, q1⟩ => ⟨x, σ, H1, I1, r1, q1⟩)
def tIfS (c : TT) (t u : TS) : TS := fun D σ H => c σ H fun b H1 => if b = true then t D σ H1 else u D σ H1
theorem ps_if {c : Expr} {a b : List Stmt} {tc : TT} (hc : PT X c tc) (ha : PSs X a t) (hb : PSs X b u) : PS X (.If c a b pos) (tIfS tc t u) := by
  intro pins s σ H D I h
  refine wpAny_If (thn (hc pins s σ H _ I h) fun d s1 ⟨H1, I1, q1⟩ => ?_)
  cases d with
  | true => exact ha pins s1 σ H1 D I1 q1
  | false => exact hb pins s1 σ H1 D I1 q1
def tNever : TS := fun _ _ _ => False
theorem pss_never {sts : List Stmt} : PSs X sts tNever := fun _ _ _ _ _ _ h => h.elim
end
abbrev TG := V → St → Hp → (St → Hp → Prop) → Prop
abbrev TGs := List V → St → Hp → (St → Hp → Prop) → Prop
def PG (X : Cx) (target : Expr) (t : TG) : Prop :=
  ∀ (pins : List (Addr × Obj)) (s : Shared) (σ : St) (H : Hp) (v : V) (u : Value) (Q : St → Hp → Prop), Inv X pins σ H s → RelV v u → t v σ H Q →
    wpAny (model X.prog X.w) X.A (assign target X.env u) (fun _ s' => ∃ σ' H', Inv X pins σ' H' s' ∧ Q σ' H') X.xe s
def PGs (X : Cx) (ts : List Expr) (t : TGs) : Prop :=
  ∀ (pins : List (Addr × Obj)) (s : Shared) (σ : St) (H : Hp) (vs : List V) (us : List Value) (Q : St → Hp → Prop), Inv X pins σ H s → Vals vs us → t vs σ H Q →
    wpAny (model X.prog X.w) X.A (assignInOrder ((assignEach ts X.env).map (·.2)) us) (fun _ s' => ∃ σ' H', Inv X pins σ' H' s' ∧ Q σ' H') X.xe s
section
variable {X : Cx} {pos : Pos}
def gName (i : Nat) : TG := fun v σ H Q => Q (σ.set i (some v)) H
theorem pg_name {i : Nat} {x : Str} (hN : X.N.Nodup) (hi : X.N[i]? = some x) (hx : Loc X.env.scope x) (hf : X.fn x = true ∨ X.env.scope.names.lookup x = some .local := by first | exact .inl rfl | exact .inr rfl | assumption) : PG X (.Name x pos) (gName i) := by
  intro pins s σ H v u Q I r h
  exact wpAny_assign_Name (store_ok I hN hi hx r (fun s' I' => ⟨_, H, I', h⟩) hf)
def gNil : TGs := fun vs σ H Q => vs = [] ∧ Q σ H
def gCons (t : TG) (u : TGs) : TGs := fun vs σ H Q => ∃ v r, vs = v :: r ∧ t v σ H fun σ' H' => u r σ' H' Q
theorem pgs_nil : PGs X [] gNil := by
  intro pins s σ H vs us Q I r h
  obtain ⟨e, h⟩ := h
  subst e
  cases r
  exact assignInOrder_nil ⟨σ, H, I, h⟩
theorem pgs_cons {e : Expr} {es : List Expr} {t : TG} {u : TGs} (h1 : PG X e t) (h2 : PGs X es u)
    (hs : (assignEach (e :: es) X.env).map (·.2) = assign e X.env :: (assignEach es X.env).map (·.2) := by rfl) : PGs X (e :: es) (gCons t u) := by
  intro pins s σ H vs us Q I r h
  obtain ⟨v, vr, e1, h⟩ := h
  subst e1
  cases r with
  | cons r rr =>
    rw [hs]
    refine assignInOrder_cons (thn (h1 pins s σ H _ _ _ I r h) fun _ s1 ⟨σ1, H1, I1, q1⟩ => ?_)
    exact h2 pins s1 σ1 H1 _ _ Q I1 rr q1
def gTup (K : PySem.W.Frag) (n : Nat) (t : TGs) : TG := fun v σ H Q => ∃ a xs, v = .ref a ∧ SqT K H a xs ∧ xs.length = n ∧ t xs σ H Q
theorem pg_tup {es : List Expr} {k : Nat} {t : TGs} {n : Nat} (hc : X.calm = true) (h : PGs X es t)
    (hn : (assignEach es X.env).length = n := by rfl) (hst : (assignEach es X.env).findIdx? (·.1) = none := by rfl) : PG X (.Tuple es k pos) (gTup X.K n t) := by
  intro pins s σ H v u Q I r hw
  obtain ⟨a, xs, e1, hq, hl, hw⟩ := hw
  subst e1
  cases r
  obtain ⟨its, rv, ht, hz⟩ := I.tuple hq
  refine assign_Tuple_tuple (I.ok.hd hc) ht (by simp [hn, ← hl, rv.length]) hst fun h' hx => ?_
  have I1 : Inv X pins σ H { s with heap := h' } := I.kept (t' := s.toks) fun b o e => hx b o (Nat.ne_of_lt (Heap.lt_size e)) e
  exact h pins _ σ H xs _ Q I1 (by simpa using rv) hw
def tAsg (te : TE) (g : TG) : TS := fun D σ H => te σ H fun x H1 => g x σ H1 D.nx
theorem ps_set {i : Nat} {x : Str} {e : Expr} {te : TE} {pos' : Pos} (hN : X.N.Nodup) (hi : X.N[i]? = some x) (hx : Loc X.env.scope x) (he : PE X e te) (hs : swapsWith e (some (.Name x pos')) pos.line X.env = pure false := by rfl) (hf : X.fn x = true ∨ X.env.scope.names.lookup x = some .local := by first | exact .inl rfl | exact .inr rfl | assumption) :
    PS X (.Assign [.Name x pos'] e pos) (tAsg te (gName i)) := by
  intro pins s σ H D I h
  refine wpAny_Assign_Name (thn (he pins s σ H _ I h) fun v s1 ⟨y, H1, I1, r1, q1⟩ => ?_) hs
  exact store_ok I1 hN hi hx r1 (fun s2 I2 => ⟨_, H1, I2, q1⟩) hf
end
section
variable {X : Cx} {pos : Pos}
def tWhile (c : TT) (tb : TS) : TS := fun D σ H => ∃ W : Nat → St → Hp → Prop, (∃ m, W m σ H) ∧ ∀ m σ H, W m σ H →
  c σ H fun b H1 => if b = true then ∃ N : St → Hp → Prop, (∀ σ' H', N σ' H' → ∃ m', m' < m ∧ W m' σ' H') ∧ tb { D with nx := N, ct := N, bk := D.nx } σ H1 else D.nx σ H1
theorem ps_while {c : Expr} {body : List Stmt} {tc : TT} {tb : TS} (hp : PassesOwn (model X.prog X.w) X.A X.env X.xe) (hc : PT X c tc) (hb : PSs X body tb) : PS X (.While c body [] pos) (tWhile tc tb) := by
  intro pins s σ H D I h
  obtain ⟨W, ⟨m0, w0⟩, turn⟩ := h
  refine wpAny_While (codeAny_whileLoop (fun n s' => ∃ σ' H', Inv X pins σ' H' s' ∧ W n σ' H') ?_ m0 ⟨σ, H, I, w0⟩)
  rintro n s1 ⟨σ1, H1, I1, w1⟩
  refine wpAny_passesOwn hp (thn (hc pins s1 σ1 H1 _ I1 (turn n σ1 H1 w1)) fun b s2 ⟨H2, I2, q2⟩ => ?_)
  cases b with
  | true =>
    obtain ⟨N, hN, q2⟩ := q2
    rw [if_pos rfl]
    refine wpAny_passesOwn hp (thn (hb pins s2 σ1 H2 _ I2 q2) fun f s3 q3 => ?_)
    cases f with
    | next =>
      obtain ⟨σ3, H3, I3, n3⟩ := q3
      obtain ⟨m', hm, w3⟩ := hN σ3 H3 n3
      exact ⟨m', hm, σ3, H3, I3, w3⟩
    | cont =>
      obtain ⟨σ3, H3, I3, n3⟩ := q3
      obtain ⟨m', hm, w3⟩ := hN σ3 H3 n3
      exact ⟨m', hm, σ3, H3, I3, w3⟩
    | brk => exact q3
    | ret v => exact q3
  | false =>
    rw [if_neg Bool.false_ne_true]
    exact wpAny_execs_nil ⟨σ1, H2, I2, q2⟩
end
structure It where
  go : Nat → Hp → Prop
  yld : Nat → Hp → V → Hp → Prop
  stop : Nat → Hp → Prop
def FpOk (X : Cx) (pins : List (Addr × Obj)) (H : Hp) (b : Addr) : Prop :=
  H b = none ∧ b ≠ X.env.locals ∧ b ∉ X.fs ∧ (b ∈ X.ex ∨ X.s₀.heap.objs.size ≤ b) ∧ (∀ x c, X.env.cells.lookup x = some c → c ≠ b) ∧ ∀ p ∈ X.pn ++ pins, p.1 ≠ b
theorem Inv.fpOk {X : Cx} {pins : List (Addr × Obj)} {σ : St} {H H' : Hp} {s : Shared} {b : Addr} (I : Inv X pins σ H s) (hb : s.heap.objs.size ≤ b) (hn : H' b = none) : FpOk X pins H' b := by
  refine ⟨hn, Nat.ne_of_gt (Nat.lt_of_lt_of_le I.lt hb), I.nofs hb, .inr (Nat.le_trans I.sz hb), fun x c e z => ?_, fun p hp z => ?_⟩
  · obtain ⟨v, q⟩ := I.cell x c e
    exact absurd (Nat.lt_of_lt_of_le q.lt (by rw [z]; exact hb)) (Nat.lt_irrefl _)
  · exact absurd (Nat.lt_of_lt_of_le (Heap.lt_size (I.pin p hp).1) (by rw [z]; exact hb)) (Nat.lt_irrefl _)
structure Turn (P : Program) (w : World) (K : PySem.W.Frag) (tg : Expr) (J : It) (fp : List Addr) (it : Addr) (tn : Nat → Heap → Prop) : Prop where
  mem : it ∈ fp
  obj : ∀ i h, tn i h → ∀ b ∈ fp, ∃ o, h.get? b = some o ∧ ∀ v, o.data ≠ .cell v
  keep : ∀ i h h', tn i h → (∀ b ∈ fp, ∀ o, h.get? b = some o → h'.get? b = some o) → tn i h'
  item : ∀ (X : Cx), X.prog = P → X.w = w → X.K = K → X.calm = true → ∀ (i : Nat) (pins : List (Addr × Obj)) (s : Shared) (σ : St) (H : Hp) (E : Value → Shared → Prop), Inv X pins σ H s → (∀ b ∈ fp, FpOk X pins H b) → tn i s.heap → J.go i H →
    wpAny (model P w) X.A (pyNext (.ref it)) (fun r s1 => ∃ u, r = some u ∧
      wpAny (model P w) X.A (letOwnedTupleGo tg (.ref it) u) (fun _ s2 => ∃ x H', Inv X pins σ H' s2 ∧ RelV x u ∧ J.yld i H x H' ∧ tn (i + 1) s2.heap ∧ ∀ b ∈ fp, H' b = none) E s1) E s
  done : ∀ (X : Cx), X.prog = P → X.w = w → X.K = K → X.calm = true → ∀ (i : Nat) (pins : List (Addr × Obj)) (s : Shared) (σ : St) (H : Hp) (E : Value → Shared → Prop), Inv X pins σ H s → (∀ b ∈ fp, FpOk X pins H b) → tn i s.heap → J.stop i H →
    wpAny (model P w) X.A (pyNext (.ref it)) (fun r s1 => r = none ∧ Inv X pins σ H s1) E s
  self : ∀ (A : Around) (i : Nat) (s : Shared) (Q : Value → Shared → Prop) (E : Value → Shared → Prop), tn i s.heap → Q (.ref it) s → wpAny (model P w) A (pyIter (.ref it)) Q E s
abbrev TI := St → Hp → (It → Hp → Prop) → Prop
def PIE (X : Cx) (pins : List (Addr × Obj)) (σ : St) (tg : Expr) (R : It → Hp → Prop) (itv : Value) (s2 : Shared) : Prop :=
  ∃ (it : Addr) (fp : List Addr) (tn : Nat → Heap → Prop) (J : It) (H' : Hp), itv = .ref it ∧ Inv X pins σ H' s2 ∧ Turn X.prog X.w X.K tg J fp it tn ∧ tn 0 s2.heap ∧ (∀ b ∈ fp, FpOk X pins H' b) ∧ R J H'
def PI (X : Cx) (tg iter : Expr) (wi : TI) : Prop :=
  ∀ (pins : List (Addr × Obj)) (s : Shared) (σ : St) (H : Hp) (R : It → Hp → Prop), Inv X pins σ H s → wi σ H R →
    wpAny (model X.prog X.w) X.A (eval iter X.env) (fun v s1 => wpAny (model X.prog X.w) X.A (pyIter v) (PIE X pins σ tg R) X.xe s1) X.xe s
theorem go_of {M : Model} {A : Around} {E : Value → Shared → Prop} {s : Shared} {tg : Expr} {it : Addr} {u : Value} {o : Obj} {n : String} {vs : Array Value} {Q : Unit → Shared → Prop} (ho : s.heap.get? it = some o) (hc : o.cls = .type n) (hd : o.data = .fields vs)
    (hn : ["enumerate", "zip", "dict_itemiterator", "dict_reverseitemiterator", "odict_iterator", "itertools.zip_longest", "itertools.pairwise"].contains n = false) (hQ : Q () s) : wpAny M A (letOwnedTupleGo tg (.ref it) u) Q E s := by
  unfold letOwnedTupleGo
  cases tg <;> first
    | exact wpAny_pure hQ
    | (cases u <;> first
        | exact wpAny_pure hQ
        | (refine wpAny_bind (wpAny_load ho ?_)
           rw [hc, hd]
           show wpAny M A (if (["enumerate", "zip", "dict_itemiterator", "dict_reverseitemiterator", "odict_iterator", "itertools.zip_longest", "itertools.pairwise"].contains n && vs[0]? == some (rawInt _)) = true then _ else _) Q E s
           rw [if_neg (by intro h; rw [hn, Bool.false_and] at h; cases h)]
           exact wpAny_pure hQ))
def Itl (K : PySem.W.Frag) (a : Addr) : It :=
  ⟨fun i H => ∃ xs x, SqL K H a xs ∧ xs[i]? = some x, fun i H x H' => H' = H ∧ ∀ xs, SqL K H a xs → xs[i]? = some x, fun i H => ∃ xs, SqL K H a xs ∧ xs.length ≤ i⟩
def Itt (K : PySem.W.Frag) (a : Addr) : It :=
  ⟨fun i H => ∃ xs x, SqT K H a xs ∧ xs[i]? = some x, fun i H x H' => H' = H ∧ ∀ xs, SqT K H a xs → xs[i]? = some x, fun i H => ∃ xs, SqT K H a xs ∧ xs.length ≤ i⟩
def Itr (lo : Int) (n : Nat) : It := ⟨fun i _ => i < n, fun i H x H' => H' = H ∧ x = .int (lo + i), fun i _ => n ≤ i⟩
theorem turn_list {P : Program} {w : World} {K : PySem.W.Frag} {tg : Expr} (a it : Addr) : Turn P w K tg (Itl K a) [it] it (fun i h => h.IsListIter it a i) where
  mem := by simp
  obj := fun i h st b hb => by
    have e : b = it := by simpa using hb
    subst e
    obtain ⟨o, e, c, d⟩ := st
    exact ⟨o, e, fun v z => by rw [d] at z; cases z⟩
  keep := fun i h h' st k => st.at fun o e => k it (by simp) o e
  item := by
    intro X hP hw hK hc i pins s σ H E I hf st hg
    subst hP hw hK
    obtain ⟨xs, x, hq, hx⟩ := hg
    obtain ⟨its, rv, p, hz⟩ := I.list hq
    obtain ⟨u, hu, ru⟩ := rv.get hx
    obtain ⟨f0, f1, f2, f3, f4, f5⟩ := hf it (by simp)
    refine wpAny_pyNext_list_item st p.isList (x := u) (by simpa using hu) fun h' st' sb => ?_
    have I1 : Inv X pins σ H { s with heap := h' } := I.turned (t' := s.toks) (fun b o hb e => (sb.2 b hb).trans e) f0 f1 f3 f4 f5
    obtain ⟨o, e, c, d⟩ := id st'
    exact ⟨u, rfl, go_of (s := { s with heap := h' }) e c d (by decide) ⟨x, H, I1, ru, ⟨rfl, fun ys hy => by rw [I.list_inj hy hq]; exact hx⟩, st', fun b hb => (hf b hb).1⟩⟩
  done := by
    intro X hP hw hK hc i pins s σ H E I hf st hg
    subst hP hw hK
    obtain ⟨xs, hq, hx⟩ := hg
    obtain ⟨its, rv, p, hz⟩ := I.list hq
    obtain ⟨f0, f1, f2, f3, f4, f5⟩ := hf it (by simp)
    have hl := rv.length
    exact wpAny_pyNext_list_end (I.ok.hd hc) st p.isList (by simp; (first | lia | omega)) fun h' eb => ⟨rfl, I.turned (t' := s.toks) (fun b o hb e => eb b o hb e) f0 f1 f3 f4 f5⟩
  self := fun _ _ _ _ _ st h => wpAny_pyIter_listiter st h
theorem turn_tuple {P : Program} {w : World} {K : PySem.W.Frag} {tg : Expr} (a it : Addr) : Turn P w K tg (Itt K a) [it] it (fun i h => h.IsTupleIter it a i) where
  mem := by simp
  obj := fun i h st b hb => by
    have e : b = it := by simpa using hb
    subst e
    obtain ⟨o, e, c, d⟩ := st
    exact ⟨o, e, fun v z => by rw [d] at z; cases z⟩
  keep := fun i h h' st k => st.at fun o e => k it (by simp) o e
  item := by
    intro X hP hw hK hc i pins s σ H E I hf st hg
    subst hP hw hK
    obtain ⟨xs, x, hq, hx⟩ := hg
    obtain ⟨its, rv, p, hz⟩ := I.tuple hq
    obtain ⟨u, hu, ru⟩ := rv.get hx
    obtain ⟨f0, f1, f2, f3, f4, f5⟩ := hf it (by simp)
    refine wpAny_pyNext_tuple_item st (show s.heap.IsTuple a its.toArray from p) (x := u) (by simpa using hu) fun h' st' sb => ?_
    have I1 : Inv X pins σ H { s with heap := h' } := I.turned (t' := s.toks) (fun b o hb e => (sb.2 b hb).trans e) f0 f1 f3 f4 f5
    obtain ⟨o, e, c, d⟩ := id st'
    exact ⟨u, rfl, go_of (s := { s with heap := h' }) e c d (by decide) ⟨x, H, I1, ru, ⟨rfl, fun ys hy => by rw [I.tuple_inj hy hq]; exact hx⟩, st', fun b hb => (hf b hb).1⟩⟩
  done := by
    intro X hP hw hK hc i pins s σ H E I hf st hg
    subst hP hw hK
    obtain ⟨xs, hq, hx⟩ := hg
    obtain ⟨its, rv, p, hz⟩ := I.tuple hq
    obtain ⟨f0, f1, f2, f3, f4, f5⟩ := hf it (by simp)
    have hl := rv.length
    exact wpAny_pyNext_tuple_end (I.ok.hd hc) st (show s.heap.IsTuple a its.toArray from p) (by simp; (first | lia | omega)) fun h' eb => ⟨rfl, I.turned (t' := s.toks) (fun b o hb e => eb b o hb e) f0 f1 f3 f4 f5⟩
  self := fun _ _ _ _ _ st h => wpAny_pyIter_tupleiter st h
theorem turn_range {P : Program} {w : World} {K : PySem.W.Frag} {tg : Expr} (it : Addr) (lo : Int) (n : Nat) : Turn P w K tg (Itr lo n) [it] it (fun i h => IsRangeIter h it (lo + (i : Nat) * 1) ((n : Int) - (i : Nat)) 1) where
  mem := by simp
  obj := fun i h st b hb => by
    have e : b = it := by simpa using hb
    subst e
    exact ⟨_, st, fun v z => by
      have z' : Data.fields _ = Data.cell v := z
      cases z'⟩
  keep := fun i h h' st k => k it (by simp) _ st
  item := by
    intro X hP hw hK hc i pins s σ H E I hf st hg
    subst hP hw hK
    obtain ⟨f0, f1, f2, f3, f4, f5⟩ := hf it (by simp)
    have W := Walks.range (prog := X.prog) (w := X.w) (I.ok.hd hc) it lo 1 n
    refine W.item i s _ _ hg st fun v h' tk hv st' kk => ?_
    obtain ⟨t, rfl⟩ := hv
    have I1 : Inv X pins σ H { s with heap := h', toks := tk } := I.turned (fun b o hb e => kk b o (by simpa using hb) e) f0 f1 f3 f4 f5
    refine ⟨_, rfl, go_of (s := { s with heap := h', toks := tk }) (n := "range_iterator") st' rfl rfl (by decide) ⟨.int (lo + i), H, I1, ⟨t, ?_⟩, ⟨rfl, rfl⟩, st', fun b hb => (hf b hb).1⟩⟩
    rw [Int.mul_one]
  done := by
    intro X hP hw hK hc i pins s σ H E I hf st hg
    subst hP hw hK
    obtain ⟨f0, f1, f2, f3, f4, f5⟩ := hf it (by simp)
    exact wpAny_pyNext_range_end (I.ok.hd hc) st (by have : n ≤ i := hg; (first | lia | omega)) fun h' eb => ⟨rfl, I.turned (t' := s.toks) (fun b o hb e => eb b o hb e) f0 f1 f3 f4 f5⟩
  self := fun _ _ _ _ _ st h => wpAny_pyIter_rangeiter st h
end L2
namespace L2
open PySem PySem.Spec PyProof.Rows
section
variable {X : Cx} {tg : Expr}
def iList (K : PySem.W.Frag) (tl : TE) : TI := fun σ H R => tl σ H fun x H1 => ∃ a, x = .ref a ∧ (∃ xs, SqL K H1 a xs) ∧ R (Itl K a) H1
def iTup (K : PySem.W.Frag) (tl : TE) : TI := fun σ H R => tl σ H fun x H1 => ∃ a, x = .ref a ∧ (∃ xs, SqT K H1 a xs) ∧ R (Itt K a) H1
theorem pi_list {l : Expr} {tl : TE} (hl : PE X l tl) : PI X tg l (iList X.K tl) := by
  intro pins s σ H R I h
  refine thn (hl pins s σ H _ I h) fun v s1 ⟨x, H1, I1, r1, q1⟩ => ?_
  obtain ⟨a, e, ⟨xs, hq⟩, q⟩ := q1
  subst e
  cases r1
  obtain ⟨its, rv, p, hz⟩ := I1.list hq
  refine wpAny_pyIter_list p.isList ?_
  refine ⟨s1.heap.objs.size, [s1.heap.objs.size], _, _, H1, rfl, I1.kept (t' := s1.toks) fun b o e => Heap.get?_push_of_some _ e, turn_list a _, ⟨_, Heap.get?_push_size _ rfl, rfl, rfl⟩, fun b hb => ?_, q⟩
  have e : b = s1.heap.objs.size := by simpa using hb
  subst e
  exact I1.fpOk (Nat.le_refl _) (I1.hok.fresh (Nat.le_refl _))
theorem pi_tup {l : Expr} {tl : TE} (hl : PE X l tl) : PI X tg l (iTup X.K tl) := by
  intro pins s σ H R I h
  refine thn (hl pins s σ H _ I h) fun v s1 ⟨x, H1, I1, r1, q1⟩ => ?_
  obtain ⟨a, e, ⟨xs, hq⟩, q⟩ := q1
  subst e
  cases r1
  obtain ⟨its, rv, p, hz⟩ := I1.tuple hq
  refine wpAny_pyIter_tuple (show s1.heap.IsTuple a its.toArray from p) ?_
  refine ⟨s1.heap.objs.size, [s1.heap.objs.size], _, _, H1, rfl, I1.kept (t' := s1.toks) fun b o e => Heap.get?_push_of_some _ e, turn_tuple a _, ⟨_, Heap.get?_push_size _ rfl, rfl, rfl⟩, fun b hb => ?_, q⟩
  have e : b = s1.heap.objs.size := by simpa using hb
  subst e
  exact I1.fpOk (Nat.le_refl _) (I1.hok.fresh (Nat.le_refl _))
theorem range_it {pins : List (Addr × Obj)} {σ : St} {H : Hp} {s : Shared} {R : It → Hp → Prop} {E : Value → Shared → Prop} {lo hi : Int} {t u v : Tok} {tk : Nat} (I : Inv X pins σ H s) (h1 : -(2 ^ 62) ≤ lo) (h2 : lo < 2 ^ 62) (h3 : -(2 ^ 62) ≤ hi) (h4 : hi < 2 ^ 62)
    (q : R (Itr lo (hi - lo).toNat) H) : wpAny (model X.prog X.w) X.A (pyIter (.ref s.heap.objs.size)) (PIE X pins σ tg R) E { s with heap := s.heap.push { cls := .type "range", data := .fields #[.int lo t, .int hi u, .int 1 v] }, toks := tk } := by
  refine wpAny_pyIter_range (IsRange.new ..) (small_one h1 h2 h3 h4) ?_
  have I1 : Inv X pins σ H { s with heap := s.heap.push { cls := .type "range", data := .fields #[.int lo t, .int hi u, .int 1 v] }, toks := tk } := I.kept fun b o e => Heap.get?_push_of_some _ e
  refine ⟨(s.heap.push { cls := .type "range", data := .fields #[.int lo t, .int hi u, .int 1 v] }).objs.size, [(s.heap.push { cls := .type "range", data := .fields #[.int lo t, .int hi u, .int 1 v] }).objs.size], _, _, H, rfl,
    I1.kept (t' := tk) fun b o e => Heap.get?_push_of_some _ e, turn_range _ lo (hi - lo).toNat, ?_, fun b hb => ?_, q⟩
  · have e1 : lo + ((0 : Nat) : Int) * 1 = lo := by simp
    have e2 : (((hi - lo).toNat : Nat) : Int) - ((0 : Nat) : Int) = Builtin.Range.rangeSize lo hi 1 := by rw [rangeSize_one]; split <;> (first | lia | omega)
    show IsRangeIter _ _ (lo + ((0 : Nat) : Int) * 1) ((((hi - lo).toNat : Nat) : Int) - ((0 : Nat) : Int)) 1
    rw [e1, e2]
    exact Heap.get?_push_size _ rfl
  · have e : b = (s.heap.push { cls := .type "range", data := .fields #[.int lo t, .int hi u, .int 1 v] }).objs.size := by simpa using hb
    subst e
    exact I1.fpOk (Nat.le_refl _) (I1.hok.fresh (Nat.le_refl _))
def iRng1 (ta : TA) : TI := fun σ H R => ta σ H fun vs H1 => ∃ j : Int, vs = [.int j] ∧ -(2 ^ 62) ≤ j ∧ j < 2 ^ 62 ∧ R (Itr 0 j.toNat) H1
def iRng2 (ta : TA) : TI := fun σ H R => ta σ H fun vs H1 => ∃ i j : Int, vs = [.int i, .int j] ∧ (-(2 ^ 62) ≤ i ∧ i < 2 ^ 62 ∧ -(2 ^ 62) ≤ j ∧ j < 2 ^ 62) ∧ R (Itr i (j - i).toNat) H1
theorem pi_range1 {a : Expr} {ta : TA} {p pos : Pos} (hg : Gl X "range") (hm : X.mg "range" = none) (ha : PA X [a] ta) (hs : starEach [a] X.env = [(false, eval a X.env)] := by rfl) : PI X tg (.Call (.Name "range" p) [a] [] pos) (iRng1 ta) := by
  intro pins s σ H R I h
  refine Call_ (ld_blt I hg hm boot_range (PyProof.Rows.callWith_type1 (thn (ha pos pins s σ H _ I h) fun us s1 ⟨vs, H1, I1, r1, q1⟩ => ?_) hs rfl))
  obtain ⟨j, e, q1, q2, q⟩ := q1
  subst e
  cases r1 with
  | cons r rr =>
    cases rr
    obtain ⟨t, rfl⟩ := r
    exact call_range_1 (range_it I1 (by (first | lia | omega)) (by (first | lia | omega)) q1 q2 (by simpa using q))
theorem pi_range2 {a b : Expr} {ta : TA} {p pos : Pos} (hg : Gl X "range") (hm : X.mg "range" = none) (ha : PA X [a, b] ta) (hs : starEach [a, b] X.env = [(false, eval a X.env), (false, eval b X.env)] := by rfl) (hs2 : starEach [b] X.env = [(false, eval b X.env)] := by rfl) :
    PI X tg (.Call (.Name "range" p) [a, b] [] pos) (iRng2 ta) := by
  intro pins s σ H R I h
  refine Call_ (ld_blt I hg hm boot_range (PyProof.Rows.callWith_type1 (thn (ha pos pins s σ H _ I h) fun us s1 ⟨vs, H1, I1, r1, q1⟩ => ?_) (by rw [hs, hs2]) (by rw [hs2]; rfl)))
  obtain ⟨i, j, e, ⟨q1, q2, q3, q4⟩, q⟩ := q1
  subst e
  cases r1 with
  | cons r rr =>
    cases rr with
    | cons r' rr =>
      cases rr
      obtain ⟨t, rfl⟩ := r
      obtain ⟨t', rfl⟩ := r'
      exact call_range_2 (range_it I1 q1 q2 q3 q4 q)
def tFor (wi : TI) (g : TG) (tb : TS) : TS := fun D σ H => wi σ H fun J H1 => ∃ W : Nat → Nat → St → Hp → Prop, (∃ m, W 0 m σ H1) ∧ ∀ i m σ H, W i m σ H →
  (J.stop i H ∧ D.nx σ H) ∨ (J.go i H ∧ ∃ N : St → Hp → Prop, (∀ σ' H', N σ' H' → ∃ m', m' < m ∧ W (i + 1) m' σ' H') ∧ ∀ x H', J.yld i H x H' → g x σ H' fun σ2 H2 => tb { D with nx := N, ct := N, bk := D.nx } σ2 H2)
def pinsAt (fp : List Addr) (h : Heap) : List (Addr × Obj) := fp.filterMap fun b => (h.get? b).map fun o => (b, o)
theorem mem_pinsAt {fp : List Addr} {h : Heap} {b : Addr} {o : Obj} (hb : b ∈ fp) (e : h.get? b = some o) : (b, o) ∈ pinsAt fp h := List.mem_filterMap.mpr ⟨b, hb, by rw [e]; rfl⟩
theorem of_pinsAt {fp : List Addr} {h : Heap} {p : Addr × Obj} (hp : p ∈ pinsAt fp h) : p.1 ∈ fp ∧ h.get? p.1 = some p.2 := by
  obtain ⟨b, hb, e⟩ := List.mem_filterMap.mp hp
  cases q : h.get? b with
  | none => rw [q] at e; cases e
  | some o =>
    rw [q] at e
    have e' : (b, o) = p := Option.some.inj e
    subst e'
    exact ⟨hb, q⟩
theorem Inv.pinned {pins : List (Addr × Obj)} {σ : St} {H : Hp} {s : Shared} {fp : List Addr} (I : Inv X pins σ H s) (hf : ∀ b ∈ fp, FpOk X pins H b) (ho : ∀ b ∈ fp, ∃ o, s.heap.get? b = some o ∧ ∀ v, o.data ≠ .cell v) : Inv X (pins ++ pinsAt fp s.heap) σ H s :=
  I.pins_of fun p hp => (List.mem_append.mp hp).elim (fun z => I.pin p (List.mem_append_right _ z)) fun z => by
    obtain ⟨hb, e⟩ := of_pinsAt z
    obtain ⟨f0, f1, f2, _⟩ := hf p.1 hb
    obtain ⟨o, e', d⟩ := ho p.1 hb
    rw [e] at e'; cases e'
    exact ⟨e, f0, f1, f2, d⟩
theorem Inv.unpinned {pins pl : List (Addr × Obj)} {σ : St} {H : Hp} {s : Shared} (I : Inv X (pins ++ pl) σ H s) : Inv X pins σ H s := I.pins_of fun p hp => I.pin p (List.mem_append_right _ (List.mem_append_left _ hp))
theorem ps_for {iter : Expr} {body : List Stmt} {wi : TI} {g : TG} {tb : TS} {pos : Pos} (hp : PassesOwn (model X.prog X.w) X.A X.env X.xe) (hc : X.calm = true) (hi : PI X tg iter wi) (hg : PG X tg g) (hb : PSs X body tb)
    (hs : ∀ x, foldedSetIterable iter X.env x = pure x := by intro _; rfl) : PS X (.For tg iter body [] pos) (tFor wi g tb) := by
  intro pins s σ H D I h
  refine wpAny_For (thn (hi pins s σ H _ I h) fun v s1 h1 => thn h1 fun itv s2 h2 => ?_) hs
  obtain ⟨it, fp, tn, J, H2, e, I2, T, st2, f2, W, ⟨m0, w0⟩, turn⟩ := h2
  subst e
  -- what stays true of the iterator's objects through the loop
  have stat : ∀ {H' : Hp}, (∀ b ∈ fp, H' b = none) → ∀ b ∈ fp, FpOk X pins H' b := fun hn b hb => ⟨hn b hb, (f2 b hb).2⟩
  refine codeAny_forLoop_any (fun n s' => ∃ i σ' H', Inv X pins σ' H' s' ∧ tn i s'.heap ∧ (∀ b ∈ fp, H' b = none) ∧ W i n σ' H') ?_ m0 ⟨0, σ, H2, I2, st2, fun b hb => (f2 b hb).1, w0⟩
  rintro n s3 ⟨i, σ3, H3, I3, st3, fr3, w3⟩
  rcases turn i n σ3 H3 w3 with ⟨stop, qn⟩ | ⟨go, N, hN, step⟩
  · refine wpAny_passesOwn hp (thn (T.done X rfl rfl rfl hc i pins s3 σ3 H3 X.xe I3 (stat fr3) st3 stop) fun r s4 ⟨hr, I4⟩ => ?_)
    subst hr
    exact wpAny_execs_nil ⟨σ3, H3, I4, qn⟩
  · refine wpAny_passesOwn hp (thn (T.item X rfl rfl rfl hc i pins s3 σ3 H3 X.xe I3 (stat fr3) st3 go) fun r s4 ⟨u, hr, h4⟩ => ?_)
    subst hr
    refine wpAny_passesOwn hp (thn h4 fun _ s5 ⟨x, H5, I5, r5, y5, st5, fr5⟩ => ?_)
    have I5' := I5.pinned (stat fr5) (T.obj _ _ st5)
    refine wpAny_passesOwn hp (thn (hg _ s5 σ3 H5 x u _ I5' r5 (step x H5 y5)) fun _ s6 ⟨σ6, H6, I6, q6⟩ => ?_)
    refine wpAny_passesOwn hp (thn (hb _ s6 σ6 H6 _ I6 q6) fun f s7 q7 => ?_)
    have again : ∀ {σ7 : St} {H7 : Hp}, Inv X (pins ++ pinsAt fp s5.heap) σ7 H7 s7 → N σ7 H7 → ∃ m, m < n ∧ ∃ i σ' H', Inv X pins σ' H' s7 ∧ tn i s7.heap ∧ (∀ b ∈ fp, H' b = none) ∧ W i m σ' H' := fun {σ7 H7} I7 n7 => by
      obtain ⟨m', hm, w7⟩ := hN σ7 H7 n7
      refine ⟨m', hm, i + 1, σ7, H7, I7.unpinned, T.keep _ _ _ st5 fun b hb o e => (I7.pin (b, o) (List.mem_append_right _ (List.mem_append_right _ (mem_pinsAt hb e)))).1, fun b hb => ?_, w7⟩
      obtain ⟨o, e, d⟩ := T.obj _ _ st5 b hb
      exact (I7.pin (b, o) (List.mem_append_right _ (List.mem_append_right _ (mem_pinsAt hb e)))).2.1
    cases f with
    | next => obtain ⟨σ7, H7, I7, n7⟩ := q7; exact again I7 n7
    | cont => obtain ⟨σ7, H7, I7, n7⟩ := q7; exact again I7 n7
    | brk => obtain ⟨σ7, H7, I7, q7⟩ := q7; exact ⟨σ7, H7, I7.unpinned, q7⟩
    | ret v => obtain ⟨x7, σ7, H7, I7, r7, q7⟩ := q7; exact ⟨x7, σ7, H7, I7.unpinned, r7, q7⟩
end
theorem for_list {K : PySem.W.Frag} {a : Addr} {xs : List V} {g : TG} {tb : TS} {D : Ends} {σ : St} {H : Hp} (Pv : Nat → St → Hp → Prop) (h0 : Pv 0 σ H) (hl : ∀ i σ H, i ≤ xs.length → Pv i σ H → SqL K H a xs)
    (hs : ∀ i x σ H, xs[i]? = some x → Pv i σ H → g x σ H fun σ2 H2 => tb { D with nx := Pv (i + 1), ct := Pv (i + 1), bk := D.nx } σ2 H2) (hd : ∀ σ H, Pv xs.length σ H → D.nx σ H) :
    ∃ W : Nat → Nat → St → Hp → Prop, (∃ m, W 0 m σ H) ∧ ∀ i m σ H, W i m σ H →
      ((Itl K a).stop i H ∧ D.nx σ H) ∨ ((Itl K a).go i H ∧ ∃ N : St → Hp → Prop, (∀ σ' H', N σ' H' → ∃ m', m' < m ∧ W (i + 1) m' σ' H') ∧ ∀ x H', (Itl K a).yld i H x H' → g x σ H' fun σ2 H2 => tb { D with nx := N, ct := N, bk := D.nx } σ2 H2) := by
  refine ⟨fun i m σ H => m = xs.length - i ∧ i ≤ xs.length ∧ Pv i σ H, ⟨xs.length, by simp, Nat.zero_le _, h0⟩, ?_⟩
  rintro i m σ H ⟨rfl, hi, p⟩
  have q := hl i σ H hi p
  by_cases hlt : i < xs.length
  · refine .inr ⟨⟨xs, xs[i], q, by simp [hlt]⟩, Pv (i + 1), fun σ' H' p' => ⟨xs.length - (i + 1), by (first | lia | omega), rfl, hlt, p'⟩, fun x H' y => ?_⟩
    obtain ⟨e, y⟩ := y
    subst e
    exact hs i x σ _ (y xs q) p
  · have e : i = xs.length := by (first | lia | omega)
    subst e
    exact .inl ⟨⟨xs, q, Nat.le_refl _⟩, hd σ H p⟩
theorem for_range {lo : Int} {n : Nat} {g : TG} {tb : TS} {D : Ends} {σ : St} {H : Hp} (Pv : Nat → St → Hp → Prop) (h0 : Pv 0 σ H)
    (hs : ∀ i σ H, i < n → Pv i σ H → g (.int (lo + i)) σ H fun σ2 H2 => tb { D with nx := Pv (i + 1), ct := Pv (i + 1), bk := D.nx } σ2 H2) (hd : ∀ σ H, Pv n σ H → D.nx σ H) :
    ∃ W : Nat → Nat → St → Hp → Prop, (∃ m, W 0 m σ H) ∧ ∀ i m σ H, W i m σ H →
      ((Itr lo n).stop i H ∧ D.nx σ H) ∨ ((Itr lo n).go i H ∧ ∃ N : St → Hp → Prop, (∀ σ' H', N σ' H' → ∃ m', m' < m ∧ W (i + 1) m' σ' H') ∧ ∀ x H', (Itr lo n).yld i H x H' → g x σ H' fun σ2 H2 => tb { D with nx := N, ct := N, bk := D.nx } σ2 H2) := by
  refine ⟨fun i m σ H => m = n - i ∧ i ≤ n ∧ Pv i σ H, ⟨n, by simp, Nat.zero_le _, h0⟩, ?_⟩
  rintro i m σ H ⟨rfl, hi, p⟩
  by_cases hlt : i < n
  · refine .inr ⟨hlt, Pv (i + 1), fun σ' H' p' => ⟨n - (i + 1), by (first | lia | omega), rfl, hlt, p'⟩, fun x H' y => ?_⟩
    obtain ⟨e, y⟩ := y
    subst e y
    exact hs i σ _ hlt p
  · have e : i = n := by (first | lia | omega)
    subst e
    exact .inl ⟨Nat.le_refl _, hd σ H p⟩
end L2
namespace L2
open PySem PySem.Spec PyProof.Rows
abbrev R2 := V → V → Hp → VK → Prop
def OpR (X : Cx) (f : Value → Value → Sem Value) (r : R2) : Prop :=
  ∀ (pins : List (Addr × Obj)) (s : Shared) (σ : St) (H : Hp) (x y : V) (v u : Value) (Q : VK), Inv X pins σ H s → RelV x v → RelV y u → r x y H Q →
    wpAny (model X.prog X.w) X.A (f v u) (EP X pins σ Q) X.xe s
def UnR (X : Cx) (f : Value → Sem Value) (r : V → Hp → VK → Prop) : Prop :=
  ∀ (pins : List (Addr × Obj)) (s : Shared) (σ : St) (H : Hp) (x : V) (v : Value) (Q : VK), Inv X pins σ H s → RelV x v → r x H Q →
    wpAny (model X.prog X.w) X.A (f v) (EP X pins σ Q) X.xe s
def CallR (X : Cx) (f : Value) (r : List V → Hp → VK → Prop) : Prop :=
  ∀ (pins : List (Addr × Obj)) (s : Shared) (σ : St) (H : Hp) (xs : List V) (us : List Value) (Q : VK), Inv X pins σ H s → Vals xs us → r xs H Q →
    wpAny (model X.prog X.w) X.A (call f us) (EP X pins σ Q) X.xe s
def tOp (r : R2) (ta tb : TE) : TE := fun σ H Q => ta σ H fun x H1 => tb σ H1 fun y H2 => r x y H2 Q
def tUn (r : V → Hp → VK → Prop) (ta : TE) : TE := fun σ H Q => ta σ H fun x H1 => r x H1 Q
def rI (C : Int → Int → Prop) (g : Int → Int → V) : R2 := fun x y H Q => ∃ i j, x = .int i ∧ y = .int j ∧ C i j ∧ Q (g i j) H
def rI0 (g : Int → Int → V) : R2 := fun x y H Q => ∃ i j, x = .int i ∧ y = .int j ∧ Q (g i j) H
def rU (g : Int → V) : V → Hp → VK → Prop := fun x H Q => ∃ i, x = .int i ∧ Q (g i) H
section
variable {X : Cx} {a b c : Expr} {ta tb tc : TE} {pos : Pos}
theorem binT (ha : PE X a ta) (hb : PE X b tb) {pins : List (Addr × Obj)} {s : Shared} {σ : St} {H : Hp} {R : V → V → Hp → Prop} (I : Inv X pins σ H s)
    (h : ta σ H fun x H1 => tb σ H1 fun y H2 => R x y H2) {Q : Value → Shared → Prop} {f : Value → Value → Sem Value}
    (hf : ∀ v u s2 x y H2, Inv X pins σ H2 s2 → RelV x v → RelV y u → R x y H2 → wpAny (model X.prog X.w) X.A (f v u) Q X.xe s2) :
    wpAny (model X.prog X.w) X.A (eval a X.env) (fun v s₁ => wpAny (model X.prog X.w) X.A (eval b X.env) (fun u s₂ => wpAny (model X.prog X.w) X.A (f v u) Q X.xe s₂) X.xe s₁) X.xe s := by
  refine thn (ha pins s σ H _ I h) fun v s1 ⟨x, H1, I1, r1, q1⟩ => ?_
  refine thn (hb pins s1 σ H1 _ I1 q1) fun u s2 ⟨y, H2, I2, r2, q2⟩ => ?_
  exact hf v u s2 x y H2 I2 r1 r2 q2
theorem pe_op {op : Operator} {r : R2} (ho : OpR X (binaryOp op) r) (ha : PE X a ta) (hb : PE X b tb) : PE X (.BinOp a op b pos) (tOp r ta tb) := by
  intro pins s σ H Q I h
  exact wpAny_BinOp (binT ha hb I h fun v u s2 x y H2 I2 rx ry q => ho pins s2 σ H2 x y v u Q I2 rx ry q)
theorem pe_un {op : UnaryOp} {r : V → Hp → VK → Prop} (ho : UnR X (unaryOp op) r) (ha : PE X a ta) : PE X (.UnaryOp op a pos) (tUn r ta) := by
  intro pins s σ H Q I h
  exact UnaryOp_ (thn (ha pins s σ H _ I h) fun v s1 ⟨x, H1, I1, r1, q1⟩ => ho pins s1 σ H1 x v Q I1 r1 q1)
theorem opI {f : Value → Value → Sem Value} {C : Int → Int → Prop} {g : Int → Int → Int}
    (rule : ∀ (i j : Int) (t u : Tok) (s : Shared) (Q : Value → Shared → Prop) (E : Value → Shared → Prop), C i j → Q (.int (g i j) s.toks) { s with toks := s.toks + 1 } → wpAny (model X.prog X.w) X.A (f (.int i t) (.int j u)) Q E s) :
    OpR X f (rI C fun i j => .int (g i j)) := by
  intro pins s σ H x y v u Q I rx ry h
  obtain ⟨i, j, rfl, rfl, hc, q⟩ := h
  obtain ⟨t, rfl⟩ := rx
  obtain ⟨t', rfl⟩ := ry
  exact rule i j t t' s _ _ hc ⟨.int (g i j), H, I.tok _, ⟨_, rfl⟩, q⟩
theorem opI0 {f : Value → Value → Sem Value} {g : Int → Int → Int}
    (rule : ∀ (i j : Int) (t u : Tok) (s : Shared) (Q : Value → Shared → Prop) (E : Value → Shared → Prop), Q (.int (g i j) s.toks) { s with toks := s.toks + 1 } → wpAny (model X.prog X.w) X.A (f (.int i t) (.int j u)) Q E s) :
    OpR X f (rI0 fun i j => .int (g i j)) := by
  intro pins s σ H x y v u Q I rx ry h
  obtain ⟨i, j, rfl, rfl, q⟩ := h
  obtain ⟨t, rfl⟩ := rx
  obtain ⟨t', rfl⟩ := ry
  exact rule i j t t' s _ _ ⟨.int (g i j), H, I.tok _, ⟨_, rfl⟩, q⟩
theorem opB0 {f : Value → Value → Sem Value} {g : Int → Int → Bool}
    (rule : ∀ (i j : Int) (t u : Tok) (s : Shared) (Q : Value → Shared → Prop) (E : Value → Shared → Prop), Q (.bool (g i j)) s → wpAny (model X.prog X.w) X.A (f (.int i t) (.int j u)) Q E s) :
    OpR X f (rI0 fun i j => .bl (g i j)) := by
  intro pins s σ H x y v u Q I rx ry h
  obtain ⟨i, j, rfl, rfl, q⟩ := h
  obtain ⟨t, rfl⟩ := rx
  obtain ⟨t', rfl⟩ := ry
  exact rule i j t t' s _ _ ⟨.bl (g i j), H, I, rfl, q⟩
def CDiv (i j : Int) : Prop := 0 < j ∧ j < 1073741824
def CMul (i j : Int) : Prop := (-(2 ^ 64) < i ∧ i < 2 ^ 64) ∨ (-(2 ^ 64) < j ∧ j < 2 ^ 64)
theorem CMul.ok {i j : Int} (h : CMul i j) : IntMulOk i j := by
  rcases h with ⟨h1, h2⟩ | ⟨h1, h2⟩
  · exact .of_left (intBits_le_64 h1 h2)
  · exact .of_right (intBits_le_64 h1 h2)
theorem op_add : OpR X (binaryOp .Add) (rI0 fun i j => .int (i + j)) := opI0 fun _ _ _ _ _ _ _ q => add_int q
theorem op_sub : OpR X (binaryOp .Sub) (rI0 fun i j => .int (i - j)) := opI0 fun _ _ _ _ _ _ _ q => sub_int q
theorem op_mul : OpR X (binaryOp .Mult) (rI CMul fun i j => .int (i * j)) := opI fun _ _ _ _ _ _ _ hc q => mul_int q hc.ok
theorem op_fdiv : OpR X (binaryOp .FloorDiv) (rI CDiv fun i j => .int (i / j)) := opI fun i j _ _ _ _ _ hc q => by
  have h1 : (0 : Int) < j := hc.1
  have h2 : j < 1073741824 := hc.2
  exact floordiv_int (by (first | lia | omega)) (by rw [Int.fdiv_eq_ediv_of_nonneg i (by (first | lia | omega))]; exact q) (.inl (PyProof.noPylong_small (by (first | lia | omega))))
theorem op_mod : OpR X (binaryOp .Mod) (rI (fun _ j => 0 < j) fun i j => .int (i % j)) := opI fun i j _ _ _ _ _ hc q => by
  have h1 : (0 : Int) < j := hc
  exact mod_int' (by (first | lia | omega)) (by rw [Int.fmod_eq_emod_of_nonneg i (by (first | lia | omega))]; exact q)
theorem unI {f : Value → Sem Value} {g : Int → Int}
    (rule : ∀ (i : Int) (t : Tok) (s : Shared) (Q : Value → Shared → Prop) (E : Value → Shared → Prop), Q (.int (g i) s.toks) { s with toks := s.toks + 1 } → wpAny (model X.prog X.w) X.A (f (.int i t)) Q E s) :
    UnR X f (rU fun i => .int (g i)) := by
  intro pins s σ H x v Q I rx h
  obtain ⟨i, rfl, q⟩ := h
  obtain ⟨t, rfl⟩ := rx
  exact rule i t s _ _ ⟨.int (g i), H, I.tok _, ⟨_, rfl⟩, q⟩
theorem un_neg : UnR X (unaryOp .USub) (rU fun i => .int (-i)) := unI fun _ _ _ _ _ q => neg_int q
end
def scal : V → V → Bool
  | .non, .non => true | .non, .int _ => true | .int _, .non => true | .non, .bl _ => true | .bl _, .non => true | .non, .str _ => true | .str _, .non => true
  | .int _, .int _ => true | .bl _, .bl _ => true | .str _, .str _ => true | .byt _, .byt _ => true
  | .int _, .str _ => true | .str _, .int _ => true | .bl _, .str _ => true | .str _, .bl _ => true
  | _, _ => false
def rEq : R2 := fun x y H Q => scal x y = true ∧ Q (.bl (decide (x = y))) H
def rNe : R2 := fun x y H Q => scal x y = true ∧ Q (.bl (!decide (x = y))) H
theorem dec_int {i j : Int} : decide (V.int i = V.int j) = (i == j) := by
  rw [Bool.eq_iff_iff]
  simp
theorem dec_bl {i j : Bool} : decide (V.bl i = V.bl j) = (i == j) := by
  rw [Bool.eq_iff_iff]
  simp
theorem dec_str {i j : Str} : decide (V.str i = V.str j) = (i == j) := by
  rw [Bool.eq_iff_iff]
  simp
theorem dec_byt {i j : Array UInt8} : decide (V.byt i = V.byt j) = (i.toList == j.toList) := by
  rw [Bool.eq_iff_iff]
  cases i
  cases j
  simp
section
variable {X : Cx} {a b c : Expr} {ta tb tc : TE} {pos : Pos}
theorem fin_bl {pins : List (Addr × Obj)} {σ : St} {H : Hp} {s : Shared} {Q : VK} {k k' : Bool} (I : Inv X pins σ H s) (q : Q (.bl k) H) (e : k = k') : EP X pins σ Q (.bool k') s := by
  subst e
  exact ⟨.bl k, H, I, rfl, q⟩
theorem op_eq : OpR X (compareOp .Eq) rEq := by
  intro pins s σ H x y v u Q I rx ry h
  obtain ⟨hs, q⟩ := h
  cases x with
  | non =>
    cases rx
    cases y with
    | non => cases ry; exact PySem.EqNone.eq_none_none (fin_bl I q (by simp))
    | bl j => cases ry; exact PySem.EqNone.eq_none_bool (fin_bl I q (by simp))
    | int j => obtain ⟨t', rfl⟩ := ry; exact PySem.EqNone.eq_none_int (fin_bl I q (by simp))
    | str j => obtain ⟨t', rfl⟩ := ry; exact PySem.EqNone.eq_none_str (fin_bl I q (by simp))
    | _ => exact absurd (show false = true from hs) Bool.false_ne_true
  | bl i =>
    cases rx
    cases y with
    | non => cases ry; exact PySem.EqNone.eq_bool_none (fin_bl I q (by simp))
    | bl j => cases ry; exact eq_bool (fin_bl I q dec_bl)
    | str j => obtain ⟨t', rfl⟩ := ry; exact PySem.EqMixed.eq_bool_str (fin_bl I q (by simp))
    | _ => exact absurd (show false = true from hs) Bool.false_ne_true
  | int i =>
    obtain ⟨t, rfl⟩ := rx
    cases y with
    | non => cases ry; exact PySem.EqNone.eq_int_none (fin_bl I q (by simp))
    | int j => obtain ⟨t', rfl⟩ := ry; exact eq_int (fin_bl I q dec_int)
    | str j => obtain ⟨t', rfl⟩ := ry; exact PySem.EqMixed.eq_int_str (fin_bl I q (by simp))
    | _ => exact absurd (show false = true from hs) Bool.false_ne_true
  | str i =>
    obtain ⟨t, rfl⟩ := rx
    cases y with
    | non => cases ry; exact PySem.EqNone.eq_str_none (fin_bl I q (by simp))
    | bl j => cases ry; exact PySem.EqMixed.eq_str_bool (fin_bl I q (by simp))
    | int j => obtain ⟨t', rfl⟩ := ry; exact PySem.EqMixed.eq_str_int (fin_bl I q (by simp))
    | str j => obtain ⟨t', rfl⟩ := ry; exact eq_str (fin_bl I q dec_str)
    | _ => exact absurd (show false = true from hs) Bool.false_ne_true
  | byt i =>
    obtain ⟨t, rfl⟩ := rx
    cases y with
    | byt j => obtain ⟨t', rfl⟩ := ry; exact PySem.W.eq_bytes (fin_bl I q dec_byt)
    | _ => exact absurd (show false = true from hs) Bool.false_ne_true
  | _ => cases y <;> exact absurd (show false = true from hs) Bool.false_ne_true
theorem op_ne : OpR X (compareOp .NotEq) rNe := by
  intro pins s σ H x y v u Q I rx ry h
  obtain ⟨hs, q⟩ := h
  cases x with
  | non =>
    cases rx
    cases y with
    | non => cases ry; exact PySem.EqNone.ne_none_none (fin_bl I q (by simp))
    | bl j => cases ry; exact PySem.EqNone.ne_none_bool (fin_bl I q (by simp))
    | int j => obtain ⟨t', rfl⟩ := ry; exact PySem.EqNone.ne_none_int (fin_bl I q (by simp))
    | str j => obtain ⟨t', rfl⟩ := ry; exact PySem.EqNone.ne_none_str (fin_bl I q (by simp))
    | _ => exact absurd (show false = true from hs) Bool.false_ne_true
  | bl i =>
    cases rx
    cases y with
    | non => cases ry; exact PySem.EqNone.ne_bool_none (fin_bl I q (by simp))
    | bl j => cases ry; exact ne_bool (fin_bl I q (congrArg not dec_bl))
    | str j => obtain ⟨t', rfl⟩ := ry; exact PySem.EqMixed.ne_bool_str (fin_bl I q (by simp))
    | _ => exact absurd (show false = true from hs) Bool.false_ne_true
  | int i =>
    obtain ⟨t, rfl⟩ := rx
    cases y with
    | non => cases ry; exact PySem.EqNone.ne_int_none (fin_bl I q (by simp))
    | int j => obtain ⟨t', rfl⟩ := ry; exact ne_int (fin_bl I q (congrArg not dec_int))
    | str j => obtain ⟨t', rfl⟩ := ry; exact PySem.EqMixed.ne_int_str (fin_bl I q (by simp))
    | _ => exact absurd (show false = true from hs) Bool.false_ne_true
  | str i =>
    obtain ⟨t, rfl⟩ := rx
    cases y with
    | non => cases ry; exact PySem.EqNone.ne_str_none (fin_bl I q (by simp))
    | bl j => cases ry; exact PySem.EqMixed.ne_str_bool (fin_bl I q (by simp))
    | int j => obtain ⟨t', rfl⟩ := ry; exact PySem.EqMixed.ne_str_int (fin_bl I q (by simp))
    | str j => obtain ⟨t', rfl⟩ := ry; exact ne_str (fin_bl I q (congrArg not dec_str))
    | _ => exact absurd (show false = true from hs) Bool.false_ne_true
  | byt i =>
    obtain ⟨t, rfl⟩ := rx
    cases y with
    | byt j => obtain ⟨t', rfl⟩ := ry; exact PySem.W.ne_bytes (fin_bl I q (congrArg not dec_byt))
    | _ => exact absurd (show false = true from hs) Bool.false_ne_true
  | _ => cases y <;> exact absurd (show false = true from hs) Bool.false_ne_true
theorem op_lt : OpR X (compareOp .Lt) (rI0 fun i j => .bl (decide (i < j))) := opB0 fun _ _ _ _ _ _ _ q => lt_int q
theorem op_le : OpR X (compareOp .LtE) (rI0 fun i j => .bl (decide (i ≤ j))) := opB0 fun _ _ _ _ _ _ _ q => le_int q
theorem op_gt : OpR X (compareOp .Gt) (rI0 fun i j => .bl (decide (j < i))) := opB0 fun _ _ _ _ _ _ _ q => gt_int q
theorem op_isN : OpR X (compareOp .Is) (fun x y H Q => y = .non ∧ Q (.bl (decide (x = .non))) H) := by
  intro pins s σ H x y v u Q I rx ry h
  obtain ⟨rfl, q⟩ := h
  cases ry
  refine is_none_gen (fin_bl I q ?_)
  cases x <;> first
    | (cases rx; rfl)
    | (obtain ⟨t, rfl⟩ := rx; rfl)
theorem op_notN : OpR X (compareOp .IsNot) (fun x y H Q => y = .non ∧ Q (.bl (!decide (x = .non))) H) := by
  intro pins s σ H x y v u Q I rx ry h
  obtain ⟨rfl, q⟩ := h
  cases ry
  refine isnot_none_gen (fin_bl I q ?_)
  cases x <;> first
    | (cases rx; rfl)
    | (obtain ⟨t, rfl⟩ := rx; rfl)
theorem nomark (b : Expr) {op : CmpOp} (h : op ≠ .In := by decide) (h2 : op ≠ .NotIn := by decide) : behindInMarks op b = false := by
  have e1 : (op == CmpOp.In) = false := by cases op <;> first | rfl | exact absurd rfl h
  have e2 : (op == CmpOp.NotIn) = false := by cases op <;> first | rfl | exact absurd rfl h2
  cases b <;> simp [behindInMarks, e1, e2]
theorem pe_cmpR {op : CmpOp} {r : R2} (ho : OpR X (compareOp op) r) (ha : PE X a ta) (hb : PE X b tb) (hm : behindInMarks op b = false) : PE X (.Compare a [op] [b] pos) (tOp r ta tb) := by
  intro pins s σ H Q I h
  exact wpAny_Compare1 (binT ha hb I h fun v u s2 x y H2 I2 rx ry q => ho pins s2 σ H2 x y v u Q I2 rx ry q) hm
def tTest (t : TE) : TT := fun σ H Q => t σ H fun x H' => ∃ k, x = .bl k ∧ Q k H'
theorem pt_cmpR {op : CmpOp} {r : R2} (ho : OpR X (compareOp op) r) (ha : PE X a ta) (hb : PE X b tb) (hm : behindInMarks op b = false) : PT X (.Compare a [op] [b] pos) (tTest (tOp r ta tb)) := by
  intro pins s σ H Q I h
  refine wpAny_isTrue_Compare1 (thn (ha pins s σ H _ I h) fun v s1 ⟨x, H1, I1, r1, q1⟩ => thn (hb pins s1 σ H1 _ I1 q1) fun u s2 ⟨y, H2, I2, r2, q2⟩ =>
    thn (ho pins s2 σ H2 x y v u _ I2 r1 r2 q2) fun c s3 ⟨z, H3, I3, r3, k, e, q3⟩ => ?_) hm
  subst e
  cases r3
  exact wpAny_truthy_bool ⟨H3, I3, q3⟩
def tChain (r r' : R2) (ta tb tc : TE) : TE := fun σ H Q => ta σ H fun x H1 => tb σ H1 fun y H2 => r x y H2 fun z H3 => ∃ k, z = .bl k ∧
  (if k = true then tc σ H3 fun w' H4 => r' y w' H4 Q else Q (.bl false) H3)
theorem pt_chain {op op' : CmpOp} {r r' : R2} (ho : OpR X (compareOp op) r) (ho' : OpR X (compareOp op') r') (ha : PE X a ta) (hb : PE X b tb) (hc : PE X c tc)
    (hm : lastMarks [op, op'] [b, c] = false := by with_unfolding_all rfl) : PT X (.Compare a [op, op'] [b, c] pos) (tTest (tChain r r' ta tb tc)) := by
  intro pins s σ H Q I h
  refine isTrue_chain (thn (ha pins s σ H _ I h) fun v s1 ⟨x, H1, I1, r1, q1⟩ => test_link (thn (hb pins s1 σ H1 _ I1 q1) fun u s2 ⟨y, H2, I2, r2, q2⟩ =>
    thn (ho pins s2 σ H2 x y v u _ I2 r1 r2 q2) fun d s3 ⟨z, H3, I3, r3, k, e, q3⟩ => ?_)) hm
  subst e
  cases r3
  refine wpAny_truthy_bool ?_
  cases k with
  | false =>
    obtain ⟨k', e', q'⟩ := q3
    cases e'
    exact ite_ff ⟨H3, I3, q'⟩
  | true =>
    refine ite_tt (test_last (thn (hc pins s3 σ H3 _ I3 q3) fun w' s4 ⟨z', H4, I4, r4, q4⟩ => thn (ho' pins s4 σ H4 y z' u w' _ I4 r2 r4 q4) fun d' s5 ⟨z2, H5, I5, r5, k2, e2, q5⟩ => ?_))
    subst e2
    cases r5
    exact wpAny_truthy_bool ⟨H5, I5, q5⟩
theorem line63 : (sizeLine : Nat) < 2 ^ 63 := by rw [sizeLine_eq]; decide
theorem vals1 {x : V} {us : List Value} (r : Vals [x] us) : ∃ u, us = [u] ∧ RelV x u := by
  cases r with
  | cons r1 r2 => cases r2; exact ⟨_, rfl, r1⟩
theorem call_int1 : CallR X (.type "int") (fun xs H Q => (∃ i, xs = [.int i] ∧ Q (.int i) H) ∨ ∃ k, xs = [.bl k] ∧ Q (.int (if k then 1 else 0)) H) := by
  intro pins s σ H xs us Q I r h
  rcases h with ⟨i, rfl, q⟩ | ⟨k, rfl, q⟩
  · obtain ⟨u, rfl, t, rfl⟩ := vals1 r
    exact call_int_int ⟨.int i, H, I, ⟨_, rfl⟩, q⟩
  · obtain ⟨u, rfl, r1⟩ := vals1 r
    cases r1
    exact call_int_bool ⟨.int (if k then 1 else 0), H, I.tok _, ⟨_, rfl⟩, q⟩
end
end L2
namespace L2
open PySem PySem.Spec PyProof.Rows
structure ObjM (h : Heap) (x dx C : Addr) (mA : Str → Option Value) : Prop where
  obj : h.get? x = some (PySem.W.instObj C dx)
  ns : h.Ns1 dx mA
  ne : dx ≠ x
section
variable {prog : Program} {w : World} {A : Around} {E : Value → Shared → Prop} {s : Shared} {K : PySem.W.Frag} {x dx C f : Addr} {mA : Str → Option Value} {name : Str} {v : Value}
end
section
variable {P : Program} {w : World} {H H' : Hp} {h h' : Heap} {a C dx : Addr} {fs fs' : List (Str × V)}
end
structure Cls (K : PySem.W.Frag) (C : Addr) : Prop where
  pg : PySem.W.plainGet K C Str.empty = true
  hd : PySem.W.hasDictIn K C = true
  po : PySem.W.plainOver K C = true
  sa : PySem.W.findIn K (.ref C) "__setattr__" = some (some (.builtin "object.__setattr__"))
structure Con (K : PySem.W.Frag) (C : Addr) (f : Str) (v : V) (u : Value) : Prop where
  at_ : PySem.W.findIn K (.ref C) f = some (some u)
  rel : RelV v u
  get : PySem.W.specialIn K u "__get__" = some none
  cp : PySem.W.copiedNames.contains f = false
structure Meth (K : PySem.W.Frag) (C : Addr) (m : Str) (f : Addr) : Prop where
  at_ : PySem.W.findIn K (.ref C) m = some (some (.ref f))
  fn : PySem.W.isFn K (.ref f) = true
  kp : PySem.W.keepIn K (.ref f) = true
section
variable {X : Cx} {pins : List (Addr × Obj)} {σ : St} {H : Hp} {s : Shared} {a C dx : Addr} {fs : List (Str × V)} {f : Str} {v : V} {A : Around} {E : Value → Shared → Prop}
end
section
variable {X : Cx} {o e value : Expr} {f : Str} {pos pos' tpos : Pos} {ta tv : TE}
end
section
variable {X : Cx} {pins : List (Addr × Obj)} {σ : St} {H : Hp} {s : Shared} {A : Around} {E : Value → Shared → Prop} {Q : Value → Shared → Prop} {c : Value} {b : Bool}
inductive TyOf (K : PySem.W.Frag) (H : Hp) : V → Value → Prop where
  | non : TyOf K H .non (.type "NoneType")
  | bl (x : Bool) : TyOf K H (.bl x) (.type "bool")
  | int (i : Int) : TyOf K H (.int i) (.type "int")
  | str (x : Str) : TyOf K H (.str x) (.type "str")
  | flt (x : UInt64) : TyOf K H (.flt x) (.type "float")
  | lst {a : Addr} {xs : List V} (e : H a = some (.lst xs)) : TyOf K H (.ref a) (.type "list")
  | frz {a : Addr} {o : Obj} {xs : List V} (e : H a = some (.frz o (.lst xs))) : TyOf K H (.ref a) (.type "list")
  | tup {a : Addr} {xs : List V} (e : H a = some (.tup xs)) : TyOf K H (.ref a) (.type "tuple")
  | dK {a : Addr} {kvs : List (Key × V)} (e : H a = some (.dK kvs)) : TyOf K H (.ref a) (.type "dict")
  | dT {a : Addr} {kvs : List (List Key × V)} (e : H a = some (.dT kvs)) : TyOf K H (.ref a) (.type "dict")
  | ins {a C dx : Addr} {fs : List (Str × V)} (e : H a = some (.ins C dx fs)) (cl : Cls K C) (ha : PySem.W.findIn K (.ref C) "__class__" = some (some (.builtin "object.__class__")))
      (hn : PySem.W.specialIn K (.builtin "object.__class__") "__get__" = some (some (.builtin "getset_descriptor.__get__"))) (htk : PySem.W.takesIn K (.builtin "object.__class__") = some true)
      (hm : PySem.W.mroIn K C (.type "object") = some true) : TyOf K H (.ref a) (.ref C)
end
end L2
namespace L2
open PySem PySem.Spec PyProof.Rows
structure Room (k : Nat) (A : Around) : Prop where
  hd : A.handled = none
  dp : A.depth + 3 * k + 5 < recursionLimit
  un : A.units + 16 * k + 200 < cLine
theorem Room.mono {j k : Nat} {A : Around} (r : Room k A) (h : j ≤ k) : Room j A := ⟨r.hd, by have := r.dp; (first | lia | omega), by have := r.un; (first | lia | omega)⟩
theorem Room.deeper {k : Nat} {A : Around} (r : Room (k + 1) A) (env : Env) : Room k (A.deeper env) :=
  ⟨r.hd, by have := r.dp; show A.depth + 1 + 3 * k + 5 < _; (first | lia | omega), by have := r.un; show A.units + 3 + 16 * k + 200 < _; (first | lia | omega)⟩
theorem Room.depth {k : Nat} {A : Around} (r : Room k A) : A.depth < recursionLimit := by have := r.dp; (first | lia | omega)
theorem Room.units {k : Nat} {A : Around} (r : Room k A) : A.units + 64 < cLine := by have := r.un; (first | lia | omega)
def tNil : TA := fun _ H Q => Q [] H
def tCons (ta : TE) (tr : TA) : TA := fun σ H Q => ta σ H fun x H1 => tr σ H1 fun xs H2 => Q (x :: xs) H2
section
variable {X : Cx} {e : Expr} {es : List Expr} {te : TE} {t : TA} {pos : Pos}
theorem pa_nil : PA X [] tNil := fun _ _ _ _ H Q I h => Calls.spliced_nil ⟨[], H, I, .nil, h⟩
theorem pa_cons (ha : PE X e te) (hr : PA X es t) (hs : starEach (e :: es) X.env = (false, eval e X.env) :: starEach es X.env := by rfl) : PA X (e :: es) (tCons te t) := by
  intro pos pins s σ H Q I h
  rw [hs]
  show wpAny _ _ (spliced ((false, eval e X.env) :: backTo pos (starEach es X.env))) _ _ s
  refine Calls.spliced_cons (thn (ha pins s σ H _ I h) fun u s1 ⟨x, H1, I1, r1, q1⟩ => ?_)
  exact thn (hr pos pins s1 σ H1 _ I1 q1) fun us s2 ⟨xs, H2, I2, r2, q2⟩ => ⟨x :: xs, H2, I2, .cons r1 r2, q2⟩
def tTup (t : TA) : TE := fun σ H Q => t σ H fun xs H1 => xs.length ≤ sizeLine ∧ ∀ p, H1 p = none → Q (.ref p) (upd H1 p (.tup xs))
def tLst (t : TA) : TE := fun σ H Q => t σ H fun xs H1 => xs.length ≤ sizeLine ∧ ∀ p, H1 p = none → Q (.ref p) (upd H1 p (.lst xs))
theorem pe_tup {x1} (h : PA X es t) : PE X (.Tuple es x1 pos) (tTup t) := by
  intro pins s σ H Q I hq
  refine wpAny_Tuple_spliced (thn (h pos pins s σ H _ I hq) fun us s1 ⟨xs, H1, I1, r, z, q⟩ => ⟨by rw [← r.length]; exact z, ?_⟩)
  have hf : H1 s1.heap.objs.size = none := I1.hok.fresh (Nat.le_refl _)
  refine ⟨.ref s1.heap.objs.size, upd H1 s1.heap.objs.size (.tup xs), I1.laid (t' := s1.toks) (fun b u e => Heap.get?_push_of_some _ e) (Nat.le_refl _) ?_, rfl, q _ hf⟩
  exact ⟨z, us, r, ⟨_, Heap.get?_push_size _ rfl, rfl, rfl, _, rfl⟩⟩
theorem pe_lst (h : PA X es t) : PE X (.List es pos) (tLst t) := by
  intro pins s σ H Q I hq
  refine wpAny_List_spliced (thn (h pos pins s σ H _ I hq) fun us s1 ⟨xs, H1, I1, r, z, q⟩ => ⟨by rw [← r.length]; exact z, ?_⟩)
  have hf : H1 s1.heap.objs.size = none := I1.hok.fresh (Nat.le_refl _)
  refine ⟨.ref s1.heap.objs.size, upd H1 s1.heap.objs.size (.lst xs), I1.laid (t' := s1.toks) (fun b u e => Heap.get?_push_of_some _ e) (Nat.le_refl _) ?_, rfl, q _ hf⟩
  exact ⟨z, us, 0, r, Heap.get?_push_size _ rfl⟩
end
abbrev Sp := List V → Hp → VK → XK → Prop
abbrev CXT := List Env → Hp → Shared → XK → Value → Shared → Prop
structure Env0 (P : Program) (w : World) (K : PySem.W.Frag) (mg : Str → Option Value) (base : Heap) (A : Around) (outer : List Env) (s : Shared) (H : Hp) : Prop where
  frames : A.frames = some outer
  mod : Mod K mg base
  bs : ∀ b o, base.get? b = some o → s.heap.get? b = some o ∧ H b = none
  bsz : base.objs.size ≤ s.heap.objs.size
  funs : s.heap.FunFrames base outer
  frf : ∀ b ∈ frs outer, H b = none
  hok : HOk P w H s.heap
  bare : AllBare s.gens
def CE (outer : List Env) (P : Program) (w : World) (H : Hp) (s : Shared) (Q : VK) (u : Value) (s' : Shared) : Prop :=
  ∃ v H', s'.os = s.os ∧ AllBare s'.gens ∧ Un (frs outer) [] H H' s.heap s'.heap ∧ HOk P w H' s'.heap ∧ RelV v u ∧ Q v H'
def CR (CX : CXT) (outer : List Env) (P : Program) (w : World) (H : Hp) (s : Shared) (Q : VK) (E : XK) (r : Result) (s' : Shared) : Prop :=
  match r with
  | .ok (.ret u) => CE outer P w H s Q u s'
  | .ok _ => False
  | .error e => CX outer H s E e s'
structure FnOk (P : Program) (w : World) (K : PySem.W.Frag) (mg : Str → Option Value) (base : Heap) (CX : CXT) (k : Nat) (f : Addr) (fd : FuncData) (ps : List Str) (sp : Sp) : Prop where
  len : ∀ vs H Q E, sp vs H Q E → vs.length = ps.length
  run : ∀ (A : Around) (outer : List Env) (s : Shared) (H : Hp) (args : Args) (us : List Value) (vs : List V) (Q : VK) (E : XK), Room k A → Env0 P w K mg base A outer s H → BindsTo s fd args (ps.zip us) → Vals vs us → sp vs H Q E →
    codeAny (model P w) A (.call (.ref f) args) (CR CX outer P w H s Q E) s
theorem FnOk.imp {P : Program} {w : World} {K : PySem.W.Frag} {mg : Str → Option Value} {base : Heap} {CX : CXT} {k : Nat} {f : Addr} {fd : FuncData} {ps : List Str} {sp sp' : Sp} (F : FnOk P w K mg base CX k f fd ps sp)
    (h : ∀ vs H Q E, sp' vs H Q E → sp vs H Q E) : FnOk P w K mg base CX k f fd ps sp' :=
  ⟨fun vs H Q E q => F.len vs H Q E (h _ _ _ _ q), fun A outer s H args us vs Q E hr he hb hv hs => F.run A outer s H args us vs Q E hr he hb hv (h _ _ _ _ hs)⟩
section
variable {X : Cx} {pins : List (Addr × Obj)} {σ : St} {H : Hp} {s s' : Shared}
theorem Inv.env0 (I : Inv X pins σ H s) : Env0 X.prog X.w X.K X.mg X.base X.A X.stack s H :=
  ⟨I.ok.frames, I.ok.mod, I.bs, Nat.le_trans I.ok.bsz I.sz, I.stack, I.stkFree, I.hok, I.bare⟩
theorem Inv.after {Q : VK} {u : Value} (I : Inv X pins σ H s) (h : CE X.stack X.prog X.w H s Q u s') : EP X pins σ Q u s' := by
  obtain ⟨v, H', os, bare, un, hok, r, q⟩ := h
  obtain ⟨hh, g, d, t, os'⟩ := s'
  obtain rfl : os' = s.os := os
  exact ⟨v, H', I.call (h' := hh) (g' := g) (d' := d) (t' := t) (ch := []) un hok bare (fun b z => absurd z (by simp)), r, q⟩
end
def tCall (sp : Sp) (dvs : List V) (E : XK) (t : TA) : TE := fun σ H Q => t σ H fun vs H1 => sp (vs ++ dvs) H1 Q E
def Binds (K : PySem.W.Frag) (fd : FuncData) (ps : List Str) (ds : List Value) : Prop :=
  ∀ (s : Shared) (us : List Value), K.In s.heap → (us ++ ds).length = ps.length → BindsTo s fd ⟨us, []⟩ (ps.zip (us ++ ds))
theorem Binds.all {K : PySem.W.Frag} {fd : FuncData} {ps : List Str} (h : ∀ us : List Value, us.length = ps.length → bindArgs fd ⟨us, []⟩ = pure (ps.zip us)) : Binds K fd ps [] := fun s us _ hl => by
  rw [List.append_nil] at hl ⊢
  exact .of_eq (h us hl)
def Passes (CX : CXT) (X : Cx) (E : XK) : Prop := ∀ (pins : List (Addr × Obj)) (σ : St) (H : Hp) (s : Shared) (e : Value) (s' : Shared), Inv X pins σ H s → CX X.stack H s E e s' → X.xe e s'
section
variable {X : Cx} {CX : CXT} {k : Nat} {f C : Addr} {fd : FuncData} {ps : List Str} {sp : Sp} {dvs : List V} {ds : List Value} {E : XK} {x m : Str} {p pos apos : Pos} {e o : Expr} {es : List Expr} {ta : TE} {t : TA}
theorem run_fn {pins : List (Addr × Obj)} {σ : St} {H : Hp} {s : Shared} {Q : VK} {us : List Value} {vs : List V} (F : FnOk X.prog X.w X.K X.mg X.base CX k f fd ps sp) (hr : Room k X.A) (hb : Binds X.K fd ps ds) (hd : Vals dvs ds) (hx : Passes CX X E)
    (I : Inv X pins σ H s) (r : Vals vs us) (h : sp (vs ++ dvs) H Q E) : wpAny (model X.prog X.w) X.A (call (.ref f) us) (EP X pins σ Q) X.xe s := by
  have r2 : Vals (vs ++ dvs) (us ++ ds) := r.append hd
  have hl : (us ++ ds).length = ps.length := by rw [← r2.length]; exact F.len _ _ _ _ h
  refine wpAny_call (codeAny_mono (F.run X.A X.stack s H ⟨us, []⟩ (us ++ ds) (vs ++ dvs) Q E hr I.env0 (hb s us I.kIn hl) r2 h) fun r s' hq => ?_)
  cases r with
  | error e => exact hx pins σ H s e s' I hq
  | ok fl =>
    cases fl with
    | ret u => exact I.after hq
    | next => exact False.elim hq
    | brk => exact False.elim hq
    | cont => exact False.elim hq
theorem pe_call (F : FnOk X.prog X.w X.K X.mg X.base CX k f fd ps sp) (hr : Room k X.A) (hg : Gl X x) (hm : X.mg x = some (.ref f)) (hk : PySem.W.keepIn X.K (.ref f) = true) (hb : Binds X.K fd ps ds) (hd : Vals dvs ds) (hx : Passes CX X E)
    (ha : PA X (e :: es) t) (hdb : (x == ("__debug__" : Str)) = false := by decide) (he : starEach (e :: es) X.env = (false, eval e X.env) :: starEach es X.env := by rfl) (hpl : (backTo pos (starEach es X.env)).any (·.1) = false := by rfl) :
    PE X (.Call (.Name x p) (e :: es) [] pos) (tCall sp dvs E t) := by
  intro pins s σ H Q I h
  refine wpAny_Call_Name_kw (ld_glob I hg hm ?_ hdb)
  refine PySem.W.callWith_K (h₀ := X.base) I.ok.mod.kin hk (thn (ha pos pins s σ H _ I h) fun us s1 ⟨vs, H1, I1, r, q⟩ => ⟨I1.kIn, ?_⟩) he hpl
  exact run_fn F hr hb hd hx I1 r q
structure Mk (K : PySem.W.Frag) (C f : Addr) : Prop where
  makes : PySem.W.makesIn K C = true
  init : PySem.W.findIn K (.ref C) "__init__" = some (some (.ref f))
  fn : PySem.W.isFn K (.ref f) = true
  kp : PySem.W.keepIn K (.ref C) = true
end
section
variable {X : Cx} {CX : CXT} {k : Nat} {f C : Addr} {fd : FuncData} {ps ks : List Str} {sp : Sp} {E : XK} {x m : Str} {p pos apos kpos : Pos} {e o : Expr} {es : List Expr} {kws : List Keyword} {te ta : TE} {t tk : TA} {nm : Option Str}
structure KBinds (K : PySem.W.Frag) (fd : FuncData) (ps ks : List Str) (g : List Value → List Value → List Value) (gV : List V → List V → List V) : Prop where
  to : ∀ (s : Shared) (us ws : List Value), K.In s.heap → (g us ws).length = ps.length → BindsTo s fd ⟨us, ks.zip ws⟩ (ps.zip (g us ws))
  rel : ∀ {vs : List V} {us : List Value} {zs : List V} {ws : List Value}, Vals vs us → Vals zs ws → Vals (gV vs zs) (g us ws)
variable {g : List Value → List Value → List Value} {gV : List V → List V → List V}
end
structure FnScope (N P : List Str) (sc : Scope) : Prop where
  kind : sc.kind = .function
  co : sc.isCoroutine = false
  gen : sc.isGenerator = false
  nd : N.Nodup
  pre : N.take P.length = P
  par : ∀ x ∈ P, sc.names.lookup x = some .local ∨ sc.names.lookup x = some .cell
  nofree : ∀ y ∈ sc.names, y.2 ≠ .free
theorem bindL_out {kindOf : Str → Option NameKind} {x : Str} : ∀ {binds : List (Str × Value)} {m : Str → Option Value}, (∀ v, (x, v) ∉ binds) → bindL kindOf binds m x = m x
  | [], _, _ => rfl
  | (n, v) :: r, m, h => by
    unfold bindL
    rw [bindL_out fun w hw => h w (List.mem_cons_of_mem _ hw)]
    split
    · have : x ≠ n := by rintro rfl; exact h v List.mem_cons_self
      simp [this]
    · rfl
theorem bindC_out {kindOf : Str → Option NameKind} {x : Str} : ∀ {binds : List (Str × Value)} {m : Str → Option Value}, (∀ v, (x, v) ∉ binds) → bindC kindOf binds m x = m x
  | [], _, _ => rfl
  | (n, v) :: r, m, h => by
    unfold bindC
    rw [bindC_out fun w hw => h w (List.mem_cons_of_mem _ hw)]
    split
    · rfl
    · have : x ≠ n := by rintro rfl; exact h v List.mem_cons_self
      simp [this]
theorem bindL_get {kindOf : Str → Option NameKind} {x : Str} {v : Value} : ∀ {P : List Str} {vs : List Value} {i : Nat} {m : Str → Option Value}, P.Nodup → P[i]? = some x → vs[i]? = some v → kindOf x = some .local →
    bindL kindOf (P.zip vs) m x = some v
  | [], _, _, _, _, h, _, _ => by simp at h
  | _ :: _, [], _, _, _, _, h, _ => by simp at h
  | p :: P, w :: vs, 0, m, nd, h1, h2, hk => by
    simp at h1 h2; subst h1; subst h2
    show bindL kindOf ((p, w) :: P.zip vs) m p = _
    unfold bindL
    rw [bindL_out fun v hv => (List.nodup_cons.mp nd).1 (List.of_mem_zip hv).1, if_pos hk]
    simp
  | p :: P, w :: vs, i + 1, m, nd, h1, h2, hk => by
    show bindL kindOf ((p, w) :: P.zip vs) m x = _
    unfold bindL
    exact bindL_get (i := i) (List.nodup_cons.mp nd).2 (by simpa using h1) (by simpa using h2) hk
theorem bindC_get {kindOf : Str → Option NameKind} {x : Str} {v : Value} : ∀ {P : List Str} {vs : List Value} {i : Nat} {m : Str → Option Value}, P.Nodup → P[i]? = some x → vs[i]? = some v → kindOf x ≠ some .local →
    bindC kindOf (P.zip vs) m x = some v
  | [], _, _, _, _, h, _, _ => by simp at h
  | _ :: _, [], _, _, _, _, h, _ => by simp at h
  | p :: P, w :: vs, 0, m, nd, h1, h2, hk => by
    simp at h1 h2; subst h1; subst h2
    show bindC kindOf ((p, w) :: P.zip vs) m p = _
    unfold bindC
    rw [bindC_out fun v hv => (List.nodup_cons.mp nd).1 (List.of_mem_zip hv).1, if_neg hk]
    simp
  | p :: P, w :: vs, i + 1, m, nd, h1, h2, hk => by
    show bindC kindOf ((p, w) :: P.zip vs) m x = _
    unfold bindC
    exact bindC_get (i := i) (List.nodup_cons.mp nd).2 (by simpa using h1) (by simpa using h2) hk
def start (N : List Str) (vs : List V) : St := vs.map some ++ List.replicate (N.length - vs.length) none
def cxOf (CX : CXT) (P : Program) (w : World) (K : PySem.W.Frag) (mg : Str → Option Value) (base : Heap) (N : List Str) (qual : Str) (scope : Scope) (f : Addr) (cd : Value) (A : Around) (outer : List Env) (s : Shared) (H : Hp) (E : XK) : Cx where
  prog := P
  w := w
  K := K
  mg := mg
  base := base
  A := A.deeper (envOfC qual scope s.heap.objs.size f cd)
  N := N
  s₀ := s
  H₀ := H
  env := envOfC qual scope s.heap.objs.size f cd
  outer := outer
  stack := envOfC qual scope s.heap.objs.size f cd :: outer
  ex := []
  calm := true
  fn := fun _ => true
  pn := []
  xe := fun e s' => wpAny (model P w) (A.deeper (envOfC qual scope s.heap.objs.size f cd)) (leaving (envOfC qual scope s.heap.objs.size f cd) e) (fun _ s'' => CX outer H s E e s'') (fun e' s'' => CX outer H s E e' s'') s'
theorem cell_has {sc : Scope} {n : Nat} {x : Str} (h : sc.names.lookup x = some .cell) : ∃ c, (cellsFrom n sc.names []).lookup x = some c := by
  have q := PySem.W.cellsFrom_some sc.names n [] (.inl h)
  exact Option.isSome_iff_exists.mp q
theorem inv_start {CX : CXT} {P : Program} {w : World} {K : PySem.W.Frag} {mg : Str → Option Value} {base : Heap} {N ps : List Str} {qual : Str} {scope : Scope} {f : Addr} {cd : Value} {A : Around} {outer : List Env} {s s1 : Shared} {H : Hp} {E : XK} {us : List Value} {vs : List V}
    (S : FnScope N ps scope) (hd : A.handled = none) (e0 : Env0 P w K mg base A outer s H) (hl : vs.length = ps.length) (r : Vals vs us)
    (x : InCallC s s.heap.objs.size (bindL (envOfC qual scope s.heap.objs.size f cd).kindOf (ps.zip us) fun _ => none) (cellsFrom (s.heap.objs.size + 1) scope.names []) (bindC (envOfC qual scope s.heap.objs.size f cd).kindOf (ps.zip us) fun _ => none) s1) :
    Inv (cxOf CX P w K mg base N qual scope f cd A outer s H E) [] (start N vs) H s1 := by
  have hpl : ps.length ≤ N.length := by have := congrArg List.length S.pre; rw [List.length_take] at this; (first | lia | omega)
  obtain ⟨h1, tk, rfl, hk⟩ := x.done
  have noA : ∀ b : Addr, b ∉ (cxOf CX P w K mg base N qual scope f cd A outer s H E).ex := fun b z => absurd (show b ∈ ([] : List Addr) from z) (by simp)
  refine ⟨⟨e0.mod, S.kind, rfl, rfl, Nat.le_refl _, fun y z c h1 h2 => ?_, fun y hy => ?_, fun y c _ h => ?_, fun _ => hd, Around.frames_deeper e0.frames, .inr ⟨rfl, rfl⟩, fun b z => absurd z (noA b), e0.bs, e0.bsz, fun b _ _ => noA b, fun b z => absurd z (noA b), e0.funs, e0.frf⟩,
    rfl, e0.bare, Un.kept hk, ⟨_, x.toInCall.ns, fun i y v h1 h2 h3 => ?_⟩, fun y c h => ⟨_, x.cell y c h⟩, e0.hok.fresh (Nat.le_refl _), fun y c h => ?_, fun p hp => absurd (show p ∈ ([] : List (Addr × Obj)) from hp) (by simp), e0.hok.kept hk, ?_⟩
  · exact name_of_addr x.apart (PySem.mem_of_lookup h1) (PySem.mem_of_lookup h2)
  · have hy : scope.names.lookup y = some .cell ∨ scope.names.lookup y = some .free := hy
    rcases hy with hy | hy
    · exact cell_has hy
    · exact absurd rfl (S.nofree _ (PySem.mem_of_lookup hy))
  · exact Nat.le_of_lt (x.above y c (PySem.mem_of_lookup h))
  · have hi : i < vs.length := by
      unfold start at h2
      by_cases hi : i < vs.length
      · exact hi
      · rw [List.getElem?_append_right (by simpa using hi)] at h2
        rw [List.getElem?_replicate] at h2
        split at h2 <;> cases h2
    have ha : vs[i]? = some v := by
      unfold start at h2
      rw [List.getElem?_append_left (by simpa using hi), List.getElem?_map] at h2
      cases e : vs[i]? with
      | none => rw [e] at h2; cases h2
      | some a => rw [e] at h2; cases h2; rfl
    obtain ⟨u, hu, rv⟩ := r.get ha
    have hp : ps[i]? = some y := by
      rw [← S.pre, List.getElem?_take_of_lt (by (first | lia | omega))]; exact h1
    have ndP : ps.Nodup := by rw [← S.pre]; exact S.nd.sublist (List.take_sublist _ _)
    refine ⟨u, rv, ?_⟩
    rcases S.par y (List.mem_of_getElem? hp) with k | k
    · exact .inl ⟨k, bindL_get ndP hp hu k⟩
    · obtain ⟨c, e⟩ := cell_has (n := s.heap.objs.size + 1) k
      refine .inr ⟨.inl k, c, e, ?_⟩
      have q := x.cell y c e
      rw [bindC_get ndP hp hu (by show scope.names.lookup y ≠ _; rw [k]; decide)] at q
      exact q
  · exact e0.hok.fresh (Nat.le_of_lt (x.above y c (PySem.mem_of_lookup h)))
  · unfold start
    show _ = N.length
    rw [List.length_append, List.length_map, List.length_replicate]
    (first | lia | omega)
theorem fn_of {CX : CXT} {P : Program} {w : World} {K : PySem.W.Frag} {mg : Str → Option Value} {base : Heap} {k : Nat} {f : Addr} {name qual : Str} {params : Arguments} {body : List Stmt} {scope : Scope} {dV kV doc pm cdv ct oc : Value} {an od : Option Addr}
    {osl : Array (Option Value)} {N ps : List Str} {sp : Sp} (lk : K.lookup f = some ⟨oc, od, .func (PySem.W.fnOf name qual params body scope dV kV doc pm an cdv ct), osl⟩) (hcd : PySem.W.codeIn K cdv qual = true) (S : FnScope N ps scope)
    (len : ∀ vs H Q E, sp vs H Q E → vs.length = ps.length)
    (hbody : ∀ (A : Around) (outer : List Env) (s : Shared) (H : Hp) (vs : List V) (Q : VK) (E : XK), Room k (A.deeper (envOfC qual scope s.heap.objs.size f cdv)) → sp vs H Q E →
      ∃ t, PSs (cxOf CX P w K mg base N qual scope f cdv A outer s H E) body t ∧ t { nx := fun _ H' => Q .non H', rt := Q } (start N vs) H) :
    FnOk P w K mg base CX (k + 1) f (PySem.W.fnOf name qual params body scope dV kV doc pm an cdv ct) ps sp := by
  refine ⟨len, fun A outer s H args us vs Q E hr e0 hb r hsp => ?_⟩
  have hl := len _ _ _ _ hsp
  have KX : K.In s.heap := e0.mod.kin.keeps fun b o e => (e0.bs b o e).1
  have lim : s.heap.NoLimit := e0.mod.nolimit.keeps fun b o e => (e0.bs b o e).1
  have hkind : ∀ y ∈ ps.zip us, scope.names.lookup y.1 = some .local ∨ (scope.names.lookup y.1 = some .cell ∧ ((cellsFrom (s.heap.objs.size + 1) scope.names []).lookup y.1).isSome = true) := fun ⟨n, v⟩ hy => by
    rcases S.par n (List.of_mem_zip hy).1 with q | q
    · exact .inl q
    · exact .inr ⟨q, PySem.W.cellsFrom_some _ _ _ (.inl q)⟩
  refine codeAny_call_function hr.depth (KX _ _ lk) rfl S.co S.gen rfl (PySem.W.codeRec_of KX hcd) (hb _ _ _ _ ?_)
  refine wpAny_newFunctionEnv_cells S.kind hkind fun env he s1 x => ?_
  subst he
  refine ⟨lim.keeps x.toInCall.keep, codeAny_func ?_⟩
  obtain ⟨t, ht, hq⟩ := hbody A outer s H vs Q E (hr.deeper _) hsp
  have I : Inv (cxOf CX P w K mg base N qual scope f cdv A outer s H E) [] (start N vs) H s1 := inv_start S hr.hd e0 hl r x
  refine wpAny_mono (ht [] s1 (start N vs) H _ I hq) (fun fl s' hs => ?_) fun e s' hs => hs
  have fin : ∀ {σ' : St} {H' : Hp} {v : V} {u : Value}, Inv (cxOf CX P w K mg base N qual scope f cdv A outer s H E) [] σ' H' s' → RelV v u → Q v H' → CE outer P w H s Q u s' :=
    fun {σ' H' v u} J rv q => ⟨v, H', J.os, J.bare, J.base, J.hok, rv, q⟩
  cases fl with
  | ret u =>
    obtain ⟨v, σ', H', J, rv, q⟩ := hs
    exact fin J rv q
  | next =>
    obtain ⟨σ', H', J, q⟩ := hs
    exact fin (v := V.non) (u := Value.none) J rfl q
  | brk =>
    obtain ⟨_, _, _, q⟩ := hs
    exact False.elim q
  | cont =>
    obtain ⟨_, _, _, q⟩ := hs
    exact False.elim q
end L2
namespace L2
open PySem PySem.Spec PyProof.Rows
section
variable {X : Cx} {x : Str} {p pos : Pos} {e : Expr} {es : List Expr} {t : TA} {id T : String} {r : List V → Hp → VK → Prop}
def tCB (r : List V → Hp → VK → Prop) (t : TA) : TE := fun σ H Q => t σ H fun vs H1 => r vs H1 Q
theorem pe_callB (hc : CallR X (.builtin id) r) (hg : Gl X x) (hm : X.mg x = none) (hv : bootBuiltins x = some (.builtin id)) (ha : PA X (e :: es) t) (hn : x ≠ "__name__" := by decide) (hdb : (x == ("__debug__" : Str)) = false := by decide)
    (he : starEach (e :: es) X.env = (false, eval e X.env) :: starEach es X.env := by rfl) (hpl : (backTo pos (starEach es X.env)).any (·.1) = false := by rfl) : PE X (.Call (.Name x p) (e :: es) [] pos) (tCB r t) := by
  intro pins s σ H Q I h
  refine wpAny_Call_Name_kw (ld_blt I hg hm hv ?_ hn hdb)
  exact PyProof.Rows.callWith_builtin1 (thn (ha pos pins s σ H _ I h) fun us s1 ⟨vs, H1, I1, r1, q1⟩ => hc pins s1 σ H1 vs us Q I1 r1 q1) he hpl
theorem pe_callTy (hc : CallR X (.type T) r) (hg : Gl X x) (hm : X.mg x = none) (hv : bootBuiltins x = some (.type T)) (ha : PA X (e :: es) t) (hn : x ≠ "__name__" := by decide) (hdb : (x == ("__debug__" : Str)) = false := by decide)
    (he : starEach (e :: es) X.env = (false, eval e X.env) :: starEach es X.env := by rfl) (hpl : (backTo pos (starEach es X.env)).any (·.1) = false := by rfl) : PE X (.Call (.Name x p) (e :: es) [] pos) (tCB r t) := by
  intro pins s σ H Q I h
  refine wpAny_Call_Name_kw (ld_blt I hg hm hv ?_ hn hdb)
  exact PyProof.Rows.callWith_type1 (thn (ha pos pins s σ H _ I h) fun us s1 ⟨vs, H1, I1, r1, q1⟩ => hc pins s1 σ H1 vs us Q I1 r1 q1) he hpl
end
end L2
namespace HT
open PySem PyProof.Rows
section
open PySem.SeqAt
open PySem.AutoSeq1 (wpAny_loadPart')
open PySem.MeetsSeq PySem.MeetsSeq2 PySem.MeetsSeq3
end
section
variable {prog : Program} {w : World} {A : Around} {E : Value → Shared → Prop} {s : Shared}
theorem cat_tup {t b : Addr} {vs ws : List Value} {Q : Value → Shared → Prop} (ht : IsTup s.heap t vs.toArray) (hb : IsTup s.heap b ws.toArray) (hv : vs ≠ [])
    (h1 : ws = [] → Q (.ref t) s) (h2 : ws ≠ [] → Q (.ref s.heap.objs.size) { s with heap := s.heap.push { cls := .type "tuple", data := .seq (vs ++ ws).toArray } })
    (hsz : vs.length + ws.length ≤ sizeLine) : wpAny (model prog w) A (binaryOp .Add (.ref t) (.ref b)) Q E s := by
  obtain ⟨⟨cls, dd, data, sl⟩, ho, hc, n, hd⟩ := id ht
  obtain ⟨⟨cls2, dd2, data2, sl2⟩, ho2, hc2, n2, hd2⟩ := id hb
  simp only at hc hd hc2 hd2
  subst hc hd hc2 hd2
  have e : vs.toArray ++ ws.toArray = (vs ++ ws).toArray := by simp
  by_cases hw : ws = []
  · exact concat_meets ⟨_, ho, rfl⟩ ⟨_, ho2, rfl⟩ noFill_tuple_add seq_tuple_add PySem.F.slot_tuple_add PySem.F.entry_tuple_add (PySem.F.args_tuple_add_2 _ _)
      (tuple_addW1 t b vs.toArray ws.toArray n n2 dd dd2 sl sl2 (by simpa using hv) (by simp [hw])) ⟨ho, ho2, h1 hw⟩
  · refine concat_meets ⟨_, ho, rfl⟩ ⟨_, ho2, rfl⟩ noFill_tuple_add seq_tuple_add PySem.F.slot_tuple_add PySem.F.entry_tuple_add (PySem.F.args_tuple_add_2 _ _)
      (tuple_addW2 t b vs.toArray ws.toArray n n2 dd dd2 sl sl2 (by simpa using hv) (by simpa using hw) (by rw [List.size_toArray, List.size_toArray]; exact hsz)) ⟨ho, ho2, ?_⟩
    rw [e]
    exact h2 hw
def sIx (n d : Nat) : Option Int → Nat
  | none => d
  | some v => if v < 0 then (v + (n : Int)).toNat else min v.toNat n
end
end HT
namespace L2
open PySem PySem.Spec PyProof.Rows
abbrev TO := St → Hp → (Option Int → Hp → Prop) → Prop
def PO (X : Cx) (e : Option Expr) (t : TO) : Prop :=
  ∀ (pins : List (Addr × Obj)) (s : Shared) (σ : St) (H : Hp) (Q : Option Int → Hp → Prop), Inv X pins σ H s → t σ H Q →
    wpAny (model X.prog X.w) X.A (evalPart e X.env) (fun u s' => ∃ o H', Inv X pins σ H' s' ∧ IsPart u o ∧ Q o H') X.xe s
def tNoPart : TO := fun _ H Q => Q none H
def tPart (t : TE) : TO := fun σ H Q => t σ H fun x H1 => ∃ i, x = .int i ∧ Q (some i) H1
theorem intsAre_of {ns : List Int} : ∀ {us : List Value}, Vals (ns.map V.int) us → IntsAre us ns := by
  induction ns with
  | nil => intro us r; rw [List.map_nil] at r; cases r; exact .nil
  | cons n ns ih =>
    intro us r
    rw [List.map_cons] at r
    cases r with
    | cons r1 r2 =>
      obtain ⟨t, e⟩ := r1
      subst e
      exact .cons n t (ih r2)
section
variable {X : Cx} {e : Expr} {te : TE} {lo hi : Option Expr} {tl th : TO} {pos p2 : Pos}
theorem po_none : PO X none tNoPart := by
  intro pins s σ H Q I h
  rw [evalPart_none]
  exact wpAny_pure ⟨none, H, I, .none, h⟩
theorem po_some (h : PE X e te) : PO X (some e) (tPart te) := by
  intro pins s σ H Q I hw
  rw [evalPart_some]
  refine thn (h pins s σ H _ I hw) fun u s1 ⟨x, H1, I1, r1, q1⟩ => ?_
  obtain ⟨i, rfl, q⟩ := q1
  obtain ⟨t, rfl⟩ := r1
  exact ⟨some i, H1, I1, .int i t, q⟩
def SlR (X : Cx) (r : V → Option Int → Option Int → Hp → VK → Prop) : Prop :=
  ∀ (pins : List (Addr × Obj)) (s : Shared) (σ : St) (H : Hp) (x : V) (v vl vu : Value) (lo hi : Option Int) (sl : Addr) (Q : VK), Inv X pins σ H s → RelV x v → s.heap.IsSliceOf sl vl vu .none → IsPart vl lo → IsPart vu hi → r x lo hi H Q →
    ∃ T id, typeLookup (.type T) "__getitem__" = pure (some (.builtin id)) ∧ s.TypeIs v T ∧ wpAny (model X.prog X.w) X.A (getItem v (.ref sl)) (EP X pins σ Q) X.xe s
def tSl (r : V → Option Int → Option Int → Hp → VK → Prop) (te : TE) (tl th : TO) : TE := fun σ H Q => te σ H fun x H1 => tl σ H1 fun l H2 => th σ H2 fun u H3 => r x l u H3 Q
theorem pe_slice {r : V → Option Int → Option Int → Hp → VK → Prop} (hr : SlR X r) (he : PE X e te) (hl : PO X lo tl) (hu : PO X hi th) : PE X (.Subscript e (.Slice lo hi none p2) pos) (tSl r te tl th) := by
  intro pins s σ H Q I h
  refine Subscript_ (thn (he pins s σ H _ I h) fun v s1 ⟨x, H1, I1, r1, q1⟩ => ?_)
  refine wpAny_Slice (thn (hl pins s1 σ H1 _ I1 q1) fun vl s2 ⟨l, H2, I2, pl, q2⟩ => thn (hu pins s2 σ H2 _ I2 q2) fun vu s3 ⟨u, H3, I3, pu, q3⟩ => ?_)
  rw [evalPart_none]
  refine wpAny_pure ?_
  have I4 : Inv X pins σ H3 { s3 with heap := s3.heap.push { cls := .type "slice", data := .fields #[vl, vu, .none] } } := I3.kept (t' := s3.toks) fun b ob q => Heap.get?_push_of_some _ q
  obtain ⟨T, id, hT, ht, hg⟩ := hr pins { s3 with heap := s3.heap.push { cls := .type "slice", data := .fields #[vl, vu, .none] } } σ H3 x v vl vu l u s3.heap.objs.size Q I4 r1 (Heap.IsSliceOf.new ..) pl pu q3
  show wpAny (model X.prog X.w) X.A (subscriptTail e (.Slice lo hi none p2) v (.ref s3.heap.objs.size)) (EP X pins σ Q) X.xe { s3 with heap := s3.heap.push { cls := .type "slice", data := .fields #[vl, vu, .none] } }
  exact tail_any (ops := [.ref s3.heap.objs.size, v]) ht hT hg (by with_unfolding_all rfl)
def cutV (xs : List V) (lo hi : Option Int) : List V := (xs.drop (HT.sIx xs.length 0 lo)).take (HT.sIx xs.length xs.length hi - HT.sIx xs.length 0 lo)
theorem cutV_length (xs : List V) (lo hi : Option Int) : (cutV xs lo hi).length ≤ xs.length := by
  unfold cutV
  rw [List.length_take, List.length_drop]
  (first | lia | omega)
def rCatT (K : PySem.W.Frag) : R2 := fun x y H Q => ∃ a b xs ys, x = .ref a ∧ y = .ref b ∧ SqT K H a xs ∧ SqT K H b ys ∧ xs ≠ [] ∧ xs.length + ys.length ≤ sizeLine ∧
  (ys = [] → Q (.ref a) H) ∧ (ys ≠ [] → ∀ p, H p = none → Q (.ref p) (upd H p (.tup (xs ++ ys))))
theorem Vals.nil_iff {xs : List V} {us : List Value} (r : Vals xs us) : us = [] ↔ xs = [] := by
  cases r with
  | nil => simp
  | cons _ _ => simp
theorem op_catT : OpR X (binaryOp .Add) (rCatT X.K) := by
  intro pins s σ H x y v u Q I rx ry h
  obtain ⟨a, b, xs, ys, rfl, rfl, ha, hb, hx, hz, q1, q2⟩ := h
  cases rx
  cases ry
  obtain ⟨its, r1, p1, _⟩ := I.tuple ha
  obtain ⟨its2, r2, p2, _⟩ := I.tuple hb
  refine HT.cat_tup p1 p2 (fun z => hx (r1.nil_iff.mp z)) (fun z => ⟨.ref a, H, I, rfl, q1 (r2.nil_iff.mp z)⟩) (fun z => ?_) (by rw [← r1.length, ← r2.length]; exact hz)
  refine ⟨.ref s.heap.objs.size, _, I.laid (t' := s.toks) (o := .tup (xs ++ ys)) (fun b ob q => Heap.get?_push_of_some _ q) (Nat.le_refl _) ?_, rfl, q2 (fun w => z (r2.nil_iff.mpr w)) _ (I.hok.fresh (Nat.le_refl _))⟩
  exact ⟨by rw [List.length_append]; exact hz, _, r1.append r2, TupP.new _ _⟩
end
end L2
namespace L2
open PySem PySem.Spec PyProof.Rows
def ixN (n : Nat) (i : Int) : Option Nat := if 0 ≤ i then (if i < n then some i.toNat else none) else if -(n : Int) ≤ i then some (i + n).toNat else none
def atI {α : Type} (xs : List α) (i : Int) : Option α := (ixN xs.length i).bind fun j => xs[j]?
theorem ixN_seq {n : Nat} {i : Int} {j : Nat} (h : ixN n i = some j) : seqIndex? i n = some j ∧ j < n ∧ -(n : Int) ≤ i ∧ i < n := by
  unfold ixN at h
  by_cases h0 : 0 ≤ i
  · rw [if_pos h0] at h
    by_cases h1 : i < n
    · rw [if_pos h1] at h
      have e : i.toNat = j := Option.some.inj h
      exact ⟨by rw [seqIndex_of h0 h1, e], by (first | lia | omega), by (first | lia | omega), h1⟩
    · rw [if_neg h1] at h; cases h
  · rw [if_neg h0] at h
    by_cases h1 : -(n : Int) ≤ i
    · rw [if_pos h1] at h
      have e : (i + n).toNat = j := Option.some.inj h
      exact ⟨by rw [seqIndex_neg (by (first | lia | omega)) h1, e], by (first | lia | omega), h1, by (first | lia | omega)⟩
    · rw [if_neg h1] at h; cases h
theorem atI_get {α : Type} {xs : List α} {i : Int} {v : α} (h : atI xs i = some v) : ∃ j, seqIndex? i xs.length = some j ∧ xs[j]? = some v ∧ j < xs.length ∧ -(xs.length : Int) ≤ i ∧ i < xs.length := by
  unfold atI at h
  cases e : ixN xs.length i with
  | none => rw [e] at h; cases h
  | some j =>
    rw [e] at h
    obtain ⟨h1, h2, h3, h4⟩ := ixN_seq e
    exact ⟨j, h1, h, h2, h3, h4⟩
theorem atI_nat {α : Type} {xs : List α} {j : Nat} {v : α} (h : xs[j]? = some v) : atI xs (j : Int) = some v := by
  have hj : j < xs.length := (List.getElem?_eq_some_iff.mp h).1
  have e : ixN xs.length (j : Int) = some j := by
    unfold ixN
    rw [if_pos (by (first | lia | omega)), if_pos (by (first | lia | omega))]; simp
  unfold atI; rw [e]; exact h
theorem atI_last {α : Type} (xs : List α) (v : α) : atI (xs ++ [v]) (-1) = some v := by
  have hl : (xs ++ [v]).length = xs.length + 1 := by simp
  have e : ixN (xs ++ [v]).length (-1) = some xs.length := by
    unfold ixN
    rw [hl, if_neg (by decide), if_pos (by (first | lia | omega))]
    congr 1
    (first | lia | omega)
  unfold atI
  rw [e]
  show (xs ++ [v])[xs.length]? = some v
  simp
def PlainIx (b : Expr) : Prop := ∀ o i, subscripted b false o i = operate [o, i] (getItem o i)
def IxR (X : Cx) (r : R2) : Prop :=
  ∀ (value slice : Expr) (pins : List (Addr × Obj)) (s : Shared) (σ : St) (H : Hp) (x y : V) (v u : Value) (Q : VK), Inv X pins σ H s → RelV x v → RelV y u → r x y H Q →
    subscripted slice false v u = operate [v, u] (getItem v u) → wpAny (model X.prog X.w) X.A (subscriptTail value slice v u) (EP X pins σ Q) X.xe s
def MtR (X : Cx) (id : String) (r : V → List V → Hp → VK → Prop) : Prop :=
  ∀ (pins : List (Addr × Obj)) (s : Shared) (σ : St) (H : Hp) (x : V) (xs : List V) (v : Value) (us : List Value) (Q : VK), Inv X pins σ H s → RelV x v → Vals xs us → r x xs H Q →
    wpAny (model X.prog X.w) X.A (call (.builtin id) (v :: us)) (EP X pins σ Q) X.xe s
section
variable {X : Cx} {a b : Expr} {ta tb : TE} {pos : Pos}
theorem pe_ix {r : R2} (hr : IxR X r) (ha : PE X a ta) (hb : PE X b tb) (hs : PlainIx b) : PE X (.Subscript a b pos) (tOp r ta tb) := by
  intro pins s σ H Q I h
  exact Subscript_ (binT ha hb I h fun v u s2 x y H2 I2 rx ry q => hr a b pins s2 σ H2 x y v u Q I2 rx ry q (hs _ _))
def rIxL (K : PySem.W.Frag) : R2 := fun x y H Q => ∃ p xs i v, x = .ref p ∧ y = .int i ∧ SqL K H p xs ∧ atI xs i = some v ∧ Q v H
def rIxT (K : PySem.W.Frag) : R2 := fun x y H Q => ∃ p xs i v, x = .ref p ∧ y = .int i ∧ SqT K H p xs ∧ atI xs i = some v ∧ Q v H
theorem ix_list : IxR X (rIxL X.K) := by
  intro value slice pins s σ H x y v u Q I rx ry h hs
  obtain ⟨p, xs, i, z, rfl, rfl, hq, he, q⟩ := h
  cases rx
  obtain ⟨t, rfl⟩ := ry
  obtain ⟨its, r, pl, hz⟩ := I.list hq
  obtain ⟨j, h1, h2, h3, h4, h5⟩ := atI_get he
  obtain ⟨w, ew, rw'⟩ := r.get h2
  have hl := r.length
  have hn := line63
  have fin : EP X pins σ Q w s := ⟨z, H, I, rw', q⟩
  by_cases h0 : 0 ≤ i
  · have hj : i.toNat = j := by
      rw [seqIndex_of h0 h5] at h1
      exact Option.some.inj h1
    exact item_listR pl.isList h0 (by (first | lia | omega)) (by rw [hj]; simpa using ew) fin hs
  · have hj : (i + (its.toArray.size : Int)).toNat = j := by
      rw [seqIndex_neg (by (first | lia | omega)) h4] at h1
      rw [List.size_toArray, ← hl]
      exact Option.some.inj h1
    exact subscriptTail_builtinR (x := w) pl.isList.typeIs slot_list_getitem.lookup
      (wpAny_getItem_list_neg (Q := fun r s' => r = w ∧ EP X pins σ Q r s') pl.isList (by (first | lia | omega)) (by rw [List.size_toArray] <;> (first | lia | omega)) (by (first | lia | omega)) (by rw [hj]; simpa using ew) ⟨rfl, fin⟩) hs
theorem ix_tup : IxR X (rIxT X.K) := by
  intro value slice pins s σ H x y v u Q I rx ry h hs
  obtain ⟨p, xs, i, z, rfl, rfl, hq, he, q⟩ := h
  cases rx
  obtain ⟨t, rfl⟩ := ry
  obtain ⟨its, r, pl, hz⟩ := I.tuple hq
  obtain ⟨j, h1, h2, h3, h4, h5⟩ := atI_get he
  obtain ⟨w, ew, rw'⟩ := r.get h2
  have hl := r.length
  have hn := line63
  have fin : EP X pins σ Q w s := ⟨z, H, I, rw', q⟩
  exact subscriptTail_builtinR (x := w) pl.typeIs slot_tuple_getitem.lookup
    (getItem_tuple (j := j) (Q := fun r s' => r = w ∧ EP X pins σ Q r s') pl (by (first | lia | omega)) (by (first | lia | omega)) (by rw [List.size_toArray, ← hl]; exact h1) (by simpa using ew) ⟨rfl, fin⟩) hs
theorem slice_bounds (lo hi : Option Int) (n : Nat) : (sliceBounds lo hi none n).1 = ((HT.sIx n 0 lo : Nat) : Int) ∧ (sliceBounds lo hi none n).2.1 = ((HT.sIx n n hi : Nat) : Int) ∧ (sliceBounds lo hi none n).2.2 = 1 := by
  refine ⟨?_, ?_, rfl⟩
  · cases lo with
    | none => simp [sliceBounds, HT.sIx]
    | some i =>
      simp only [sliceBounds, HT.sIx, Option.getD_none, show (1 : Int) > 0 by decide, if_true]
      by_cases h : i < 0
      · simp only [h, if_true] <;> (first | lia | omega)
      · simp only [h, if_false] <;> (first | lia | omega)
  · cases hi with
    | none => simp [sliceBounds, HT.sIx]
    | some i =>
      simp only [sliceBounds, HT.sIx, Option.getD_none, show (1 : Int) > 0 by decide, if_true]
      by_cases h : i < 0
      · simp only [h, if_true] <;> (first | lia | omega)
      · simp only [h, if_false] <;> (first | lia | omega)
theorem slicePick_cut (its : List Value) (lo hi : Option Int) : slicePick its.toArray lo hi none = ((its.drop (HT.sIx its.length 0 lo)).take (HT.sIx its.length its.length hi - HT.sIx its.length 0 lo)).toArray := by
  obtain ⟨h1, h2, h3⟩ := slice_bounds lo hi its.toArray.size
  unfold slicePick
  rw [h1, h2, h3]
  simp only [sliceRange_one, pick_run, List.size_toArray] <;> rfl
def rSlL (K : PySem.W.Frag) : V → Option Int → Option Int → Hp → VK → Prop := fun x lo hi H Q => ∃ a xs, x = .ref a ∧ SqL K H a xs ∧ ∀ p, H p = none → Q (.ref p) (upd H p (.lst (cutV xs lo hi)))
theorem sl_list : SlR X (rSlL X.K) := by
  intro pins s σ H x v vl vu lo hi sl Q I rx hs pl pu h
  obtain ⟨a, xs, rfl, hx, q⟩ := h
  cases rx
  obtain ⟨its, r, ht, hz⟩ := I.list hx
  have hlen := r.length
  refine ⟨"list", _, slot_list_getitem.lookup, ht.isList.typeIs, ?_⟩
  refine wpAny_getItem_list_slice ht.isList hs pl pu .none (by simp) ?_ (by rw [List.size_toArray] <;> (first | lia | omega))
  rw [slicePick_cut, ← hlen]
  refine ⟨.ref s.heap.objs.size, _, I.laid (t' := s.toks) (o := .lst (cutV xs lo hi)) (fun b ob q => Heap.get?_push_of_some _ q) (Nat.le_refl _) ?_, rfl, q _ (I.hok.fresh (Nat.le_refl _))⟩
  exact ⟨Nat.le_trans (cutV_length xs lo hi) hz, _, 0, (r.drop (HT.sIx xs.length 0 lo)).take (HT.sIx xs.length xs.length hi - HT.sIx xs.length 0 lo), Heap.get?_push_size _ rfl⟩
def flatV : V → Bool
  | .non => true
  | .bl _ => true
  | .int _ => true
  | .str _ => true
  | _ => false
def eqV : V → V → Bool
  | .non, .non => true
  | .bl a, .bl b => a == b
  | .bl a, .int b => (if a then 1 else 0) == b
  | .int a, .bl b => a == (if b then 1 else 0)
  | .int a, .int b => a == b
  | .str a, .str b => a == b
  | _, _ => false
theorem eqAt_V {A : Around} {s : Shared} {y x : V} {u v : Value} (ry : RelV y u) (rx : RelV x v) (fy : flatV y = true) (fx : flatV x = true) : SeqAt.EqAt A s u v (eqV y x) := by
  cases y with
  | non =>
    cases ry
    cases x with
    | non => cases rx; exact SeqAt.EqAt.same _
    | bl b => cases rx; exact SeqAt.EqAt.none_bool b
    | int b => obtain ⟨t, rfl⟩ := rx; exact SeqAt.EqAt.none_int b t
    | str b => obtain ⟨t, rfl⟩ := rx; exact SeqAt.EqAt.none_str b t
    | _ => exact absurd (show false = true from fx) Bool.false_ne_true
  | bl a =>
    cases ry
    cases x with
    | non => cases rx; exact SeqAt.EqAt.bool_none a
    | bl b => cases rx; exact SeqAt.EqAt.bool_bool a b
    | int b => obtain ⟨t, rfl⟩ := rx; exact SeqAt.EqAt.bool_int a b t
    | str b => obtain ⟨t, rfl⟩ := rx; exact SeqAt.EqAt.bool_str a b t
    | _ => exact absurd (show false = true from fx) Bool.false_ne_true
  | int a =>
    obtain ⟨t', rfl⟩ := ry
    cases x with
    | non => cases rx; exact SeqAt.EqAt.int_none a t'
    | bl b => cases rx; exact SeqAt.EqAt.int_bool a t' b
    | int b => obtain ⟨t, rfl⟩ := rx; exact SeqAt.EqAt.int_int a t' b t
    | str b => obtain ⟨t, rfl⟩ := rx; exact SeqAt.EqAt.int_str a t' b t
    | _ => exact absurd (show false = true from fx) Bool.false_ne_true
  | str a =>
    obtain ⟨t', rfl⟩ := ry
    cases x with
    | non => cases rx; exact SeqAt.EqAt.str_none a t'
    | bl b => cases rx; exact SeqAt.EqAt.str_bool a t' b
    | int b => obtain ⟨t, rfl⟩ := rx; exact SeqAt.EqAt.str_int a t' b t
    | str b => obtain ⟨t, rfl⟩ := rx; exact SeqAt.EqAt.str_str a t' b t
    | _ => exact absurd (show false = true from fx) Bool.false_ne_true
  | _ => exact absurd (show false = true from fy) Bool.false_ne_true
def eqU (x : V) (u : Value) : Bool := match u with
  | .none => eqV .non x
  | .bool b => eqV (.bl b) x
  | .int i _ => eqV (.int i) x
  | .str z _ => eqV (.str z) x
  | _ => false
theorem eqU_of {x y : V} {u : Value} (r : RelV y u) (f : flatV y = true) : eqU x u = eqV y x := by
  cases y with
  | non => cases r; rfl
  | bl b => cases r; rfl
  | int i => obtain ⟨t, rfl⟩ := r; rfl
  | str z => obtain ⟨t, rfl⟩ := r; rfl
  | _ => exact absurd (show false = true from f) Bool.false_ne_true
theorem mem_eqAt {A : Around} {s : Shared} {x : V} {v : Value} (rx : RelV x v) (fx : flatV x = true) : ∀ {xs : List V} {us : List Value}, Vals xs us → xs.all flatV = true → ∀ u ∈ us, SeqAt.EqAt A s u v (eqU x u)
  | _, _, .nil, _ => fun u hu => by cases hu
  | y :: xs, u :: us, .cons r t, f => fun u' hu => by
    rw [List.all_cons, Bool.and_eq_true] at f
    rcases List.mem_cons.mp hu with rfl | hu
    · rw [eqU_of r f.1]; exact eqAt_V r rx f.1 fx
    · exact mem_eqAt rx fx t f.2 u' hu
theorem call_len_seq : CallR X (.builtin "len") (fun xs H Q => ∃ p ys, xs = [.ref p] ∧ (SqL X.K H p ys ∨ SqT X.K H p ys) ∧ Q (.int ys.length) H) := by
  intro pins s σ H xs us Q I r h
  obtain ⟨p, ys, rfl, hq, q⟩ := h
  obtain ⟨u, rfl, rx⟩ := vals1 r
  cases rx
  have hn := line63
  rcases hq with hq | hq
  · obtain ⟨its, r', pl, hz⟩ := I.list hq
    have hlen := r'.length
    exact Calls.call_len_list pl.isList (by simp only [List.size_toArray] <;> (first | lia | omega)) ⟨.int ys.length, H, I.tok _, ⟨s.toks + 1, by rw [List.size_toArray, hlen]⟩, q⟩
  · obtain ⟨its, r', pl, hz⟩ := I.tuple hq
    have hlen := r'.length
    exact len_tuple pl (by simp only [List.size_toArray] <;> (first | lia | omega)) ⟨.int ys.length, H, I.tok _, ⟨s.toks + 1, by rw [List.size_toArray, hlen]⟩, q⟩
theorem call_list_of : CallR X (.type "list") (fun xs H Q => ∃ p ys, xs = [.ref p] ∧ (SqL X.K H p ys ∨ SqT X.K H p ys) ∧ ∀ l, H l = none → Q (.ref l) (upd H l (.lst ys))) := by
  intro pins s σ H xs us Q I r h
  obtain ⟨p, ys, rfl, hq, q⟩ := h
  obtain ⟨u, rfl, rx⟩ := vals1 r
  cases rx
  have fin : ∀ (its : List Value), Vals ys its → ys.length ≤ sizeLine → ∀ (h' : Heap) (c' : Nat), (∀ b o', s.heap.get? b = some o' → h'.get? b = some o') →
      h'.get? s.heap.objs.size = some { cls := .type "list", dict := none, data := .seq its.toArray c', slots := #[] } → EP X pins σ Q (.ref s.heap.objs.size) { s with heap := h' } := fun its r' hz h' c' kp e =>
    ⟨.ref s.heap.objs.size, _, I.laid (t' := s.toks) kp (Nat.le_refl _) (show ObjOk X.prog X.w _ h' _ (.lst ys) from ⟨hz, its, c', r', e⟩), rfl, q _ (I.hok.fresh (Nat.le_refl _))⟩
  rcases hq with hq | hq
  · obtain ⟨its, r', pl, hz⟩ := I.list hq
    have hlen := r'.length
    obtain ⟨o, ho, hc, n, hd⟩ := pl.isList
    exact call_list_seq p (.inl rfl) ho hc hd (fun h' c' kp e => fin its r' hz h' c' kp e) (by simp only [List.size_toArray] <;> (first | lia | omega))
  · obtain ⟨its, r', pl, hz⟩ := I.tuple hq
    have hlen := r'.length
    obtain ⟨o, ho, hc, n, hd⟩ := pl
    exact call_list_seq p (.inr rfl) ho hc hd (fun h' c' kp e => fin its r' hz h' c' kp e) (by simp only [List.size_toArray] <;> (first | lia | omega))
theorem call_tuple_of : CallR X (.type "tuple") (fun xs H Q => ∃ p ys, xs = [.ref p] ∧ ((SqL X.K H p ys ∧ ∀ l, H l = none → Q (.ref l) (upd H l (.tup ys))) ∨ (SqT X.K H p ys ∧ Q (.ref p) H))) := by
  intro pins s σ H xs us Q I r h
  obtain ⟨p, ys, rfl, h⟩ := h
  obtain ⟨u, rfl, rx⟩ := vals1 r
  cases rx
  rcases h with ⟨hq, q⟩ | ⟨hq, q⟩
  · obtain ⟨its, r', pl, hz⟩ := I.list hq
    have hlen := r'.length
    refine call_tuple_list pl.isList (fun h' kp => ?_) (by simp only [List.size_toArray] <;> (first | lia | omega))
    have I1 : Inv X pins σ H { s with heap := h' } := I.kept (t' := s.toks) kp
    have I2 : Inv X pins σ (upd H h'.objs.size (.tup ys)) { s with heap := h'.push { cls := .type "tuple", data := .seq its.toArray } } :=
      I1.laid (t' := s.toks) (fun b o e => Heap.get?_push_of_some _ e) (Nat.le_refl _) (show ObjOk X.prog X.w _ _ _ (.tup ys) from ⟨hz, its, r', TupP.new _ _⟩)
    exact ⟨.ref h'.objs.size, _, I2, rfl, q _ (I1.hok.fresh (Nat.le_refl _))⟩
  · obtain ⟨its, r', pl, hz⟩ := I.tuple hq
    exact call_tuple_same pl ⟨.ref p, H, I, rfl, q⟩
def tyV (K : PySem.W.Frag) (T : String) (x : V) (H : Hp) : Prop := match x with
  | .str _ => T = "str"
  | .int _ => T = "int"
  | .ref p => (T = "list" ∧ ∃ xs, SqL K H p xs) ∨ (T = "tuple" ∧ ∃ o, K.lookup p = some o ∧ o.cls = .type "tuple" ∧ o.dict = none) ∨
      (T = "dict" ∧ ((∃ kvs, H p = some (.dK kvs)) ∨ ∃ kvs, H p = some (.dT kvs))) ∨ (T = "set" ∧ ∃ S n, H p = some (.set S n))
  | _ => False
theorem tyV_is {pins : List (Addr × Obj)} {σ : St} {H : Hp} {s : Shared} {T : String} {x : V} {v : Value} (I : Inv X pins σ H s) (r : RelV x v) (ty : tyV X.K T x H) :
    s.TypeIs v T ∧ ∀ a, v = .ref a → ∃ ob, s.heap.get? a = some ob ∧ ob.dict = none := by
  cases x with
  | str z =>
    obtain ⟨t, rfl⟩ := r
    cases (show T = "str" from ty)
    exact ⟨typeIs_str s z t, fun _ e => nomatch e⟩
  | int i =>
    obtain ⟨t, rfl⟩ := r
    cases (show T = "int" from ty)
    exact ⟨typeIs_int s i t, fun _ e => nomatch e⟩
  | ref p =>
    cases r
    rcases ty with ⟨rfl, xs, hq⟩ | ⟨rfl, o, hk, hc, hd⟩ | ⟨rfl, hk⟩ | ⟨rfl, S, n, hk⟩
    · obtain ⟨its, _, pl, _⟩ := I.list hq
      refine ⟨pl.isList.typeIs, fun a e => ?_⟩
      cases e
      obtain ⟨o, n, e, c, hd, _⟩ := pl
      exact ⟨o, e, hd⟩
    · refine ⟨⟨o, I.kIn p o hk, hc⟩, fun a e => ?_⟩
      cases e
      exact ⟨o, I.kIn _ o hk, hd⟩
    · have z : ∃ o, s.heap.get? p = some o ∧ o.ExactDict := by
        rcases hk with ⟨kvs, hk⟩ | ⟨kvs, hk⟩
        · obtain ⟨_, _, _, _, o, _, _, e, ex, _⟩ := I.hok p _ hk
          exact ⟨o, e, ex⟩
        · obtain ⟨_, _, _, _, o, _, _, e, ex, _⟩ := I.hok p _ hk
          exact ⟨o, e, ex⟩
      obtain ⟨o, e, ex⟩ := z
      refine ⟨⟨o, e, ex.1⟩, fun a e2 => ?_⟩
      cases e2
      exact ⟨o, e, ex.2.1⟩
    · obtain ⟨o, _, _, _, e, ex, _⟩ := I.hok p _ hk
      refine ⟨⟨o, e, ex.1⟩, fun a e2 => ?_⟩
      cases e2
      exact ⟨o, e, ex.2.1⟩
  | _ => exact False.elim ty
def tBM0 (K : PySem.W.Frag) (T : String) (r : V → List V → Hp → VK → Prop) (to : TE) : TE := fun σ H Q => to σ H fun x H1 => tyV K T x H1 ∧ r x [] H1 Q
def tBM (K : PySem.W.Frag) (T : String) (r : V → List V → Hp → VK → Prop) (to : TE) (t : TA) : TE := fun σ H Q => to σ H fun x H1 => tyV K T x H1 ∧ t σ H1 fun xs H2 => r x xs H2 Q
variable {o e : Expr} {es : List Expr} {to : TE} {t : TA} {name : Str} {apos cpos : Pos} {T id : String} {r : V → List V → Hp → VK → Prop}
theorem pe_bm0 (pa : PlainAttrs T) (slot : Slot T name id) (hty : typeOf (.builtin id) = pure (.type "method_descriptor")) (hm : MtR X id r) (ho : PE X o to)
    (hbase : attributeBase o name X.env (eval o X.env) = eval o X.env := by rfl) (hline : (apos.endLine == cpos.line) = true := by rfl) : PE X (.Call (.Attribute o name apos) [] [] cpos) (tBM0 X.K T r to) := by
  intro pins s σ H Q I h
  refine wpAny_Call_method0_late hbase hline (thn (ho pins s σ H _ I h) fun v s1 ⟨x, H1, I1, r1, ty, q1⟩ => ?_)
  obtain ⟨h1, h2⟩ := tyV_is I1 r1 ty
  exact ⟨T, id, pa, slot, hty, h1, h2, Calls.callWith_builtin rfl (PySem.evalArgs_none (hm pins s1 σ H1 x [] v [] Q I1 r1 .nil q1))⟩
theorem pe_bm (pa : PlainAttrs T) (slot : Slot T name id) (hty : typeOf (.builtin id) = pure (.type "method_descriptor")) (hm : MtR X id r) (ho : PE X o to) (ha : PA X (e :: es) t)
    (hbase : attributeBase o name X.env (eval o X.env) = eval o X.env := by rfl)
    (hfew : ((backTo cpos (starEach (e :: es) X.env)).all (fun x => !x.1) && (backToKw cpos (keywordEach [] X.env)).all (fun x => x.1.isSome)
      && decide ((e :: es).length + ([] : List Keyword).length + (if ([] : List Keyword).isEmpty then 0 else 1) < 30)) = true := by rfl)
    (hline : (apos.endLine == cpos.line) = true := by rfl) (hs : starEach (e :: es) X.env = (false, eval e X.env) :: starEach es X.env := by rfl) (hplain : (backTo cpos (starEach es X.env)).any (·.1) = false := by rfl) :
    PE X (.Call (.Attribute o name apos) (e :: es) [] cpos) (tBM X.K T r to t) := by
  intro pins s σ H Q I h
  refine wpAny_Call_method_late hbase hfew hline rfl (thn (ho pins s σ H _ I h) fun v s1 ⟨x, H1, I1, r1, ty, q1⟩ => ?_)
  obtain ⟨h1, h2⟩ := tyV_is I1 r1 ty
  refine ⟨T, id, pa, slot, hty, h1, h2, ?_⟩
  have hA := ha cpos pins s1 σ H1 _ I1 q1
  rw [hs] at hA ⊢
  refine Calls.callWith_builtin (by show (false || (backTo cpos (starEach es X.env)).any (·.1)) = false; rw [hplain] <;> rfl) (Calls.evalArgs_plain ?_)
  exact thn hA fun us s2 ⟨vs, H2, I2, r2, q2⟩ => hm pins s2 σ H2 x vs v us Q I2 r1 r2 q2
/- xs.append(e), list.index on a module's tuple .. are MtR facts of 06m -/
end
end L2
namespace L2
open PySem PySem.Spec PyProof.Rows
def MtM (X : Cx) (id : String) (r : V → List V → Hp → VK → Prop) : Prop :=
  ∀ (pins : List (Addr × Obj)) (s : Shared) (σ : St) (H : Hp) (x : V) (xs : List V) (v : Value) (us : List Value) (Q : VK), Inv X pins σ H s → RelV x v → Vals xs us → r x xs H Q →
    wpAny (model X.prog X.w) X.A (call (.builtin id) (v :: us)) (EP X pins σ Q) X.xe s
theorem Vals.one : ∀ {x : V} {us : List Value}, Vals [x] us → ∃ u, us = [u] ∧ RelV x u
  | _, _, .cons r .nil => ⟨_, rfl, r⟩
theorem Vals.two : ∀ {x y : V} {us : List Value}, Vals [x, y] us → ∃ u v, us = [u, v] ∧ RelV x u ∧ RelV y v
  | _, _, _, .cons r (.cons q .nil) => ⟨_, _, rfl, r, q⟩
theorem Vals.zero : ∀ {us : List Value}, Vals [] us → us = []
  | _, .nil => rfl
theorem Vals.eraseIdx : ∀ {xs : List V} {us : List Value} (i : Nat), Vals xs us → Vals (xs.eraseIdx i) (us.eraseIdx i)
  | _, _, _, .nil => .nil
  | _, _, 0, .cons _ t => t
  | _, _, i + 1, .cons r t => .cons r (Vals.eraseIdx i t)
theorem Vals.rep {xs : List V} {us : List Value} (h : Vals xs us) : ∀ k : Nat, Vals (List.replicate k xs).flatten (List.replicate k us).flatten
  | 0 => .nil
  | k + 1 => by
    rw [List.replicate_succ, List.replicate_succ, List.flatten_cons, List.flatten_cons]
    exact Vals.append h (Vals.rep h k)
theorem len_erase {α : Type} : ∀ (l : List α) (i : Nat), (l.eraseIdx i).length ≤ l.length
  | [], _ => Nat.le_refl _
  | _ :: _, 0 => Nat.le_succ _
  | _ :: r, i + 1 => Nat.succ_le_succ (len_erase r i)
theorem foldl_rep (its : List Value) : ∀ (k : Nat) (acc : List Value),
    List.foldl (fun x1 x2 => x1 ++ x2) acc.toArray (List.replicate k its.toArray) = (acc ++ (List.replicate k its).flatten).toArray
  | 0, acc => by simp
  | k + 1, acc => by
    have e : acc.toArray ++ its.toArray = (acc ++ its).toArray := by simp
    have e2 : (acc ++ its) ++ (List.replicate k its).flatten = acc ++ (List.replicate (k + 1) its).flatten := by
      rw [List.replicate_succ, List.flatten_cons, List.append_assoc]
    rw [← e2, ← foldl_rep its k (acc ++ its), ← e, List.replicate_succ, List.foldl_cons]
section
variable {X : Cx} {pins : List (Addr × Obj)} {σ : St} {H : Hp} {s : Shared} {l b : Addr} {xs ys zs : List V}
theorem Inv.lset {its its' : List Value} {n : Nat} {f : Array Value → Array Value} {t' : Nat} (I : Inv X pins σ H s) (hH : H l = some (.lst xs))
    (e : s.heap.get? l = some { cls := .type "list", data := .seq its.toArray n }) (hf : f its.toArray = its'.toArray) (hv : Vals ys its') (hz : ys.length ≤ sizeLine) :
    Inv X pins σ (upd H l (.lst ys)) { s with heap := s.heap.update l (Obj.mapSeq f), toks := t' } := by
  have q := PySem.IsL.update e f
  rw [hf] at q
  refine I.write (x := l) (e := l) (by rw [hH]; exact trivial) (.inl rfl) (fun b' u hb hu => (Heap.get?_update_other s.heap (Obj.mapSeq f) (Ne.symm hb)).trans hu) ⟨_, q⟩ ?_
  exact ⟨hz, its', _, hv, q⟩
theorem Inv.lnew {its : List Value} {t' : Nat} (I : Inv X pins σ H s) (hv : Vals ys its) (hz : ys.length ≤ sizeLine) :
    Inv X pins σ (upd H s.heap.objs.size (.lst ys)) { s with heap := s.heap.push { cls := .type "list", data := .seq its.toArray }, toks := t' } :=
  I.laid (fun _ _ q => Heap.get?_push_of_some _ q) (Nat.le_refl _) ⟨hz, its, 0, hv, Heap.get?_push_size _ rfl⟩
theorem Inv.fresh (I : Inv X pins σ H s) : H s.heap.objs.size = none := I.hok.fresh (Nat.le_refl _)
theorem Inv.lstM (I : Inv X pins σ H s) (hH : H l = some (.lst xs)) : xs.length ≤ sizeLine ∧ ∃ (its : List Value) (n : Nat), Vals xs its ∧ xs.length = its.length ∧ s.heap.get? l = some { cls := .type "list", data := .seq its.toArray n } := by
  obtain ⟨z, its, n, r, e⟩ := I.hok l _ hH
  exact ⟨z, its, n, r, r.length, e⟩
theorem notLongL {n : Nat} (h : n ≤ sizeLine) : Builtin.List.listTooLong n = false := by
  unfold Builtin.List.listTooLong
  exact decide_eq_false (by (first | lia | omega))
end
section
variable {X : Cx}
def rAppend : V → List V → Hp → VK → Prop := fun x vs H Q => ∃ l xs y, x = .ref l ∧ vs = [y] ∧ H l = some (.lst xs) ∧ xs.length < sizeLine ∧ Q .non (upd H l (.lst (xs ++ [y])))
theorem mt_append : MtM X "list.append" rAppend := by
  intro pins s σ H x vs v us Q I rx rv h
  obtain ⟨l, xs, y, rfl, rfl, hH, hz, q⟩ := h
  cases rx
  obtain ⟨u, rfl, ru⟩ := rv.one
  obtain ⟨z, its, n, r, hl, e⟩ := I.lstM hH
  refine call_meets F.slot_list_append ⟨_, e, rfl⟩ F.entry_list_append (F.args_list_append_2 _ _) (PySem.list_append l its.toArray n u (by rw [List.size_toArray]; (first | lia | omega))) ⟨e, ?_⟩
  refine ⟨.non, _, I.lset (its' := its ++ [u]) hH e (by simp) (r.append (.cons ru .nil)) ?_, rfl, q⟩
  rw [List.length_append, List.length_singleton]
  (first | lia | omega)
def rExtend : V → List V → Hp → VK → Prop := fun x vs H Q => ∃ l b xs zs, x = .ref l ∧ vs = [.ref b] ∧ H l = some (.lst xs) ∧ H b = some (.lst zs) ∧ xs.length + zs.length ≤ sizeLine ∧ Q .non (upd H l (.lst (xs ++ zs)))
theorem mt_extend : MtM X "list.extend" rExtend := by
  intro pins s σ H x vs v us Q I rx rv h
  obtain ⟨l, b, xs, zs, rfl, rfl, hH, hB, hz, q⟩ := h
  cases rx
  obtain ⟨u, rfl, ru⟩ := rv.one
  cases ru
  obtain ⟨z, its, n, r, hl, e⟩ := I.lstM hH
  obtain ⟨z2, its2, n2, r2, hl2, e2⟩ := I.lstM hB
  have hsz : its.toArray.size + its2.toArray.size ≤ sizeLine := by rw [List.size_toArray, List.size_toArray]; (first | lia | omega)
  have hlong : ¬ (!its.toArray.isEmpty && Builtin.List.listTooLong (its.toArray.size + its2.toArray.size)) = true := by
    rw [notLongL hsz, Bool.and_false]
    exact Bool.false_ne_true
  refine call_meets F.slot_list_extend ⟨_, e, rfl⟩ F.entry_list_extend (F.args_list_extend_2 _ _)
    (AutoSeq1.list_extend_list_list_0 l its.toArray n b its2.toArray n2 hlong (by rw [List.size_toArray]; (first | lia | omega)) (by (first | lia | omega))) ⟨e, e2, ?_⟩
  refine ⟨.non, _, I.lset (its' := its ++ its2) hH e (by simp) (r.append r2) ?_, rfl, q⟩
  rw [List.length_append]
  (first | lia | omega)
def rPopAt : V → List V → Hp → VK → Prop := fun x vs H Q => ∃ l xs i k y, x = .ref l ∧ vs = [.int i] ∧ H l = some (.lst xs) ∧ -(2 ^ 63) ≤ i ∧ i < 2 ^ 63 ∧ seqIndex? i xs.length = some k ∧ xs[k]? = some y ∧ Q y (upd H l (.lst (xs.eraseIdx k)))
theorem mt_popAt : MtM X "list.pop" rPopAt := by
  intro pins s σ H x vs v us Q I rx rv h
  obtain ⟨l, xs, i, k, y, rfl, rfl, hH, h1, h2, hk, hy, q⟩ := h
  cases rx
  obtain ⟨u, rfl, ru⟩ := rv.one
  obtain ⟨t, rfl⟩ := ru
  obtain ⟨z, its, n, r, hl, e⟩ := I.lstM hH
  obtain ⟨w, hw, rw'⟩ := r.get hy
  refine call_meets F.slot_list_pop ⟨_, e, rfl⟩ F.entry_list_pop (F.args_list_pop_2 _ _)
    (MeetsSeq.list_pop_at l its.toArray n i t k w (fitsIndex_both h1 h2) (by rw [List.size_toArray, ← hl]; exact hk) (by rw [← Array.getElem?_toList]; exact hw) (by rw [List.size_toArray]; (first | lia | omega))) ⟨e, ?_⟩
  refine ⟨y, _, I.lset (its' := its.eraseIdx k) hH e ?_ (r.eraseIdx k) ?_, rw', q⟩
  · show its.toArray.eraseIdxIfInBounds k = (its.eraseIdx k).toArray
    rw [List.eraseIdxIfInBounds_toArray]
  · have := len_erase xs k
    (first | lia | omega)
def rClear : V → List V → Hp → VK → Prop := fun x vs H Q => ∃ l xs, x = .ref l ∧ vs = [] ∧ H l = some (.lst xs) ∧ Q .non (upd H l (.lst []))
theorem mt_clear : MtM X "list.clear" rClear := by
  intro pins s σ H x vs v us Q I rx rv h
  obtain ⟨l, xs, rfl, rfl, hH, q⟩ := h
  cases rx
  have hus := rv.zero
  subst hus
  obtain ⟨z, its, n, r, hl, e⟩ := I.lstM hH
  refine call_meets F.slot_list_clear ⟨_, e, rfl⟩ F.entry_list_clear (F.args_list_clear_1 _) (AutoSeq1.list_clear_list_0 l its.toArray n (by rw [List.size_toArray]; (first | lia | omega))) ⟨e, ?_⟩
  exact ⟨.non, _, I.lset (its' := []) (ys := []) hH e rfl .nil (Nat.zero_le _), rfl, q⟩
def rCat : R2 := fun x y H Q => ∃ l b xs zs, x = .ref l ∧ y = .ref b ∧ H l = some (.lst xs) ∧ H b = some (.lst zs) ∧ xs.length + zs.length ≤ sizeLine ∧ ∀ p, H p = none → Q (.ref p) (upd H p (.lst (xs ++ zs)))
theorem op_cat : OpR X (binaryOp .Add) rCat := by
  intro pins s σ H x y v u Q I rx ry h
  obtain ⟨l, b, xs, zs, rfl, rfl, hH, hB, hz, q⟩ := h
  cases rx
  cases ry
  obtain ⟨z, its, n, r, hl, e⟩ := I.lstM hH
  obtain ⟨z2, its2, n2, r2, hl2, e2⟩ := I.lstM hB
  refine PySem.P.add_list e e2 ?_ (by rw [List.size_toArray, List.size_toArray]; (first | lia | omega))
  have ea : its.toArray ++ its2.toArray = (its ++ its2).toArray := by simp
  rw [ea]
  exact ⟨.ref _, _, I.lnew (t' := s.toks) (r.append r2) (by rw [List.length_append]; (first | lia | omega)), rfl, q _ I.fresh⟩
def rRep : R2 := fun x y H Q => ∃ l k xs, x = .ref l ∧ y = .int k ∧ H l = some (.lst xs) ∧ -(2 ^ 63) ≤ k ∧ k < 2 ^ 63 ∧ xs.length * k.toNat ≤ sizeLine ∧
  ∀ p, H p = none → Q (.ref p) (upd H p (.lst (List.replicate k.toNat xs).flatten))
theorem len_rep {α : Type} (xs : List α) (k : Nat) : (List.replicate k xs).flatten.length = k * xs.length := by
  induction k with
  | zero => simp
  | succ k ih => rw [List.replicate_succ, List.flatten_cons, List.length_append, ih, Nat.succ_mul, Nat.add_comm]
theorem op_rep : OpR X (binaryOp .Mult) rRep := by
  intro pins s σ H x y v u Q I rx ry h
  obtain ⟨l, k, xs, rfl, rfl, hH, h1, h2, hz, q⟩ := h
  cases rx
  obtain ⟨t, rfl⟩ := ry
  obtain ⟨z, its, n, r, hl, e⟩ := I.lstM hH
  have hlen : its.toArray.size * k.toNat ≤ sizeLine := by rw [List.size_toArray, ← hl]; exact hz
  have hcap : ¬ its.toArray.size * k.toNat > (2 ^ 63 - 1) / 8 := by
    have : (sizeLine : Nat) ≤ (2 ^ 63 - 1) / 8 := by decide
    (first | lia | omega)
  have hfit : ¬ (!Builtin.List.listFitsIndex k) = true := by
    rw [fitsIndex_both h1 h2]
    exact Bool.false_ne_true
  have hlong : ¬ Builtin.List.listTooLong (its.toArray.size * k.toNat) = true := by
    rw [notLongL hlen]
    exact Bool.false_ne_true
  have hnew : List.foldl (fun x1 x2 => x1 ++ x2) #[] (List.replicate (if its.toArray.isEmpty = true then 0 else k.toNat) its.toArray) = (List.replicate k.toNat its).flatten.toArray := by
    have f0 : ∀ m : Nat, List.foldl (fun x1 x2 => x1 ++ x2) #[] (List.replicate m its.toArray) = (List.replicate m its).flatten.toArray := fun m => by
      have := foldl_rep its m []
      rw [List.nil_append] at this
      exact this
    rw [f0]
    cases its with
    | nil => simp
    | cons a r' => rw [if_neg (by simp)]
  refine wpAny_binaryOp_repeat_ref (T := "list") (U := "int") (by decide) ⟨_, e, rfl⟩ (fun s' => typeIs_int s' k t) noFill_list_mul F.fills_int_mul F.slot_int_rmul repeat_list F.slot_int_index.lookup
    (call_meets F.slot_int_rmul (typeIs_int s k t) F.entry_int_rmul (F.args_int_rmul_2 _ _) (int___rmul___int_list k t l its.toArray n)
      ⟨e, rfl, ⟨_, e, rfl⟩, call_meets F.slot_list_mul ⟨_, e, rfl⟩ F.entry_list_mul (F.args_list_mul_2 _ _) (AutoListH.list___mul___list_int_3 l its.toArray n k t hfit hcap hlong) ⟨e, ?_⟩⟩)
  rw [hnew]
  exact ⟨.ref _, _, I.lnew (t' := s.toks) (r.rep k.toNat) (by rw [len_rep, Nat.mul_comm]; exact hz), rfl, q _ I.fresh⟩
end
section
variable {prog : Program} {w : World} {A : Around} {E : Value → Shared → Prop} {s : Shared}
theorem bounds_run {a c n : Nat} (hac : a ≤ c) (hc : c ≤ n) : sliceBounds (some (a : Int)) (some (c : Int)) none n = ((a : Int), (c : Int), 1) := by
  simp only [sliceBounds, Option.getD_none]
  have h1 : ¬ ((a : Int) < 0) := by (first | lia | omega)
  have h2 : ¬ ((c : Int) < 0) := by (first | lia | omega)
  simp only [h1, h2, if_false, show (1 : Int) > 0 by decide, if_true]
  congr 1
  · (first | lia | omega)
  · congr 1; (first | lia | omega)
set_option maxRecDepth 100000 in
theorem setItem_slice {l b sl : Addr} {items new : Array Value} {n n2 : Nat} {vl vu : Value} {a c : Nat} {Q : Unit → Shared → Prop}
    (e : s.heap.get? l = some { cls := .type "list", data := .seq items n }) (e2 : s.heap.get? b = some { cls := .type "list", data := .seq new n2 }) (hne : l ≠ b)
    (hs : s.heap.IsSliceOf sl vl vu .none) (pl : IsPart vl (some (a : Int))) (pu : IsPart vu (some (c : Int))) (hac : a ≤ c) (hc : c ≤ items.size)
    (hsz : items.size + new.size ≤ sizeLine) (h : Q () { s with heap := s.heap.update l (Obj.mapSeq fun xs => xs.extract 0 a ++ new ++ xs.extract c xs.size) }) :
    wpAny (model prog w) A (setItem (.ref l) (.ref sl) (.ref b)) Q E s := by
  have hl : s.heap.IsList l items := PySem.IsL.isList e
  have hb : s.heap.IsList b new := PySem.IsL.isList e2
  obtain ⟨os, hos, hcs, hds⟩ := id hs
  have hTs : s.TypeIs (.ref sl) "slice" := ⟨os, hos, hcs⟩
  have hstep : ¬ ((rawPart none == rawInt 0) = true) := Bool.false_ne_true
  have hsame : Builtin.List.listSameRef (.ref l) (.ref b) = false := by
    unfold Builtin.List.listSameRef
    exact beq_eq_false_iff_ne.mpr hne
  have hmax : (max (a : Int) (c : Int)).toNat = c := by (first | lia | omega)
  have hz' : ((fun xs : Array Value => xs.extract 0 a ++ new ++ xs.extract c xs.size) items).size ≤ sizeLine + 1 := by
    simp only [Array.size_append, Array.size_extract]
    (first | lia | omega)
  unfold setItem
  try with_reducible refine wpAny_holding ?_
  first | refine wpAny_bind (wpAny_pure ?_) | skip
  refine wpAny_bind (wpAny_sequenceKey hl.typeIs (by decide) ?_)
  refine wpAny_bind (wpAny_callSpecial?_slot (name := Str.ofString "__setitem__") hl.typeIs slot_list_setitem
    (wpAny_call_entry slot_list_setitem hl.typeIs entry_list_setitem ?_ (args_list_setitem _ _ _)))
  show wpAny _ _ (Builtin.List.listSubscript? (.ref sl) >>= _) _ _ s
  refine wpAny_bind ?_
  unfold Builtin.List.listSubscript?
  refine wpAny_bind (wpAny_specialOf hTs slice_no_index ?_)
  simp only [Option.isNone_none, if_true]
  refine wpAny_pure ?_
  show wpAny _ _ (typeOf (.ref sl) >>= _) _ _ s
  refine wpAny_bind (wpAny_typeOf hTs ?_)
  first
    | rw [if_neg (by decide)]
    | refine PySem.W.KFB.if_not (by decide) ?_
  rw [listSliceParts_eq]
  refine wpAny_bind (wpAny_bind (wpAny_field hos hds (x := .none) rfl (wpAny_bind (wpAny_listPart .none ?_))))
  rw [if_neg hstep]
  refine wpAny_bind (wpAny_field hos hds (x := vl) rfl (wpAny_bind (wpAny_listPart pl ?_)))
  refine wpAny_bind (wpAny_field hos hds (x := vu) rfl (wpAny_bind (wpAny_listPart pu (wpAny_pure ?_))))
  first
    | simp only [hsame, Bool.false_eq_true, if_false]
    | refine PySem.W.KFB.if_not hsame ?_
    | (dsimp only
       rw [if_neg (by rw [hsame]; exact Bool.false_ne_true)])
  refine wpAny_bind (m := Builtin.List.listAllItems (.ref b) "must assign iterable to extended slice") ?_
  unfold Builtin.List.listAllItems
  refine wpAny_bind (wpAny_typeOf hb.typeIs ?_)
  first
    | refine PySem.W.KFB.if_so (by decide) ?_
    | rw [if_pos (by decide)]
    | simp only [beq_self_eq_true, Bool.true_or, if_true]
  unfold Builtin.List.listItems
  refine wpAny_bind (wpAny_seqItems e2 rfl (wpAny_pure ?_))
  refine wpAny_bind (wpAny_bind (wpAny_seqItems e rfl (wpAny_pure ?_)))
  refine wpAny_bind (wpAny_of_eq ((sliceIndices_raw (some (a : Int)) (some (c : Int)) none items.size (by simp)).trans (congrArg (pure : Int × Int × Int → Sem (Int × Int × Int)) (bounds_run hac hc))) ?_)
  show wpAny _ _ (if ((1 : Int) == 1) = true then _ else _) _ _ s
  rw [if_pos (by decide)]
  refine wpAny_bind (wpAny_rule ?_)
  first
    | simp only [notLongL hsz, Bool.false_eq_true, if_false]
    | refine PySem.W.KFB.if_not (notLongL hsz) ?_
  first | refine wpAny_bind (wpAny_pure ?_) | skip
  show wpAny _ _ (updateSeq l (fun xs => xs.extract 0 ((a : Int)).toNat ++ new ++ xs.extract (max (a : Int) (c : Int)).toNat xs.size) >>= _) _ _ s
  rw [hmax, Int.toNat_natCast]
  refine wpAny_bind (wpAny_updateSeq (hz := Nat.le_trans (Nat.le_add_right _ _) hsz) (_hz' := hz') e rfl ?_)
  refine wpAny_bind (wpAny_letGo ?_)
  first
    | exact wpAny_bind (wpAny_pure (wpAny_pure ⟨.none, rfl, wpAny_pure h⟩))
    | exact wpAny_pure ⟨.none, rfl, wpAny_pure h⟩
end
section
variable {X : Cx}
end
end L2
namespace L2
open PySem PySem.Spec PyProof.Rows
section
variable {κ : Type} [DecidableEq κ]
def valV (kvs : List (κ × V)) (k : κ) : Option V := (kvs.find? fun kv => decide (kv.1 = k)).map (·.2)
def putK (kvs : List (κ × V)) (k : κ) (v : V) : List (κ × V) :=
  if (kvs.any fun kv => decide (kv.1 = k)) = true then kvs.map (fun kv => if kv.1 = k then (kv.1, v) else kv) else kvs ++ [(k, v)]
theorem valV_pos {p : κ × V} {r : List (κ × V)} {k : κ} (e : p.1 = k) : valV (p :: r) k = some p.2 := by simp [valV, List.find?_cons, e]
theorem valV_neg {p : κ × V} {r : List (κ × V)} {k : κ} (e : ¬ p.1 = k) : valV (p :: r) k = valV r k := by simp [valV, List.find?_cons, e]
theorem valV_any (k : κ) : ∀ kvs : List (κ × V), (kvs.any fun kv => decide (kv.1 = k)) = (valV kvs k).isSome
  | [] => rfl
  | p :: r => by
    rw [List.any_cons]
    by_cases e : p.1 = k
    · simp only [valV_pos e, decide_eq_true e, Bool.true_or, Option.isSome_some]
    · rw [valV_neg e, decide_eq_false e, Bool.false_or]; exact valV_any k r
theorem length_putK (kvs : List (κ × V)) (k : κ) (v : V) : (putK kvs k v).length ≤ kvs.length + 1 := by
  unfold putK
  split
  · rw [List.length_map]; (first | lia | omega)
  · rw [List.length_append, List.length_cons, List.length_nil]; (first | lia | omega)
theorem putK_new {kvs : List (κ × V)} {k : κ} (v : V) (h : valV kvs k = none) : putK kvs k v = kvs ++ [(k, v)] := by
  unfold putK
  rw [valV_any, h]
  exact if_neg (by decide)
theorem RelO.isSome_eq {o : Option V} {u : Option Value} (r : RelO o u) : o.isSome = u.isSome := by
  cases o with
  | none => cases u with
    | none => rfl
    | some _ => exact (show False from r).elim
  | some _ => cases u with
    | none => exact (show False from r).elim
    | some _ => rfl
theorem KV.val {kvs : List (κ × V)} {vs : List (κ × Value)} (r : KV kvs vs) (k : κ) : RelO (valV kvs k) (valueAt vs k) := by
  unfold KV at r
  induction r with
  | nil => exact True.intro
  | @cons p q ps qs h t ih =>
    obtain ⟨h1, h2⟩ := h
    by_cases e : p.1 = k
    · have e' : q.1 = k := h1.symm.trans e
      have b : valueAt (q :: qs) k = some q.2 := by simp [valueAt, List.find?_cons, e']
      rw [valV_pos e, b]; exact h2
    · have e' : ¬ q.1 = k := fun z => e (h1.trans z)
      have b : valueAt (q :: qs) k = valueAt qs k := by simp [valueAt, List.find?_cons, e']
      rw [valV_neg e, b]; exact ih
theorem KV.any {kvs : List (κ × V)} {vs : List (κ × Value)} (r : KV kvs vs) (k : κ) : (kvs.any fun kv => decide (kv.1 = k)) = vs.any fun kv => decide (kv.1 = k) := by
  unfold KV at r
  induction r with
  | nil => rfl
  | cons h t ih => rw [List.any_cons, List.any_cons, ih, h.1]
theorem KV.repl {kvs : List (κ × V)} {vs : List (κ × Value)} (r : KV kvs vs) (k : κ) {y : V} {u : Value} (ry : RelV y u) :
    KV (kvs.map fun kv => if kv.1 = k then (kv.1, y) else kv) (vs.map fun kv => if kv.1 = k then (kv.1, u) else kv) := by
  unfold KV at r ⊢
  induction r with
  | nil => exact .nil
  | @cons p q ps qs h t ih =>
    rw [List.map_cons, List.map_cons]
    refine .cons ?_ ih
    obtain ⟨h1, h2⟩ := h
    by_cases e : p.1 = k
    · rw [if_pos e, if_pos (h1.symm.trans e)]; exact ⟨h1, ry⟩
    · rw [if_neg e, if_neg (fun z => e (h1.trans z))]; exact ⟨h1, h2⟩
theorem KV.put {kvs : List (κ × V)} {vs : List (κ × Value)} (r : KV kvs vs) (k : κ) {y : V} {u : Value} (ry : RelV y u) : KV (putK kvs k y) (stored vs k u) := by
  unfold putK stored
  rw [r.any k]
  by_cases e : (vs.any fun kv => decide (kv.1 = k)) = true
  · rw [if_pos e, if_pos e]; exact r.repl k ry
  · rw [if_neg e, if_neg e]; exact Paired.snoc r ⟨rfl, ry⟩
theorem KV.length {kvs : List (κ × V)} {vs : List (κ × Value)} (r : KV kvs vs) : kvs.length = vs.length := Paired.length r
end
theorem kV_is {P : Program} {w : World} {k : Key} {u : Value} (r : RelV (kV k) u) : (mixKind P w).is k u = true := by
  cases k with
  | inl i => obtain ⟨t, e⟩ := (show ∃ t, u = Value.int i t from r); subst e; exact mixKind_int P w i t
  | inr x => obtain ⟨t, e⟩ := (show ∃ t, u = Value.str x t from r); subst e; exact mixKind_str P w x t
theorem items_are {P : Program} {w : World} : ∀ {ks : List Key} {us : List Value}, Vals (ks.map kV) us → ItemsAre (mixKind P w) ks us
  | [], _, r => by rw [List.map_nil] at r; cases r; exact .nil
  | k :: ks, _, r => by
    rw [List.map_cons] at r
    cases r with
    | cons h t => exact .cons (kV_is h) (items_are t)
abbrev KT (H : Hp) : List (List Key × V) → List (List Key × Addr × Value) → Prop := Paired fun p q => p.1 = q.1 ∧ H q.2.1 = some (.tup (p.1.map kV)) ∧ RelV p.2 q.2.2
theorem KT.val {H : Hp} {kvs : List (List Key × V)} {xs : List (List Key × Addr × Value)} (r : KT H kvs xs) (k : List Key) : RelO (valV kvs k) ((atKey xs k).map (·.2)) := by
  induction r with
  | nil => exact True.intro
  | @cons p q ps qs h t ih =>
    obtain ⟨h1, _, h2⟩ := h
    by_cases e : p.1 = k
    · have e' : q.1 = k := h1.symm.trans e
      have b : atKey (q :: qs) k = some q.2 := by simp [atKey, List.find?_cons, e']
      rw [valV_pos e, b]; exact h2
    · have e' : ¬ q.1 = k := fun z => e (h1.trans z)
      have b : atKey (q :: qs) k = atKey qs k := by simp [atKey, List.find?_cons, e']
      rw [valV_neg e, b]; exact ih
theorem KT.repl {H : Hp} {kvs : List (List Key × V)} {xs : List (List Key × Addr × Value)} (r : KT H kvs xs) (k : List Key) {y : V} {u : Value} (ry : RelV y u) :
    KT H (kvs.map fun kv => if kv.1 = k then (kv.1, y) else kv) (xs.map (putAt k u)) := by
  induction r with
  | nil => exact .nil
  | @cons p q ps qs h t ih =>
    rw [List.map_cons, List.map_cons]
    refine .cons ?_ ih
    obtain ⟨h1, h2, h3⟩ := h
    unfold putAt
    by_cases e : p.1 = k
    · rw [if_pos e, if_pos (h1.symm.trans e)]; exact ⟨h1, h2, ry⟩
    · rw [if_neg e, if_neg (fun z => e (h1.trans z))]; exact ⟨h1, h2, h3⟩
theorem KT.put {H : Hp} {kvs : List (List Key × V)} {xs : List (List Key × Addr × Value)} (r : KT H kvs xs) (k : List Key) {b : Addr} {y : V} {u : Value} (hb : H b = some (.tup (k.map kV))) (ry : RelV y u) :
    KT H (putK kvs k y) (storedH xs k b u) := by
  have e : (kvs.any fun kv => decide (kv.1 = k)) = (atKey xs k).isSome := by
    rw [valV_any, (r.val k).isSome_eq, Option.isSome_map]
  unfold putK storedH
  rw [e]
  by_cases q : (atKey xs k).isSome = true
  · rw [if_pos q, if_pos q]; exact r.repl k ry
  · rw [if_neg q, if_neg q]; exact Paired.snoc r ⟨rfl, hb, ry⟩
theorem KT.keeps {H H' : Hp} {kvs : List (List Key × V)} {xs : List (List Key × Addr × Value)} (r : KT H kvs xs) (ht : ∀ b ys, H b = some (.tup ys) → H' b = some (.tup ys)) : KT H' kvs xs :=
  Paired.mapP r fun _ _ z => ⟨z.1, ht _ _ z.2.1, z.2.2⟩
section
variable {P : Program} {w : World} {H : Hp} {h : Heap} {a : Addr}
theorem rd_of {u : HO} (ok : HOk P w H h) (e : Rd H a u) : ObjOk P w H h a u := e.ok ok
theorem dk_rd {kvs : List (Key × V)} (ok : HOk P w H h) (e : Rd H a (.dK kvs)) : kvs.length ≤ sizeLine ∧ (a == sysModules) = false ∧ ∃ vs, KV kvs vs ∧ h.DictOf (mixKind P w) a vs :=
  show ObjOk P w H h a (.dK kvs) from rd_of ok e
theorem dk_of {kvs : List (Key × V)} (ok : HOk P w H h) (e : H a = some (.dK kvs)) : kvs.length ≤ sizeLine ∧ (a == sysModules) = false ∧ ∃ vs, KV kvs vs ∧ h.DictOf (mixKind P w) a vs := dk_rd ok (.inl e)
theorem key_of {ks : List Key} (ok : HOk P w H h) (e : H a = some (.tup (ks.map kV))) : (tupleKind (mixKind P w)).is h ks a := by
  obtain ⟨_, its, r, o, h1, h2, _, n, h3⟩ := (show ObjOk P w H h a (.tup (ks.map kV)) from ok a _ e)
  exact ⟨o, its.toArray, n, h1, h2, h3, by simpa using items_are r⟩
theorem dt_rd {kvs : List (List Key × V)} (ok : HOk P w H h) (e : Rd H a (.dT kvs)) : kvs.length ≤ sizeLine ∧ (a == sysModules) = false ∧
    ∃ xs, KT H kvs xs ∧ h.DictOfH (tupleKind (mixKind P w)) a xs := by
  obtain ⟨z, y, xs, r, o, es, ep, h1, h2, h3, h4, h5⟩ := (show ObjOk P w H h a (.dT kvs) from rd_of ok e)
  refine ⟨z, y, xs, r, o, es, ep, h1, h2, h3, h4, fun x hx => ?_, h5⟩
  have all : ∀ {l : List (List Key × V)} {m : List (List Key × Addr × Value)}, KT H l m → ∀ x ∈ m, (tupleKind (mixKind P w)).is h x.1 x.2.1 := by
    intro l m q
    induction q with
    | nil => intro x hx; exact nomatch hx
    | @cons p q ps qs hq t ih =>
      intro x hx
      rcases List.mem_cons.mp hx with e | hx
      · subst e
        exact key_of ok (by rw [← hq.1]; exact hq.2.1)
      · exact ih x hx
  exact all r x hx
theorem dt_of {kvs : List (List Key × V)} (ok : HOk P w H h) (e : H a = some (.dT kvs)) : kvs.length ≤ sizeLine ∧ (a == sysModules) = false ∧
    ∃ xs, KT H kvs xs ∧ h.DictOfH (tupleKind (mixKind P w)) a xs := dt_rd ok (.inl e)
end
def DGet (H : Hp) (a : Addr) (y : V) (r : Option V) : Prop :=
  (∃ kvs k, Rd H a (.dK kvs) ∧ y = kV k ∧ r = valV kvs k) ∨ ∃ kvs k b, Rd H a (.dT kvs) ∧ y = .ref b ∧ H b = some (.tup (k.map kV)) ∧ r = valV kvs k
def DPut (H : Hp) (a : Addr) (y v : V) (H' : Hp) : Prop :=
  (∃ kvs k, H a = some (.dK kvs) ∧ y = kV k ∧ kvs.length < sizeLine ∧ H' = upd H a (.dK (putK kvs k v))) ∨
  ∃ kvs k b, H a = some (.dT kvs) ∧ y = .ref b ∧ H b = some (.tup (k.map kV)) ∧ kvs.length < sizeLine ∧ H' = upd H a (.dT (putK kvs k v))
theorem DGet.k {H : Hp} {a : Addr} {kvs : List (Key × V)} {k : Key} (e : H a = some (.dK kvs)) : DGet H a (kV k) (valV kvs k) := .inl ⟨kvs, k, .inl e, rfl, rfl⟩
theorem DGet.t {H : Hp} {a b : Addr} {kvs : List (List Key × V)} {k : List Key} (e : H a = some (.dT kvs)) (eb : H b = some (.tup (k.map kV))) : DGet H a (.ref b) (valV kvs k) := .inr ⟨kvs, k, b, .inl e, rfl, eb, rfl⟩
theorem DPut.k {H : Hp} {a : Addr} {kvs : List (Key × V)} {k : Key} {v : V} (e : H a = some (.dK kvs)) (hl : kvs.length < sizeLine) : DPut H a (kV k) v (upd H a (.dK (putK kvs k v))) := .inl ⟨kvs, k, e, rfl, hl, rfl⟩
theorem DPut.t {H : Hp} {a b : Addr} {kvs : List (List Key × V)} {k : List Key} {v : V} (e : H a = some (.dT kvs)) (eb : H b = some (.tup (k.map kV))) (hl : kvs.length < sizeLine) :
    DPut H a (.ref b) v (upd H a (.dT (putK kvs k v))) := .inr ⟨kvs, k, b, e, rfl, eb, hl, rfl⟩
section
variable {X : Cx} {pins : List (Addr × Obj)} {σ : St} {H : Hp} {s : Shared} {a : Addr} {y v : V} {u r : Value} {o : Option V} {A : Around} {E : Value → Shared → Prop}
theorem Inv.big (I : Inv X pins σ H s) : sysModules < s.heap.objs.size := by
  have h : mainGlobals < s.heap.objs.size := (I.mod.glob.keeps I.bk).lt
  exact Nat.lt_trans (by decide) h
theorem d_in {Q : Value → Shared → Prop} (hu : A.units + 1 < cLine) (I : Inv X pins σ H s) (g : DGet H a y o) (ry : RelV y u) (h : ∀ s', Inv X pins σ H s' → Q (.bool o.isSome) s') :
    wpAny (model X.prog X.w) A (compareOp .In u (.ref a)) Q E s := by
  rcases g with ⟨kvs, k, e, ey, l⟩ | ⟨kvs, k, b, e, ey, eb, l⟩
  · subst ey
    obtain ⟨z, hd, vs, rel, dd⟩ := dk_rd I.hok e
    refine wpAny_in_of (kV_is ry) hd dd.mapOf ?_
    rw [← (rel.val k).isSome_eq, ← l]
    exact h _ (I.tok _)
  · subst ey
    cases (show u = Value.ref b from ry)
    obtain ⟨z, hd, xs, rel, dd⟩ := dt_rd I.hok e
    refine wpAny_in_heap (tupleKind_room_in1 hu) (key_of I.hok eb) hd dd ?_
    have q := (rel.val k).isSome_eq
    rw [Option.isSome_map] at q
    rw [← q, ← l]
    exact h _ (I.tok _)
theorem d_notIn {Q : Value → Shared → Prop} (hu : A.units + 1 < cLine) (I : Inv X pins σ H s) (g : DGet H a y o) (ry : RelV y u) (h : ∀ s', Inv X pins σ H s' → Q (.bool (!o.isSome)) s') :
    wpAny (model X.prog X.w) A (compareOp .NotIn u (.ref a)) Q E s := by
  rcases g with ⟨kvs, k, e, ey, l⟩ | ⟨kvs, k, b, e, ey, eb, l⟩
  · subst ey
    obtain ⟨z, hd, vs, rel, dd⟩ := dk_rd I.hok e
    refine wpAny_notIn_of (kV_is ry) hd dd.mapOf ?_
    rw [← (rel.val k).isSome_eq, ← l]
    exact h _ (I.tok _)
  · subst ey
    cases (show u = Value.ref b from ry)
    obtain ⟨z, hd, xs, rel, dd⟩ := dt_rd I.hok e
    refine wpAny_notIn_heap (tupleKind_room_in1 hu) (key_of I.hok eb) hd dd ?_
    have q := (rel.val k).isSome_eq
    rw [Option.isSome_map] at q
    rw [← q, ← l]
    exact h _ (I.tok _)
theorem d_write {h' : Heap} {t' : Nat} {ob : HO} (I : Inv X pins σ H s) (mu : Mut (H a)) (hs : Heap.SameBut a s.heap h') (he : ∃ q, h'.get? a = some q) (new : ObjOk X.prog X.w (upd H a ob) h' a ob) :
    Inv X pins σ (upd H a ob) { s with heap := h', toks := t' } :=
  I.write (x := a) (e := a) mu (.inl rfl) (fun b q hb z => (hs.2 b hb).trans z) he new
theorem dk_new {P : Program} {w : World} {H' : Hp} {h' : Heap} {kvs : List (Key × V)} {vs : List (Key × Value)} (z : kvs.length ≤ sizeLine) (hd : (a == sysModules) = false) (rel : KV kvs vs) (dd : h'.DictOf (mixKind P w) a vs) :
    ObjOk P w H' h' a (.dK kvs) := ⟨z, hd, vs, rel, dd⟩
theorem d_setItem {H' : Hp} {Q : Unit → Shared → Prop} (hu : A.units + 1 < cLine) (I : Inv X pins σ H s) (g : DPut H a y v H') (ry : RelV y u) (rv : RelV v r) (h : ∀ s', Inv X pins σ H' s' → Q () s') :
    wpAny (model X.prog X.w) A (setItem (.ref a) u r) Q E s := by
  rcases g with ⟨kvs, k, e, ey, l, eH⟩ | ⟨kvs, k, b, e, ey, eb, l, eH⟩
  · subst ey eH
    obtain ⟨z, hd, vs, rel, dd⟩ := dk_of I.hok e
    have hz : vs.length ≤ sizeLine := by rw [← rel.length]; exact z
    have hl : (putK kvs k v).length ≤ sizeLine := by have := length_putK kvs k v; (first | lia | omega)
    refine wpAny_setItem_pairs (hsz := hz) (kV_is ry) dd fun h' dd' hs => h _ ?_
    have he : ∃ q, h'.get? a = some q := let ⟨q, _, _, hq, _⟩ := dd'; ⟨q, hq⟩
    exact d_write I (by rw [e]; exact True.intro) hs he (dk_new hl hd (rel.put k rv) dd')
  · subst ey eH
    cases (show u = Value.ref b from ry)
    obtain ⟨z, hd, xs, rel, dd⟩ := dt_of I.hok e
    have hz : xs.length ≤ sizeLine := by rw [← Paired.length rel]; exact z
    have hl : (putK kvs k v).length ≤ sizeLine := by have := length_putK kvs k v; (first | lia | omega)
    refine wpAny_setItem_heap (hsz := hz) (tupleKind_room_in1 hu) (key_of I.hok eb) dd fun h' dd' hs => h _ ?_
    obtain ⟨q, es, ep, hq, h2, h3, h4, _, h5⟩ := dd'
    refine d_write I (by rw [e]; exact True.intro) hs ⟨q, hq⟩ ⟨hl, hd, _, (rel.put k eb rv).keeps fun c ys ec => ?_, q, es, ep, hq, h2, h3, h4, h5⟩
    rw [upd_ne (ne_of ec e (fun z => nomatch z))]
    exact ec
end
section
variable {X : Cx} {pins : List (Addr × Obj)} {σ : St} {H : Hp} {s : Shared} {a : Addr} {kvs : List (Key × V)} {k : Key} {u : Value} {A : Around} {E : Value → Shared → Prop}
end
def tDIn (ty td : TE) : TE := fun σ H Q => ty σ H fun y H1 => td σ H1 fun x H2 => ∃ a o, x = .ref a ∧ DGet H2 a y o ∧ Q (.bl o.isSome) H2
def tDNotIn (ty td : TE) : TE := fun σ H Q => ty σ H fun y H1 => td σ H1 fun x H2 => ∃ a o, x = .ref a ∧ DGet H2 a y o ∧ Q (.bl (!o.isSome)) H2
def sDPut (td ty tv : TE) : TS := fun D σ H => tv σ H fun v H1 => td σ H1 fun x H2 => ty σ H2 fun y H3 => ∃ a H4, x = .ref a ∧ DPut H3 a y v H4 ∧ D.nx σ H4
section
variable {X : Cx} {o i e value : Expr} {pos pos' tpos : Pos} {td ty tv : TE}
theorem pc_din (hu : X.A.units + 1 < cLine) (hi : PE X i ty) (ho : PE X o td) : PC X .In i o (tDIn ty td) := by
  intro pins s σ H Q I h
  refine thn (hi pins s σ H _ I h) fun iv s1 ⟨y, H1, I1, ry, q1⟩ => thn (ho pins s1 σ H1 _ I1 q1) fun u s2 ⟨x, H2, I2, rx, a, ov, ex, g, q2⟩ => ?_
  subst ex
  obtain rfl : u = Value.ref a := rx
  exact d_in hu I2 g ry fun s3 I3 => ⟨.bl ov.isSome, H2, I3, rfl, q2⟩
theorem pc_dnotin (hu : X.A.units + 1 < cLine) (hi : PE X i ty) (ho : PE X o td) : PC X .NotIn i o (tDNotIn ty td) := by
  intro pins s σ H Q I h
  refine thn (hi pins s σ H _ I h) fun iv s1 ⟨y, H1, I1, ry, q1⟩ => thn (ho pins s1 σ H1 _ I1 q1) fun u s2 ⟨x, H2, I2, rx, a, ov, ex, g, q2⟩ => ?_
  subst ex
  obtain rfl : u = Value.ref a := rx
  exact d_notIn hu I2 g ry fun s3 I3 => ⟨.bl (!ov.isSome), H2, I3, rfl, q2⟩
theorem ps_dput (hu : X.A.units + 1 < cLine) (ho : PE X o td) (hi : PE X i ty) (hv : PE X value tv) (hs : swapsWith value (some (.Subscript o i pos')) pos.line X.env = pure false) :
    PS X (.Assign [.Subscript o i pos'] value pos) (sDPut td ty tv) := by
  intro pins s σ H D I h
  refine wpAny_Assign_Subscript (thn (hv pins s σ H _ I h) fun r s1 ⟨v, H1, I1, rv, q1⟩ => thn (ho pins s1 σ H1 _ I1 q1) fun u s2 ⟨x, H2, I2, rx, q2⟩ => thn (hi pins s2 σ H2 _ I2 q2) fun iv s3 ⟨y, H3, I3, ry, a, H4, ex, g, q3⟩ => ?_) hs
  subst ex
  obtain rfl : u = Value.ref a := rx
  exact d_setItem hu I3 g ry rv fun s4 I4 => ⟨σ, H4, I4, q3⟩
end
theorem dk_empty {P : Program} {w : World} {H : Hp} (h : Heap) (hb : sysModules < h.objs.size) : ObjOk P w H (h.push { cls := .type "dict", data := .dict #[] }) h.objs.size (.dK []) :=
  ⟨Nat.zero_le _, beq_eq_false_iff_ne.mpr (Ne.symm (Nat.ne_of_lt hb)), [], .nil, Heap.DictOf.new h⟩
theorem dt_empty {P : Program} {w : World} {H : Hp} (h : Heap) (hb : sysModules < h.objs.size) : ObjOk P w H (h.push { cls := .type "dict", data := .dict #[] }) h.objs.size (.dT []) :=
  ⟨Nat.zero_le _, beq_eq_false_iff_ne.mpr (Ne.symm (Nat.ne_of_lt hb)), [], .nil, _, #[], 0, Heap.get?_push_size _ rfl, ⟨rfl, rfl, rfl⟩, rfl, rfl, List.nodup_nil⟩
def tDNewT : TE := fun _ H Q => ∀ p, H p = none → Q (.ref p) (upd H p (.dT []))
section
variable {X : Cx} {pos : Pos}
theorem pe_dnewT : PE X (.Dict [] [] pos) tDNewT := fun pins s σ H Q I h =>
  wpAny_Dict_empty ⟨.ref s.heap.objs.size, _, I.laid (a := s.heap.objs.size) (o := .dT []) (t' := s.toks) (fun _ _ q => Heap.get?_push_of_some _ q) (Nat.le_refl _) (dt_empty s.heap I.big), rfl, h _ (I.hok.fresh (Nat.le_refl _))⟩
end
def tPairs : List (TE × TE) → St → Hp → (List (V × V) → Hp → Prop) → Prop
  | [], _, H, Q => Q [] H
  | (tk, tv) :: r, σ, H, Q => tk σ H fun x H1 => tv σ H1 fun y H2 => tPairs r σ H2 fun ps H3 => Q ((x, y) :: ps) H3
abbrev VV : List (V × V) → List (Value × Value) → Prop := Paired fun p q => RelV p.1 q.1 ∧ RelV p.2 q.2
def PPs (X : Cx) (pos : Pos) (keys : List (Option Expr)) (values : List Expr) (trs : List (TE × TE)) : Prop :=
  ∀ (pins : List (Addr × Obj)) (s : Shared) (σ : St) (H : Hp) (Q : List (V × V) → Hp → Prop), Inv X pins σ H s → tPairs trs σ H Q →
    wpAny (model X.prog X.w) X.A (evalPairs (pairTrees keys values X.env pos)) (fun vs s' => ∃ ps H', Inv X pins σ H' s' ∧ VV ps vs ∧ Q ps H') X.xe s
theorem pps_nil {X : Cx} {pos : Pos} : PPs X pos [] [] [] := fun pins s σ H Q I h => pairTrees_nil_walk ⟨[], H, I, .nil, h⟩
theorem pps_cons {X : Cx} {pos : Pos} {k v : Expr} {ks : List (Option Expr)} {vs : List Expr} {tk tv : TE} {trs : List (TE × TE)} (hk : PE X k tk) (hv : PE X v tv) (hr : PPs X pos ks vs trs) :
    PPs X pos (some k :: ks) (v :: vs) ((tk, tv) :: trs) := fun pins s σ H Q I h =>
  pairTrees_cons_walk (thn (hk pins s σ H _ I h) fun u s1 ⟨x, H1, I1, rx, q1⟩ => thn (hv pins s1 σ H1 _ I1 q1) fun w2 s2 ⟨y, H2, I2, ry, q2⟩ =>
    thn (hr pins s2 σ H2 _ I2 q2) fun ws s3 ⟨ps, H3, I3, rel, q3⟩ => ⟨(x, y) :: ps, H3, I3, .cons ⟨rx, ry⟩ rel, q3⟩)
def mergeK (kvs more : List (Key × V)) : List (Key × V) := more.foldl (fun acc kv => putK acc kv.1 kv.2) kvs
theorem KV.merge : ∀ {more : List (Key × V)} {rs : List (Key × Value)} {kvs : List (Key × V)} {vs : List (Key × Value)}, KV more rs → KV kvs vs → KV (mergeK kvs more) (merged vs rs) := by
  intro more rs kvs vs r
  unfold KV at r
  induction r generalizing kvs vs with
  | nil => intro q; exact q
  | @cons p q ps qs h t ih =>
    intro r0
    have e : KV (putK kvs p.1 p.2) (stored vs q.1 q.2) := by
      have := r0.put p.1 h.2
      rw [← h.1]; exact this
    exact ih e
theorem length_mergeK : ∀ (more kvs : List (Key × V)), (mergeK kvs more).length ≤ kvs.length + more.length
  | [], kvs => by show kvs.length ≤ kvs.length + 0; (first | lia | omega)
  | p :: r, kvs => by
    have h1 := length_mergeK r (putK kvs p.1 p.2)
    have h2 := length_putK kvs p.1 p.2
    show (mergeK (putK kvs p.1 p.2) r).length ≤ _
    rw [List.length_cons]; (first | lia | omega)
theorem carries_of {P : Program} {w : World} : ∀ {kvs : List (Key × V)} {ws : List (Value × Value)}, VV (kvs.map fun kv => (kV kv.1, kv.2)) ws → ∃ rs, Carries (mixKind P w) ws rs ∧ KV kvs rs
  | [], _, r => by rw [List.map_nil] at r; cases r; exact ⟨[], True.intro, .nil⟩
  | p :: kvs, _, r => by
    rw [List.map_cons] at r
    cases r with
    | @cons a b as bs h t =>
      obtain ⟨rs, c, q⟩ := carries_of (P := P) (w := w) t
      obtain ⟨b1, b2⟩ := b
      exact ⟨(p.1, b2) :: rs, ⟨kV_is h.1, rfl, c⟩, .cons ⟨rfl, h.2⟩ q⟩
def tDisp (trs : List (TE × TE)) : TE := fun σ H Q => ∀ p, H p = none → tPairs trs σ (upd H p (.dK [])) fun ps H2 => H2 p = some (.dK []) ∧ ∃ kvs : List (Key × V), ps = kvs.map (fun kv => (kV kv.1, kv.2)) ∧ kvs.length ≤ 15 ∧ Q (.ref p) (upd H2 p (.dK (mergeK [] kvs)))
theorem pe_disp {X : Cx} {pos : Pos} {keys : List (Option Expr)} {values : List Expr} {trs : List (TE × TE)} (h : PPs X pos keys values trs) (hall : keys.all (·.isSome) = true) (hl : keys.length = values.length) (h0 : keys ≠ [])
    (h15 : keys.length ≤ 15) : PE X (.Dict keys values pos) (tDisp trs) := by
  intro pins s σ H Q I q
  have hn := I.hok.fresh (Nat.le_refl s.heap.objs.size)
  have I1 := I.laid (a := s.heap.objs.size) (o := .dK []) (h' := s.heap.push { cls := .type "dict", data := .dict #[] }) (t' := s.toks) (fun _ _ q => Heap.get?_push_of_some _ q) (Nat.le_refl _) (dk_empty s.heap I.big)
  refine wpAny_Dict_walk (knd := mixKind X.prog X.w) hall hl h0 h15 (thn (h pins _ σ _ _ I1 (q _ hn)) fun ws s2 ⟨ps, H2, I2, rel, e, kvs, ep, lk, q2⟩ => ?_)
  subst ep
  obtain ⟨rs, c, rk⟩ := carries_of (P := X.prog) (w := X.w) rel
  obtain ⟨z, hd, vs0, r0, dd⟩ := dk_of I2.hok e
  cases r0
  refine ⟨rs, c, dd, fun h' dd' hs => ⟨.ref s.heap.objs.size, _, ?_, rfl, q2⟩⟩
  have hz : (mergeK [] kvs).length ≤ sizeLine := by
    have h1 := length_mergeK kvs []
    rw [List.length_nil] at h1
    rw [sizeLine_eq]; (first | lia | omega)
  have he : ∃ q, h'.get? s.heap.objs.size = some q := let ⟨q, _, _, hq, _⟩ := dd'; ⟨q, hq⟩
  exact d_write I2 (by rw [e]; exact True.intro) hs he (dk_new hz hd (rk.merge .nil) dd')
structure M1 (X : Cx) (o : Expr) (m : Str) (apos : Pos) (e : Expr) (cpos : Pos) : Prop where
  base : attributeBase o m X.env (eval o X.env) = eval o X.env
  few : ((backTo cpos (starEach [e] X.env)).all (fun x => !x.1) && (backToKw cpos (keywordEach [] X.env)).all (fun x => x.1.isSome)
    && decide (([e] : List Expr).length + ([] : List Keyword).length + (if ([] : List Keyword).isEmpty then 0 else 1) < 30)) = true
  line : (apos.endLine == cpos.line) = true
  trees : backTo cpos (starEach [e] X.env) = [(false, eval e X.env)]
structure M2 (X : Cx) (o : Expr) (m : Str) (apos : Pos) (e f : Expr) (cpos : Pos) : Prop where
  base : attributeBase o m X.env (eval o X.env) = eval o X.env
  few : ((backTo cpos (starEach [e, f] X.env)).all (fun x => !x.1) && (backToKw cpos (keywordEach [] X.env)).all (fun x => x.1.isSome)
    && decide (([e, f] : List Expr).length + ([] : List Keyword).length + (if ([] : List Keyword).isEmpty then 0 else 1) < 30)) = true
  line : (apos.endLine == cpos.line) = true
  trees : backTo cpos (starEach [e, f] X.env) = [(false, eval e X.env), (false, eval f X.env)]
section
variable {X : Cx} {pins : List (Addr × Obj)} {σ : St} {H : Hp} {s : Shared} {a : Addr} {y d : V} {u r : Value} {o : Option V} {A : Around} {E : Value → Shared → Prop}
end
section
variable {X : Cx} {o e f : Expr} {apos cpos : Pos} {td ty tx : TE}
end
section
variable {X : Cx} {pins : List (Addr × Obj)} {σ : St} {H : Hp} {s : Shared} {a : Addr} {kvs : List (Key × V)} {A : Around} {E : Value → Shared → Prop}
end
section
variable {X : Cx} {pins : List (Addr × Obj)} {σ : St} {H : Hp} {s : Shared} {a : Addr} {y : V} {u : Value} {A : Around} {E : Value → Shared → Prop}
end
end L2
namespace Att
open PySem PySem.W PySem.Calls PyProof.Rows
theorem ints_of_wellAll {P : Params} {h : Heap} : ∀ (ns : List Int) (vs : List Value), WellAll P h vs (ns.map WData.int) → IntsAre vs ns := by
  intro ns
  induction ns with
  | nil =>
    intro vs w
    rw [List.map_nil] at w
    cases w
    exact .nil
  | cons n ns ih =>
    intro vs w
    rw [List.map_cons] at w
    cases w with
    | cons a b =>
      cases a
      exact .cons _ _ (ih _ b)
theorem script_of {l : OpenLaw} {n : Nat} (hn : l.most = some n) {P : Params} {h : Heap} {args : List WData} {vals : List Value}
    (hpre : l.row.toRowW.claim.pre args = true) (hwl : WellAll P h vals args) :
    ∃ a vs ns, vals = [Value.ref a] ∧ args = [WData.list (ns.map WData.int)] ∧ h.get? a = some { cls := .type "list", data := .seq vs.toArray } ∧ IntsAre vs ns ∧ ns.length ≤ n := by
  have hsh : WShape.hasAll [] args [.list .int] = true := (pre_splitW hpre).1
  have hc : l.pre.holds [] { args := args } = true := (pre_splitW hpre).2
  obtain ⟨d, r, rfl, h1, h2⟩ := hasAllW_cons hsh
  obtain rfl := hasAllW_nil h2
  obtain ⟨xs, rfl, h3⟩ := hasW_list h1
  obtain ⟨ns, rfl⟩ := items_int h3
  have hlen : ns.length ≤ n := by
    unfold OpenLaw.pre at hc
    have h4 : (WTm.not (.lt (.lit (.int (n : Int))) (.len (.arg 0)))).holds [] { args := [.list (ns.map .int)] } = true := by
      have h4 := (holds_andW hc).1
      rw [hn] at h4
      exact h4
    have h5 := condW_of h4 (w_not (w_lt w_lit (w_len_list (w_arg rfl))))
    rw [List.length_map] at h5
    refine Nat.le_of_not_lt fun q => ?_
    have q' : (n : Int) < ((ns.length : Nat) : Int) := by (first | lia | omega)
    first
      | (rw [decide_eq_true q'] at h5; exact absurd h5 (by decide))
      | (simp at h5; (first | lia | omega))
  cases hwl with
  | cons w1 w2 =>
    cases w2
    cases w1 with
    | list ho hall => exact ⟨_, _, ns, rfl, rfl, ho, ints_of_wellAll ns _ hall, hlen⟩
theorem post_true (l : OpenLaw) (args : List WData) : l.row.toRowW.claim.post args (.bool true) args = true :=
  postW_of (r := l.row.toRowW) (X := (true == true))
    (show WShape.has [] (.bool true) .bool = true by first | rfl | decide | simp [WShape.has, WShape.arms, WShape.armsAll])
    (show (WTm.eq .res (.lit (.bool true))).value [] { args := args, res := some (.bool true), after := args } = some (.bool (true == true)) from w_eq_bool (w_res rfl) w_lit) rfl
theorem attach_call {l : OpenLaw} {n : Nat} {q : Program} {loose : List Str} {XP : (Str → Option Value) → Heap → Prop} {YP : World → Heap → Prop} {d : DefRec}
    (hn : l.most = some n) (hdf : d.params.defaults = [])
    (call : ∀ (w : World) (s₀ s₁ : Shared) (mg mb : Str → Option Value) (fa : Addr) (o : Obj) (pm cd doc : Value) (a : Addr) (vs : List Value) (ns : List Int),
      Ground q loose [] XP w s₀ mg mb s₁.heap → YP w s₁.heap →
      s₁.heap.get? fa = some o → o.data = .func (docDef d.name d.params d.body d.scope pm cd doc) → s₁.heap.CodeRec cd d.name → mg d.name = some (.ref fa) →
      s₁.heap.get? a = some { cls := .type "list", data := .seq vs.toArray } → IntsAre vs ns → ns.length ≤ n → s₁.gens = #[] →
      codeAny (model l.prog w) callerA (.call (.ref fa) ⟨[.ref a], []⟩) (fun r s' => r = .ok (.ret (.bool true)) ∧ OldK s₁.heap s'.heap ∧ s'.os = s₁.os ∧ AllBare s'.gens) s₁) :
    WalkO q loose XP YP l.row.toRowW d [] (fun f vs => PySem.call f vs) := by
  intro w s₀ s₁ mg mb G Y fa o pm cd doc dV kV ho hd hcd hD hmg hg args vals as hpre hlay hrd hwl hlo
  obtain rfl : dV = .none := Dflts.none hD hdf
  obtain rfl : kV = .none := Dflts.noKw hD
  obtain ⟨a, vs, ns, rfl, rfl, hobj, hints, hlen⟩ := script_of hn hpre hwl
  refine enter_call (codeAny_mono (call w s₀ s₁ mg mb fa o pm cd doc a vs ns G Y ho (fd_plain hd) hcd hmg hobj hints hlen hg) fun r s' hq => ?_)
  obtain ⟨rfl, h2, h3, h4⟩ := hq
  exact ⟨.inl ⟨.bool true, .bool true, [], rfl, fun _ => rfl, .bool true, post_true l _, fun _ => ⟨List.Pairwise.nil, fun _ hm => (nomatch hm)⟩⟩, h2, h3, h4⟩
section
variable {prog : Program} {w : World} {A : Around} {E : Value → Shared → Prop} {s : Shared} {K : Frag}
end
end Att
namespace L2
open PySem PySem.Spec PyProof.Rows
theorem vals_ints : ∀ {vs : List Value} {ns : List Int}, IntsAre vs ns → Vals (ns.map V.int) vs
  | _, _, .nil => .nil
  | _, _, .cons n t h => .cons ⟨t, rfl⟩ (vals_ints h)
def Only (H : Hp) : Prop := ∀ b, H b = none ∨ ∃ o xs, H b = some (.frz o (.lst xs))
theorem law_call {P : Program} {w : World} {K : PySem.W.Frag} {mg mb : Str → Option Value} {CX : CXT} {k : Nat} {fa a : Addr} {fd : FuncData} {x : Str} {sp : Sp} {s₁ : Shared} {vs : List Value} {ns : List Int}
    (KX : K.In s₁.heap) (hns : s₁.heap.Ns mainGlobals mg) (hb : s₁.heap.Ns builtinsNs mb) (hbb : ∀ x : Str, x ≠ "__name__" → mb x = bootBuiltins x) (hlim : s₁.heap.NoLimit) (hg : s₁.gens = #[])
    (ha : s₁.heap.get? a = some { cls := .type "list", data := .seq vs.toArray }) (hi : IntsAre vs ns) (hl : ns.length ≤ sizeLine) (hr : Room k callerA)
    (F : ∀ base : Heap, K.In base → base.Ns mainGlobals mg → FnOk P w K mg base CX k fa fd [x] sp) (hbind : ∀ (s : Shared) (u : Value), BindsTo s fd ⟨[u], []⟩ [(x, u)])
    (hsp : ∀ H : Hp, Only H → SqL K H a (ns.map V.int) → sp [.ref a] H (fun v _ => v = .bl true) fun _ _ _ => False)
    (hCX : ∀ H e s', CX [] H s₁ (fun _ _ _ => False) e s' → False) :
    codeAny (model P w) callerA (.call (.ref fa) ⟨[.ref a], []⟩) (fun r s' => r = .ok (.ret (.bool true)) ∧ OldK s₁.heap s'.heap ∧ s'.os = s₁.os ∧ AllBare s'.gens) s₁ := by
  have rv := vals_ints hi
  have lenV := hi.length
  -- from an abstract heap in which nothing but the script may be tracked
  have core : ∀ H : Hp, Only H → SqL K H a (ns.map V.int) → HOk P w H s₁.heap → (∀ b, H b ≠ none → b = a) → (H a ≠ none → K.lookup a = none) →
      codeAny (model P w) callerA (.call (.ref fa) ⟨[.ref a], []⟩) (fun r s' => r = .ok (.ret (.bool true)) ∧ OldK s₁.heap s'.heap ∧ s'.os = s₁.os ∧ AllBare s'.gens) s₁ := by
    intro H hO hS hok hA hK
    have base_of : ∀ {b : Addr} {o : Obj}, s₁.heap.get? b = some o → H b = none → (hidT s₁.heap H).get? b = some o := fun e n => hidT_get e n
    have noA : ∀ {b : Addr} {o : Obj} {es : Array DictEntry} {ep : Nat}, s₁.heap.get? b = some o → o.data = .dict es ep → H b = none := fun {b o es ep} e d => by
      cases q : H b with
      | none => rfl
      | some u =>
        have e' : b = a := hA b (by rw [q]; simp)
        subst e'
        rw [ha] at e; cases e
        have d' : Data.seq vs.toArray _ = Data.dict es ep := d
        cases d'
    have nsK : ∀ {b : Addr} {m : Str → Option Value}, s₁.heap.Ns b m → (hidT s₁.heap H).Ns b m := fun {b m} ⟨o, es, ep, e, d, r⟩ => ⟨o, es, ep, base_of e (noA e d), d, r⟩
    have hKb : K.In (hidT s₁.heap H) := fun b o e => base_of (KX b o e) (by
      cases q : H b with
      | none => rfl
      | some u =>
        have e' : b = a := hA b (by rw [q]; simp)
        subst e'
        rw [hK (by rw [q]; simp)] at e; cases e)
    have hM : Mod K mg (hidT s₁.heap H) := ⟨hKb, nsK hns, ⟨mb, nsK hb, hbb⟩, let ⟨mc, h1, h2⟩ := hlim; ⟨mc, nsK h1, h2⟩⟩
    have e0 : Env0 P w K mg (hidT s₁.heap H) callerA [] s₁ H := ⟨rfl, hM, fun b o e => of_hidT e, Nat.le_of_eq (hidT_size _ _), trivial, fun b hb => absurd (show b ∈ ([] : List Addr) from hb) (by simp), hok, .of_eq hg⟩
    refine codeAny_mono ((F _ hKb (nsK hns)).run callerA [] s₁ H ⟨[.ref a], []⟩ [.ref a] [.ref a] _ _ hr e0 (hbind s₁ (.ref a)) (.cons rfl .nil) (hsp H hO hS)) fun r s' h => ?_
    cases r with
    | error e => exact (hCX H e s' h).elim
    | ok fl =>
      cases fl with
      | next => exact False.elim h
      | brk => exact False.elim h
      | cont => exact False.elim h
      | ret u =>
        obtain ⟨v, H', os, bare, un, hok', r', q⟩ := h
        have q' : v = .bl true := q
        subst q'
        obtain rfl : u = Value.bool true := r'
        refine ⟨rfl, OldK.of_keep fun b o e => ?_, os, bare⟩
        cases q : H b with
        | none => exact un.keep b o e q (by intro z; exact absurd (show b ∈ ([] : List Addr) from z) (by simp)) (by simp)
        | some u =>
          rcases hO b with z | ⟨ob, xs, z⟩
          · rw [q] at z; cases z
          · have z2 := un.frzs b ob _ z
            obtain ⟨e1, _⟩ := hok b _ z
            obtain ⟨e2, _⟩ := hok' b _ z2
            rw [e] at e1; cases e1
            exact e2
  cases hk : K.lookup a with
  | some o =>
    -- the script is one of the module's own objects
    have e := KX a o hk
    rw [ha] at e
    cases e
    refine core (fun _ => none) (fun _ => .inl rfl) (.inr ⟨_, vs.toArray, _, hk, rfl, rfl, rfl, by rw [List.size_toArray, lenV]; exact hl, by simpa using rv⟩) (fun b u z => by have z' : (none : Option HO) = some u := z; cases z') (fun b z => absurd rfl z) fun z => absurd rfl z
  | none =>
    refine core (fun b => if b = a then some (.frz { cls := .type "list", data := .seq vs.toArray } (.lst (ns.map V.int))) else none) (fun b => ?_) (.inl (.inr ⟨{ cls := .type "list", data := .seq vs.toArray }, if_pos rfl⟩)) (fun b u z => ?_) (fun b z => ?_) fun _ => hk
    · by_cases hb : b = a
      · exact .inr ⟨_, _, if_pos hb⟩
      · exact .inl (if_neg hb)
    · by_cases hb : b = a
      · have z' := (if_pos hb).symm.trans z
        cases z'
        subst hb
        exact ⟨ha, by rw [List.length_map]; exact hl, vs, _, rv, ha⟩
      · have z' := (if_neg hb).symm.trans z
        cases z'
    · by_cases hb : b = a
      · exact hb
      · exact absurd (if_neg hb) z
end L2
namespace L2
open PySem PySem.Spec PyProof.Rows
theorem walk_of {l : PySem.W.OpenLaw} {n k : Nat} {q : Program} {loose : List Str} {XP : (Str → Option Value) → Heap → Prop} {YP : World → Heap → Prop} {d : DefRec} {K : Params → PySem.W.Frag} {CX : World → CXT} {sp : World → Sp} {x : Str}
    (hn : l.most = some n) (hn2 : n ≤ sizeLine) (hdf : d.params.defaults = []) (hr : Room k callerA)
    (hY : ∀ (w : World) (h : Heap), YP w h → (K w.params).In h)
    (F : ∀ (w : World) (mg : Str → Option Value) (fa : Addr) (h : Heap), (K w.params).In h → h.Ns mainGlobals mg → mg d.name = some (.ref fa) →
      ∃ fd : FuncData, (∀ (s : Shared) (u : Value), BindsTo s fd ⟨[u], []⟩ [(x, u)]) ∧
        ∀ base : Heap, (K w.params).In base → base.Ns mainGlobals mg → FnOk l.prog w (K w.params) mg base (CX w) k fa fd [x] (sp w))
    (hsp : ∀ (w : World) (H : Hp) (a : Addr) (ns : List Int), ns.length ≤ n → Only H → SqL (K w.params) H a (ns.map V.int) → sp w [.ref a] H (fun v _ => v = .bl true) fun _ _ _ => False)
    (hCX : ∀ (w : World) (H : Hp) (s : Shared) (e : Value) (s' : Shared), CX w [] H s (fun _ _ _ => False) e s' → False) :
    PySem.W.WalkO q loose XP YP l.row.toRowW d [] (fun f vs => PySem.call f vs) := by
  refine Att.attach_call hn hdf fun w s₀ s₁ mg mb fa o pm cd doc a vs ns G Y ho hd hcd hmg hobj hints hlen hg => ?_
  have KX := hY w _ Y
  obtain ⟨fd, hb, hF⟩ := F w mg fa _ KX G.T.g hmg
  exact law_call KX G.T.g G.T.b G.T.builtins G.T.nolimit hg hobj hints (Nat.le_trans hlen hn2) hr hF hb (fun H hO hS => hsp w H a ns hlen hO hS) fun H e s' => hCX w H s₁ e s'
end L2
/- THE LAST THEOREM (shape; LID, My.* are yours):
   My.Adr: a structure of the addresses that your layer names (classes, functions); My.Txt K t: a structure (Prop) of the equations over K;
   My.txt_mk : {K} {implicit addresses ..} (e1 : nsIn K mainGlobals "law" = some (some (.ref f))) (e2 : K.lookup f = some ⟨oc, od, .func (fnOf "law" "law" params body scope dV kV doc pm an cdv ct), sl⟩) (e3 : codeIn K cdv "law" = true) .. : ∃ t, My.Txt K t
set_option maxRecDepth 100000 in
set_option maxHeartbeats 0 in
theorem PySem.Challenge.cw_LID_holds : PySem.Challenge.rw_LID.Holds := by
  w_on; o_law; k_head; (case hw => w_witness2)
  k_fill
  refine L2.walk_of (l := PySem.Challenge.rw_LID) (n := 63) (k := 40) (x := "script") (CX := fun w => ..) (sp := fun _ => My.sp_law) rfl (by decide) rfl ⟨rfl, by decide, by decide⟩ (fun w h Y => PySem.W.kIn_of Y) ?F ?S ?C
  case F =>
    intro w mg fa h KX G hmg
    have T : ∃ t, My.Txt (L2.KOf KX) t := by
      dsimp only [L2.KOf]                          -- K must stand as «<heap const> w.params» for k_is
      refine' My.txt_mk ?e1 ?e2 ?e3 ..
      (case e1 => PySem.W.k_is)                    -- in the order: a name -> its address -> its object -> its parts
      (case e2 => PySem.W.k_is)
      ..
    obtain ⟨t, T⟩ := T
    have e0 := hmg.symm.trans (PySem.W.mg_of KX G T.law)
    cases e0                                       -- fa is the law's own address
    exact ⟨_, fun s u => .of_eq rfl, fun base kb nb => My.law_fn T kb nb⟩     -- if «.of_eq rfl» comes too early: refine' ⟨_, ?b, fun base kb nb => My.law_fn T kb nb⟩; exact fun s u => .of_eq rfl
  case S => exact fun w H a ns hl hO hS => ..
  case C => exact ..
(the tactic k_is has no namespace: write k_is) -/
namespace L2
open PySem PySem.Spec PyProof.Rows
def defArgs (s : Stmt) : Arguments := match s with
  | .FunctionDef _ a _ _ _ _ _ _ _ _ => a
  | _ => { posonlyargs := [], args := [], vararg := none, kwonlyargs := [], kw_defaults := [], kwarg := none, defaults := [] }
def defBody (s : Stmt) : List Stmt := match s with
  | .FunctionDef _ _ b _ _ _ _ _ _ _ => b
  | _ => []
def defScope (s : Stmt) : Scope := match s with
  | .FunctionDef _ _ _ _ _ _ sc _ _ _ => sc
  | _ => { kind := .function, names := [], isGenerator := false, isCoroutine := false }
abbrev CX0 : CXT := fun _ _ _ _ _ _ => False
abbrev E0 : XK := fun _ _ _ => False
theorem pass0 {X : Cx} : Passes CX0 X E0 := fun _ _ _ _ _ _ _ h => h.elim
structure Fun (K : PySem.W.Frag) (x qual : Str) (st : Stmt) (f : Addr) (fd : FuncData) : Prop where
  ex : ∃ (oc : Value) (od : Option Addr) (kV doc pm : Value) (an : Option Addr) (cdv ct : Value) (osl : Array (Option Value)),
    fd = PySem.W.fnOf x qual (defArgs st) (defBody st) (defScope st) .none kV doc pm an cdv ct ∧ K.lookup f = some ⟨oc, od, .func fd, osl⟩ ∧ PySem.W.codeIn K cdv qual = true
  kp : PySem.W.keepIn K (.ref f) = true
section
variable {P : Program} {w : World} {K : PySem.W.Frag} {mg : Str → Option Value} {base : Heap}
theorem Fun.ok {x qual : Str} {st : Stmt} {f : Addr} {fd : FuncData} {N ps : List Str} {k : Nat} {sp : Sp} (F : Fun K x qual st f fd) (S : FnScope N ps (defScope st)) (len : ∀ vs H Q E, sp vs H Q E → vs.length = ps.length)
    (hbody : ∀ (cdv : Value) (A : Around) (outer : List Env) (s : Shared) (H : Hp) (vs : List V) (Q : VK) (E : XK), Room k (A.deeper (envOfC qual (defScope st) s.heap.objs.size f cdv)) → sp vs H Q E →
      ∃ t, PSs (cxOf CX0 P w K mg base N qual (defScope st) f cdv A outer s H E).nox (defBody st) t ∧ t { nx := fun _ H' => Q .non H', rt := Q } (start N vs) H) : FnOk P w K mg base CX0 (k + 1) f fd ps sp := by
  obtain ⟨oc, od, kV, doc, pm, an, cdv, ct, osl, rfl, lk, hcd⟩ := F.ex
  refine fn_of lk hcd S len fun A outer s H vs Q E hr hsp => ?_
  obtain ⟨t, h, q⟩ := hbody cdv A outer s H vs Q E hr hsp
  exact ⟨t, h.nox, q⟩
theorem Fun.binds {x qual : Str} {st : Stmt} {f : Addr} {fd : FuncData} {ps : List Str} (F : Fun K x qual st f fd)
    (h : ∀ (kV doc pm : Value) (an : Option Addr) (cdv ct : Value) (us : List Value), us.length = ps.length → bindArgs (PySem.W.fnOf x qual (defArgs st) (defBody st) (defScope st) .none kV doc pm an cdv ct) ⟨us, []⟩ = pure (ps.zip us)) : Binds K fd ps [] := by
  obtain ⟨oc, od, kV, doc, pm, an, cdv, ct, osl, rfl, lk, hcd⟩ := F.ex
  exact .all (h kV doc pm an cdv ct)
theorem fun_mk {x qual : Str} {st : Stmt} {f : Addr} {oc : Value} {od an : Option Addr} {osl : Array (Option Value)} {kV doc pm cdv ct : Value} (l : K.lookup f = some ⟨oc, od, .func (PySem.W.fnOf x qual (defArgs st) (defBody st) (defScope st) .none kV doc pm an cdv ct), osl⟩)
    (c : PySem.W.codeIn K cdv qual = true) (k : PySem.W.keepIn K (.ref f) = true) : Fun K x qual st f (PySem.W.fnOf x qual (defArgs st) (defBody st) (defScope st) .none kV doc pm an cdv ct) := ⟨⟨oc, od, kV, doc, pm, an, cdv, ct, osl, rfl, l, c⟩, k⟩
end
theorem hu_of {A : Around} {k : Nat} (hr : Room k A) : A.units + 1 < cLine := Nat.lt_of_le_of_lt (Nat.add_le_add_left (by decide : 1 ≤ 64) _) hr.units
theorem small1000 {n : Nat} (h : n ≤ 1000) : n < sizeLine := Nat.lt_of_le_of_lt h (by decide)
section
variable {X : Cx}
theorem pv (i : Nat) {x : Str} {pos : Pos} (hN : X.N[i]? = some x := by rfl) (hv : Vis X.env.scope x := by first | exact Or.inl rfl | exact Or.inr (Or.inl rfl) | exact Or.inr (Or.inr rfl)) (hd : (x == ("__debug__" : Str)) = false := by decide)
    (hcd : (x == ("__classdict__" : Str)) = false := by decide) : PE X (.Name x pos) (tVar i) := pe_var hN hv hd hcd
end
theorem iteF {A B : Prop} (h : B) : if false = true then A else B := by
  rw [if_neg Bool.false_ne_true]
  exact h
theorem iteT {A B : Prop} (h : A) : if true = true then A else B := by
  rw [if_pos rfl]
  exact h
theorem ite2 {c A B : Prop} [Decidable c] (h1 : c → A) (h2 : ¬ c → B) : if c then A else B := by
  by_cases h : c
  · rw [if_pos h]
    exact h1 h
  · rw [if_neg h]
    exact h2 h
theorem iteNS {c A B : Prop} [Decidable c] (hc : c) (h : B) : if (!decide c) = true then A else B := by
  rw [decide_eq_true hc]
  exact iteF h
def Same (H H' : Hp) : Prop := ∀ b o, H b = some o → H' b = some o
theorem Same.refl (H : Hp) : Same H H := fun _ _ h => h
theorem Same.trans {H H1 H2 : Hp} (a : Same H H1) (b : Same H1 H2) : Same H H2 := fun c o h => b c o (a c o h)
theorem Same.free {H H' : Hp} (e : Same H H') {l : Addr} (h : H' l = Option.none) : H l = Option.none := by
  cases q : H l with
  | none => rfl
  | some o =>
    rw [e l o q] at h
    cases h
theorem Same.seq {K : PySem.W.Frag} {H H' : Hp} {a : Addr} {xs : List V} (e : Same H H') (h : SqL K H a xs) : SqL K H' a xs := by
  rcases h with (h | ⟨o, h⟩) | h
  · exact .inl (.inl (e _ _ h))
  · exact .inl (.inr ⟨o, e _ _ h⟩)
  · exact .inr h
section
variable {κ : Type} [DecidableEq κ]
end
end L2
set_option maxHeartbeats 4000000
namespace L2
open PySem PySem.Spec PyProof.Rows
section
variable {prog : Program} {w : World} {A : Around} {R : Result → Shared → Prop} {s : Shared}
theorem compLoop_own {elt target iter : Expr} {ifs : List Expr} {scope : Scope} {pos : Pos} {it acc : Value} {env : Env} (I : Nat → Shared → Prop)
    (turn : ∀ n s, I n s → wpAny (model prog w) A (pyNext it) (fun r s₁ => match r with
      | none => R (.ok .next) s₁
      | some v => wpAny (model prog w) A (letOwnedTupleGo target it v) (fun _ s₁' => wpAny (model prog w) A (assign target env v) (fun _ s₂ =>
          wpAny (model prog w) A (forIn ifs true fun c r => if r = true then do let ok ← isTrue c env (eval c env); pure (ForInStep.yield ok) else pure (ForInStep.yield r)) (fun ok s₃ =>
            if ok = true then wpAny (model prog w) A (eval elt env) (fun x s₄ =>
              wpAny (model prog w) A (call (.builtin "list.append") [acc, x]) (fun _ s₅ => ∃ m, m < n ∧ I m s₅) (fun _ _ => False) s₄) (fun _ _ => False) s₃
            else ∃ m, m < n ∧ I m s₃) (fun _ _ => False) s₂) (fun _ _ => False) s₁') (fun _ _ => False) s₁) (fun _ _ => False) s)
    (n : Nat) (h : I n s) :
    codeAny (model prog w) A (.compLoop (.ListComp elt [⟨target, iter, ifs, 0⟩] scope pos) 0 it acc env) R s := by
  refine codeAny_loop rfl I (fun n s hI => ?_) n h
  show wpAny _ A ((compTurn (.ListComp elt [⟨target, iter, ifs, 0⟩] scope pos) 0 it acc env).onRaise (fun x => do noteFrame x env; theTreesLotGoes x)) _ _ s
  refine wpAny_noted ?_
  rw [compTurn_list]
  refine wpAny_bind (wpAny_standAt (wpAny_bind (wpAny_mono (turn n s hI) (fun r s₁ h₁ => ?_) fun _ _ h' => h'.elim)))
  cases r with
  | none => exact wpAny_pure h₁
  | some v =>
    refine wpAny_bind (wpAny_mono h₁ (fun _ s₁' h₁' => ?_) fun _ _ h' => h'.elim)
    refine wpAny_bind (wpAny_mono h₁' (fun _ s₂ h₂ => wpAny_bind (wpAny_mono h₂ (fun ok s₃ h₃ => ?_) fun _ _ h' => h'.elim)) fun _ _ h' => h'.elim)
    cases ok with
    | false => exact wpAny_pure ⟨rfl, h₃⟩
    | true =>
      exact wpAny_bind (wpAny_bind (wpAny_mono h₃ (fun x s₄ h₄ => wpAny_bind (wpAny_mono h₄ (fun _ s₅ h₅ => wpAny_pure (wpAny_pure ⟨rfl, h₅⟩)) fun _ _ h' => h'.elim)) fun _ _ h' => h'.elim))
end
theorem forIn_yields {α β : Type} {f : α → β → Sem (ForInStep β)} (g : β → α → β) : ∀ (l : List α) (c : β), (∀ x ∈ l, ∀ c, f x c = pure (.yield (g c x))) → forIn l c f = pure (l.foldl g c)
  | [], _, _ => rfl
  | x :: l, c, h => by
    rw [List.forIn_cons, h x List.mem_cons_self, pure_bind]
    exact forIn_yields g l (g c x) fun y hy => h y (List.mem_cons_of_mem _ hy)
def clAdd (env : Env) (cs : List (Str × Addr)) (y : Str × NameKind) : List (Str × Addr) := if (y.2 == NameKind.free) = true then (y.1, (env.cells.lookup y.1).getD 0) :: cs else cs
def clOf (scope : Scope) (env : Env) : List (Str × Addr) := scope.names.foldl (clAdd env) []
def HasFree (scope : Scope) (env : Env) : Prop := ∀ y ∈ scope.names, y.2 = .free → ∃ c, env.cells.lookup y.1 = some c
theorem closure_ok {scope : Scope} {env : Env} (h : HasFree scope env) : closureFor scope env = pure (clOf scope env) := by
  simp only [closureFor]
  rw [forIn_yields (clAdd env) scope.names [] (fun x hx c => by
    obtain ⟨n, k⟩ := x
    by_cases hk : (k == NameKind.free) = true
    · obtain ⟨a, ha⟩ := h (n, k) hx (by simpa using hk)
      have ha' : env.cells.lookup n = some a := ha
      unfold clAdd cellOf
      simp only [hk, if_true, ha', Option.getD_some, pure_bind]
    · unfold clAdd
      have hk' : (k == NameKind.free) = false := by simpa using hk
      simp only [hk', Bool.false_eq_true, if_false])]
  rfl
theorem clFold_mem {env : Env} : ∀ (l : List (Str × NameKind)) (cs : List (Str × Addr)) (p : Str × Addr), (∀ y ∈ l, y.2 = .free → ∃ c, env.cells.lookup y.1 = some c) → (∀ q ∈ cs, env.cells.lookup q.1 = some q.2) → p ∈ l.foldl (clAdd env) cs → env.cells.lookup p.1 = some p.2
  | [], cs, p, _, hc, hp => hc p hp
  | y :: l, cs, p, h, hc, hp => by
    refine clFold_mem l (clAdd env cs y) p (fun z hz => h z (List.mem_cons_of_mem _ hz)) (fun q hq => ?_) hp
    unfold clAdd at hq
    by_cases hk : (y.2 == NameKind.free) = true
    · rw [if_pos hk] at hq
      rcases List.mem_cons.mp hq with e | hq
      · obtain ⟨c, hcc⟩ := h y List.mem_cons_self (by simpa using hk)
        subst e
        show env.cells.lookup y.1 = some ((env.cells.lookup y.1).getD 0)
        rw [hcc]; rfl
      · exact hc q hq
    · rw [if_neg hk] at hq
      exact hc q hq
theorem clFold_has {env : Env} {n : Str} : ∀ (l : List (Str × NameKind)) (cs : List (Str × Addr)), ((n, NameKind.free) ∈ l ∨ ∃ c, (n, c) ∈ cs) → ∃ c, (n, c) ∈ l.foldl (clAdd env) cs
  | [], cs, h => by
    rcases h with h | h
    · cases h
    · exact h
  | y :: l, cs, h => by
    refine clFold_has l (clAdd env cs y) ?_
    unfold clAdd
    rcases h with h | ⟨c, h⟩
    · rcases List.mem_cons.mp h with e | h
      · subst e
        exact .inr ⟨(env.cells.lookup n).getD 0, show (n, (env.cells.lookup n).getD 0) ∈ (n, (env.cells.lookup n).getD 0) :: cs from List.mem_cons_self⟩
      · exact .inl h
    · refine .inr ⟨c, ?_⟩
      split
      · exact List.mem_cons_of_mem _ h
      · exact h
theorem lookup_of_mem {β : Type} {n : Str} : ∀ {l : List (Str × β)}, (∃ c, (n, c) ∈ l) → ∃ c, l.lookup n = some c
  | [], ⟨_, h⟩ => by cases h
  | (m, d) :: l, ⟨c, h⟩ => by
    rw [List.lookup_cons]
    cases e : n == m with
    | true => exact ⟨d, rfl⟩
    | false =>
      rcases List.mem_cons.mp h with z | z
      · cases z; simp at e
      · exact lookup_of_mem ⟨c, z⟩
theorem clOf_sub {scope : Scope} {env : Env} (h : HasFree scope env) {n : Str} {c : Addr} (e : (clOf scope env).lookup n = some c) : env.cells.lookup n = some c :=
  clFold_mem scope.names [] (n, c) h (fun _ hq => by cases hq) (PySem.mem_of_lookup e)
theorem clOf_has {scope : Scope} {env : Env} {n : Str} (h : scope.names.lookup n = some .free) : ∃ c, (clOf scope env).lookup n = some c :=
  lookup_of_mem (clFold_has scope.names [] (.inl (PySem.mem_of_lookup h)))
theorem relabel_kind {env : Env} : ∀ {names : List (Str × NameKind)} {x : Str} {k : NameKind},
    (names.map fun (n, k) => if (k == NameKind.free && env.scope.kind == .function && env.kindOf n == some .cell) then (n, NameKind.cell) else (n, k)).lookup x = some k →
    names.lookup x = some k ∨ (names.lookup x = some .free ∧ k = .cell)
  | [], _, _, h => by simp at h
  | (n, j) :: r, x, k, h => by
    have ih := @relabel_kind env r x k
    rw [List.map_cons] at h
    cases hx : x == n with
    | true =>
      rw [List.lookup_cons, hx]
      by_cases hc : (j == NameKind.free && env.scope.kind == .function && env.kindOf n == some .cell) = true
      · simp only [hc, if_true, List.lookup_cons, hx] at h
        have hj : j = NameKind.free := by
          rw [Bool.and_eq_true, Bool.and_eq_true] at hc
          simpa using hc.1.1
        exact .inr ⟨by rw [hj], (Option.some.inj h).symm⟩
      · have hc' := Bool.eq_false_iff.mpr hc
        simp only [hc', Bool.false_eq_true, if_false, List.lookup_cons, hx] at h
        exact .inl h
    | false =>
      rw [List.lookup_cons, hx]
      by_cases hc : (j == NameKind.free && env.scope.kind == .function && env.kindOf n == some .cell) = true
      · simp only [hc, if_true, List.lookup_cons, hx] at h
        exact ih h
      · have hc' := Bool.eq_false_iff.mpr hc
        simp only [hc', Bool.false_eq_true, if_false, List.lookup_cons, hx] at h
        exact ih h
theorem relabel_free {env : Env} : ∀ {names : List (Str × NameKind)} {x : Str}, names.lookup x = some .free →
    (names.map fun (n, k) => if (k == NameKind.free && env.scope.kind == .function && env.kindOf n == some .cell) then (n, NameKind.cell) else (n, k)).lookup x = some .free ∨
    (names.map fun (n, k) => if (k == NameKind.free && env.scope.kind == .function && env.kindOf n == some .cell) then (n, NameKind.cell) else (n, k)).lookup x = some .cell
  | [], _, h => by simp at h
  | (n, j) :: r, x, h => by
    have ih := @relabel_free env r x
    rw [List.map_cons]
    cases hx : x == n with
    | true =>
      rw [List.lookup_cons, hx] at h
      have hj : j = NameKind.free := Option.some.inj h
      subst hj
      by_cases hc : (NameKind.free == NameKind.free && env.scope.kind == .function && env.kindOf n == some .cell) = true
      · simp only [hc, if_true, List.lookup_cons, hx]
        exact .inr trivial
      · have hc' := Bool.eq_false_iff.mpr hc
        simp only [hc', Bool.false_eq_true, if_false, List.lookup_cons, hx]
        exact .inl trivial
    | false =>
      rw [List.lookup_cons, hx] at h
      by_cases hc : (j == NameKind.free && env.scope.kind == .function && env.kindOf n == some .cell) = true
      · simp only [hc, if_true, List.lookup_cons, hx]
        exact ih h
      · have hc' := Bool.eq_false_iff.mpr hc
        simp only [hc', Bool.false_eq_true, if_false, List.lookup_cons, hx]
        exact ih h
def cxC (X : Cx) (scope : Scope) (C : Addr) (N : List Str) (s0 : Shared) (H0 : Hp) (ex : List Addr) : Cx :=
  { X with N := N, s₀ := s0, H₀ := H0, env := compEnvC scope (clOf scope X.env) C X.env, outer := X.stack, stack := X.stack, ex := ex, fn := fun _ => false, pn := [], xe := fun _ _ => False }
def sgC (n : Nat) (fs : List (Nat × Str)) (σ : St) : St := List.replicate n none ++ fs.map fun p => (σ[p.1]?).join
def FsOk (N : List Str) (scope : Scope) : List (Nat × Str) → Prop
  | [] => True
  | (j, x) :: r => N[j]? = some x ∧ scope.names.lookup x = some .free ∧ FsOk N scope r
theorem FsOk.mem {N : List Str} {scope : Scope} : ∀ {fs : List (Nat × Str)}, FsOk N scope fs → ∀ p ∈ fs, N[p.1]? = some p.2 ∧ scope.names.lookup p.2 = some .free
  | [], _, _, h => by cases h
  | (j, x) :: r, ⟨h1, h2, h3⟩, p, hp => by
    rcases List.mem_cons.mp hp with e | hp
    · subst e; exact ⟨h1, h2⟩
    · exact FsOk.mem h3 p hp
structure CScope (X : Cx) (scope : Scope) (ts : List Str) (fs : List (Nat × Str)) : Prop where
  kind : scope.kind = .function
  nocell : ∀ y ∈ scope.names, y.2 ≠ .cell
  locs : ∀ y ∈ scope.names, y.2 = .local → scope.names.lookup y.1 = some .local
  frees : ∀ y ∈ scope.names, y.2 = .free → X.env.kindOf y.1 = some .cell ∨ X.env.kindOf y.1 = some .free
  fs : FsOk X.N scope fs
section
variable {X : Cx} {scope : Scope} {ts : List Str} {fs : List (Nat × Str)} {pins : List (Addr × Obj)} {σ : St} {H : Hp} {s : Shared}
theorem CScope.has (S : CScope X scope ts fs) (ok : X.Ok) : HasFree scope X.env := fun y hy hk => ok.has y.1 (S.frees y hy hk)
theorem fp_stack (I : Inv X pins σ H s) {b : Addr} (f : FpOk X pins H b) : b ∉ frs X.stack := fun z =>
  (List.mem_cons.mp (I.stkSub b z)).elim f.2.1 f.2.2.1
theorem ok_comp (S : CScope X scope ts fs) (I : Inv X pins σ H s) {fp : List Addr} (hf : ∀ b ∈ fp, FpOk X pins H b) (ho : ∀ b ∈ fp, b < s.heap.objs.size) {C : Addr} (hC : s.heap.objs.size ≤ C) (N : List Str) : (cxC X scope C N s H fp).Ok where
  mod := I.ok.mod
  kind := S.kind
  glob := I.ok.glob
  blt := I.ok.blt
  above := hC
  inj := fun x y c h1 h2 => I.ok.inj x y c (clOf_sub (S.has I.ok) h1) (clOf_sub (S.has I.ok) h2)
  has := fun x hx => by
    have hx' : (relabel scope X.env).names.lookup x = some .cell ∨ (relabel scope X.env).names.lookup x = some .free := hx
    rcases hx' with h | h
    · rcases relabel_kind h with h | ⟨h, _⟩
      · exact absurd rfl (S.nocell _ (PySem.mem_of_lookup h))
      · exact clOf_has h
    · rcases relabel_kind h with h | ⟨h, _⟩
      · exact clOf_has h
      · exact clOf_has h
  cab := fun x c h => absurd (show false = true from h) Bool.false_ne_true
  hd := I.ok.hd
  frames := I.ok.frames
  stk := .inl rfl
  exf := fun b hb => ⟨Nat.ne_of_lt (Nat.lt_of_lt_of_le (ho b hb) hC), fun x c e => (hf b hb).2.2.2.2.1 x c (clOf_sub (S.has I.ok) e)⟩
  bs := I.bs
  bsz := Nat.le_trans I.ok.bsz I.sz
  noex := fun b o e hb => by
    rcases (hf b hb).2.2.2.1 with z | z
    · exact I.ok.noex b o e z
    · exact absurd (Nat.lt_of_lt_of_le (Heap.lt_size e) (Nat.le_trans I.ok.bsz z)) (Nat.lt_irrefl _)
  exfs := fun b hb => fp_stack I (hf b hb)
  funs := I.stack
  frf := I.stkFree
theorem sgC_get {n : Nat} {σ : St} {i : Nat} {v : V} (h : (sgC n fs σ)[i]? = some (some v)) : n ≤ i ∧ ∃ p, fs[i - n]? = some p ∧ σ[p.1]? = some (some v) := by
  unfold sgC at h
  by_cases hi : i < n
  · rw [List.getElem?_append_left (by simpa using hi), List.getElem?_replicate, if_pos hi] at h
    cases h
  · have hi' : n ≤ i := Nat.le_of_not_lt hi
    rw [List.getElem?_append_right (by simpa using hi'), List.length_replicate, List.getElem?_map] at h
    refine ⟨hi', ?_⟩
    cases e : fs[i - n]? with
    | none => rw [e] at h; cases h
    | some p =>
      rw [e] at h
      refine ⟨p, rfl, ?_⟩
      have h' : (σ[p.1]?).join = some v := Option.some.inj h
      cases q : σ[p.1]? with
      | none => rw [q] at h'; cases h'
      | some z => rw [q] at h'; exact congrArg some h'
theorem inv_comp (S : CScope X scope ts fs) (I : Inv X pins σ H s) {fp : List Addr} (hf : ∀ b ∈ fp, FpOk X pins H b) (ho : ∀ b ∈ fp, b < s.heap.objs.size) {h₁ : Heap} {tk : Nat} {m : Str → Option Value}
    (hn : h₁.Ns s.heap.objs.size m) (k : ∀ b o, s.heap.get? b = some o → h₁.get? b = some o) :
    Inv (cxC X scope s.heap.objs.size (ts ++ fs.map (·.2)) s H fp) [] (sgC ts.length fs σ) H { s with heap := h₁, toks := tk } := by
  have hh := S.has I.ok
  refine ⟨ok_comp S I hf ho (Nat.le_refl _) _, rfl, I.bare, Un.kept k, ⟨m, hn, fun i x v h1 h2 h3 => ?_⟩, fun x c e => ?_, I.hok.fresh (Nat.le_refl _), fun x c e => ?_, fun p hp => absurd (show p ∈ ([] : List (Addr × Obj)) from hp) (by simp), I.hok.kept k, ?_⟩
  · obtain ⟨hi, p, hp, hv⟩ := sgC_get h2
    have h1' : (ts ++ fs.map (·.2))[i]? = some x := h1
    rw [List.getElem?_append_right hi, List.getElem?_map, hp] at h1'
    have hx : p.2 = x := Option.some.inj h1'
    obtain ⟨hN, hl⟩ := S.fs.mem p (List.mem_of_getElem? hp)
    rw [hx] at hN hl
    have hk : X.env.kindOf x = some .cell ∨ X.env.kindOf x = some .free := S.frees (x, .free) (PySem.mem_of_lookup hl) rfl
    obtain ⟨m0, _, hm0⟩ := I.loc
    obtain ⟨u, r, l⟩ := hm0 p.1 x v hN hv (.inr hk)
    refine ⟨u, r, ?_⟩
    rcases l with ⟨z, _⟩ | ⟨_, c, hc, hcell⟩
    · rcases hk with hk | hk <;> · rw [hk] at z; cases z
    · refine .inr ⟨(relabel_free hl).symm, c, ?_, ?_⟩
      · obtain ⟨c', hc'⟩ := clOf_has (env := X.env) hl
        have e := clOf_sub hh hc'
        rw [hc] at e
        cases e
        exact hc'
      · obtain ⟨o, ho, hd⟩ := hcell
        exact ⟨o, k _ _ ho, hd⟩
  · obtain ⟨v, o, ho, hd⟩ := I.cell x c (clOf_sub hh e)
    exact ⟨v, o, k _ _ ho, hd⟩
  · exact I.freeC x c (clOf_sub hh e)
  · show (sgC ts.length fs σ).length = (ts ++ fs.map (·.2)).length
    unfold sgC
    rw [List.length_append, List.length_append, List.length_replicate, List.length_map, List.length_map]
end
end L2
namespace L2
open PySem PySem.Spec PyProof.Rows
def Wk (n : Nat) (σ σ2 : St) : Prop := σ2.length = σ.length ∧ σ2.drop n = σ.drop n
def CompW (n : Nat) (fs : List (Nat × Str)) (J : It) (g : TG) (tc : TT) (te : TE) (σ : St) (H1 : Hp) (Q : VK) (l : Addr) : Prop :=
  ∃ W : Nat → Nat → List V → Hp → Prop, (∃ m, W 0 m [] (upd H1 l (.lst []))) ∧ ∀ i m acc H, W i m acc H → H l = some (.lst acc) ∧
    ((J.stop i H ∧ Q (.ref l) H) ∨ (acc.length < sizeLine ∧ J.go i H ∧ ∀ x H', J.yld i H x H' → g x (sgC n fs σ) H' fun σ2 H2 => Wk n (sgC n fs σ) σ2 ∧ tc σ2 H2 fun b H3 =>
      if b = true then te σ2 H3 fun y H4 => H4 l = some (.lst acc) ∧ ∃ m', m' < m ∧ W (i + 1) m' (acc ++ [y]) (upd H4 l (.lst (acc ++ [y]))) else ∃ m', m' < m ∧ W (i + 1) m' acc H3))
def tComp (n : Nat) (fs : List (Nat × Str)) (wi : TI) (g : TG) (tc : TT) (te : TE) : TE := fun σ H Q => wi σ H fun J H1 => ∀ l, H1 l = none → CompW n fs J g tc te σ H1 Q l
def PTs (X : Cx) (ifs : List Expr) (t : TT) : Prop :=
  ∀ (pins : List (Addr × Obj)) (s : Shared) (σ : St) (H : Hp) (Q : Bool → Hp → Prop), Inv X pins σ H s → t σ H Q →
    wpAny (model X.prog X.w) X.A (forIn ifs true fun c r => if r = true then do let ok ← isTrue c X.env (eval c X.env); pure (ForInStep.yield ok) else pure (ForInStep.yield r)) (TP X pins σ Q) X.xe s
def tYes : TT := fun _ H Q => Q true H
theorem pts_nil {X : Cx} : PTs X [] tYes := fun _ _ _ H _ I h => wpAny_tests_nil ⟨H, I, h⟩
theorem pts_one {X : Cx} {c : Expr} {t : TT} (h : PT X c t) : PTs X [c] t := fun pins s σ H Q I hw => wpAny_tests_one (h pins s σ H Q I hw)
section
variable {X : Cx} {scope : Scope} {ts : List Str} {fs : List (Nat × Str)} {pins : List (Addr × Obj)} {σ : St} {elt target iter : Expr} {ifs : List Expr} {pos : Pos} {g : TG} {tc : TT} {te : TE} {wi : TI}
theorem wk_weak {X' : Cx} {pins : List (Addr × Obj)} {n : Nat} {σ σ2 : St} {H : Hp} {s : Shared} (I : Inv X' pins σ2 H s) (w : Wk n (sgC n fs σ) σ2) : Inv X' pins (sgC n fs σ) H s := by
  refine I.weak w.1.symm fun i v h => ?_
  obtain ⟨hi, _⟩ := sgC_get h
  have e : (σ2.drop n)[i - n]? = ((sgC n fs σ).drop n)[i - n]? := by rw [w.2]
  rw [List.getElem?_drop, List.getElem?_drop, Nat.add_sub_cancel' hi] at e
  rw [e]; exact h
theorem comp_core {H1 : Hp} {s2 : Shared} {it : Addr} {fp : List Addr} {tn : Nat → Heap → Prop} {J : It} {Q : VK} {E : Value → Shared → Prop} {RR : Value → Addr → Result → Shared → Prop} (hc : X.calm = true) (S : CScope X scope ts fs)
    (hg : ∀ C s0 H0 ex, PG (cxC X scope C (ts ++ fs.map (·.2)) s0 H0 ex) target g) (ht : ∀ C s0 H0 ex, PTs (cxC X scope C (ts ++ fs.map (·.2)) s0 H0 ex) ifs tc) (he : ∀ C s0 H0 ex, PE (cxC X scope C (ts ++ fs.map (·.2)) s0 H0 ex) elt te)
    (I : Inv X pins σ H1 s2) (T : Turn X.prog X.w X.K target J fp it tn) (t0 : tn 0 s2.heap) (hf : ∀ b ∈ fp, FpOk X pins H1 b)
    (R : ∀ l, H1 l = none → CompW ts.length fs J g tc te σ H1 Q l)
    (hRR : ∀ l C s' H' m, Inv X pins σ H' s' → Q (.ref l) H' → s'.heap.Ns C m → FpOk X pins H' C → RR (.ref l) C (.ok .next) s') :
    wpAny (model X.prog X.w) X.A (newList []) (fun acc s₃ => wpAny (model X.prog X.w) X.A (newFunctionEnv scope X.env.globals (clOf scope X.env) [] X.env.qual none .none (some X.env)) (fun cenv s₄ =>
      codeAny (model X.prog X.w) X.A (.compStart (.ListComp elt [⟨target, iter, ifs, 0⟩] scope pos) 0 (.ref it) acc { cenv with scope := relabel scope X.env }) (RR acc cenv.locals) s₄) E s₃) E s2 := by
  refine wpAny_newObj_type (wpAny_newFunctionEnv S.nocell (by intro y hy; simp at hy) (fun h₁ hns hsb => ?_) S.kind)
  dsimp only at hns hsb ⊢
  have ho2 : ∀ b ∈ fp, b < s2.heap.objs.size := fun b hb => by
    obtain ⟨o, e, _⟩ := T.obj _ _ t0 b hb
    exact Heap.lt_size e
  have I3 : Inv X pins σ (upd H1 s2.heap.objs.size (.lst [])) { s2 with heap := s2.heap.push { cls := .type "list", dict := none, data := .seq ([] : List Value).toArray }, toks := s2.toks } := I.lnew (its := []) (t' := s2.toks) .nil (Nat.zero_le _)
  obtain ⟨W, ⟨m0, w0⟩, step⟩ := R s2.heap.objs.size I.fresh
  have hf3 : ∀ b ∈ fp, FpOk X pins (upd H1 s2.heap.objs.size (.lst [])) b := fun b hb => ⟨by rw [upd_ne (Nat.ne_of_lt (ho2 b hb))]; exact (hf b hb).1, (hf b hb).2⟩
  have k : ∀ b o, (s2.heap.push { cls := .type "list", dict := none, data := .seq ([] : List Value).toArray }).get? b = some o → h₁.get? b = some o := fun b o e =>
    hsb.extBut b o (Nat.ne_of_lt (Heap.lt_size e)) (Heap.get?_push_of_some _ e)
  have ho3 : ∀ b ∈ fp, b < (s2.heap.push { cls := .type "list", dict := none, data := .seq ([] : List Value).toArray }).objs.size := fun b hb => by
    rw [Heap.size_push]; exact Nat.lt_succ_of_lt (ho2 b hb)
  have I4 := inv_comp (tk := s2.toks + ([] : List (Str × Value)).length) S I3 hf3 ho3 hns k
  have st4 : tn 0 h₁ := T.keep _ _ _ t0 fun b hb o e => k b o (Heap.get?_push_of_some _ e)
  generalize hX : cxC X scope (s2.heap.push { cls := .type "list", dict := none, data := .seq ([] : List Value).toArray }).objs.size (ts ++ fs.map (·.2)) { s2 with heap := s2.heap.push { cls := .type "list", dict := none, data := .seq ([] : List Value).toArray }, toks := s2.toks } (upd H1 s2.heap.objs.size (.lst [])) fp = X' at I4
  have fpk : ∀ {H' : Hp}, (∀ b ∈ fp, H' b = none) → ∀ b ∈ fp, FpOk X' [] H' b := fun {H'} hn b hb => by
    subst hX
    refine ⟨hn b hb, Nat.ne_of_lt (ho3 b hb), fp_stack I3 (hf3 b hb), .inl hb, fun x c e => (hf3 b hb).2.2.2.2.1 x c (clOf_sub (S.has I.ok) e), fun p hp => absurd (show p ∈ ([] : List (Addr × Obj)) from hp) (by simp)⟩
  have hP : X'.prog = X.prog := by subst hX; rfl
  have hW : X'.w = X.w := by subst hX; rfl
  have hK : X'.K = X.K := by subst hX; rfl
  have hcalm : X'.calm = true := by subst hX; exact hc
  have hA : X'.A = X.A := by subst hX; rfl
  have hEnv : X'.env = compEnvC scope (clOf scope X.env) (s2.heap.push { cls := .type "list", dict := none, data := .seq ([] : List Value).toArray }).objs.size X.env := by subst hX; rfl
  have hxe : X'.xe = fun _ _ => False := by subst hX; rfl
  have hg' : PG X' target g := by subst hX; exact hg _ _ _ _
  have ht' : PTs X' ifs tc := by subst hX; exact ht _ _ _ _
  have he' : PE X' elt te := by subst hX; exact he _ _ _ _
  have back : ∀ {H' : Hp} {s' : Shared}, Inv X' [] (sgC ts.length fs σ) H' s' → Inv X pins σ H' s' ∧ (∃ m, s'.heap.Ns X'.env.locals m) ∧ FpOk X pins H' X'.env.locals := fun {H' s'} J' => by
    subst hX
    refine ⟨I3.call' (ch := fp) J'.os J'.base J'.hok J'.bare fun b hb => ⟨(hf3 b hb).2.2.2.1, (hf3 b hb).2.1, (hf3 b hb).2.2.2.2.1, (hf3 b hb).2.2.2.2.2⟩, ?_, I3.fpOk (Nat.le_refl _) J'.free⟩
    obtain ⟨m, hn, _⟩ := J'.loc
    exact ⟨m, hn⟩
  clear hX
  have loop : codeAny (model X.prog X.w) X.A (.compLoop (.ListComp elt [⟨target, iter, ifs, 0⟩] scope pos) 0 (.ref it) (.ref s2.heap.objs.size) X'.env) (RR (.ref s2.heap.objs.size) X'.env.locals)
      { s2 with heap := h₁, toks := s2.toks + ([] : List (Str × Value)).length } := by
    refine compLoop_own (fun n s' => ∃ i acc H', Inv X' [] (sgC ts.length fs σ) H' s' ∧ tn i s'.heap ∧ (∀ b ∈ fp, H' b = none) ∧ W i n acc H') ?_ m0 ⟨0, [], _, I4, st4, fun b hb => (hf3 b hb).1, w0⟩
    rintro n s5 ⟨i, acc, H5, I5, st5, fr5, w5⟩
    obtain ⟨hl, alt⟩ := step i n acc H5 w5
    rw [← hP, ← hW, ← hK] at T
    rcases alt with ⟨stop, q⟩ | ⟨hz, go, stp⟩
    · have d := T.done X' rfl rfl rfl hcalm i [] s5 _ H5 (fun _ _ => False) I5 (fpk fr5) st5 stop
      rw [hP, hW, hA] at d
      refine thn d fun r s6 ⟨hr, I6⟩ => ?_
      subst hr
      obtain ⟨b1, ⟨m, b2⟩, b3⟩ := back I6
      exact hRR _ _ s6 H5 m b1 q b2 b3
    · have d := T.item X' rfl rfl rfl hcalm i [] s5 _ H5 (fun _ _ => False) I5 (fpk fr5) st5 go
      rw [hP, hW, hA] at d
      refine thn d fun r s6 ⟨u, hr, h6⟩ => ?_
      subst hr
      refine thn h6 fun _ s7 ⟨x, H7, I7, r7, y7, st7, fr7⟩ => ?_
      have I7' := I7.pinned (fpk fr7) (T.obj _ _ st7)
      have a := hg' _ s7 _ H7 x u _ I7' r7 (stp x H7 y7)
      rw [hP, hW, hA, hxe] at a
      refine thn a fun _ s8 ⟨σ8, H8, I8, wk, q8⟩ => ?_
      have b := ht' _ s8 σ8 H8 _ I8 q8
      rw [hP, hW, hA, hxe] at b
      have again : ∀ {s9 : Shared} {H9 : Hp} {acc' : List V}, Inv X' ([] ++ pinsAt fp s7.heap) σ8 H9 s9 → (∃ m', m' < n ∧ W (i + 1) m' acc' H9) → ∃ m, m < n ∧ ∃ i acc H', Inv X' [] (sgC ts.length fs σ) H' s9 ∧ tn i s9.heap ∧ (∀ b ∈ fp, H' b = none) ∧ W i m acc H' := fun {s9 H9 acc'} I9 ⟨m', hm, w9⟩ => by
        refine ⟨m', hm, i + 1, acc', H9, wk_weak I9.unpinned wk, T.keep _ _ _ st7 fun b hb o e => (I9.pin (b, o) (List.mem_append_right _ (List.mem_append_right _ (mem_pinsAt hb e)))).1, fun b hb => ?_, w9⟩
        obtain ⟨o, e, d⟩ := T.obj _ _ st7 b hb
        exact (I9.pin (b, o) (List.mem_append_right _ (List.mem_append_right _ (mem_pinsAt hb e)))).2.1
      refine thn b fun ok s9 ⟨H9, I9, q9⟩ => ?_
      cases ok with
      | false =>
        rw [if_neg Bool.false_ne_true] at q9 ⊢
        exact again I9 q9
      | true =>
        rw [if_pos rfl] at q9 ⊢
        have c := he' _ s9 σ8 H9 _ I9 q9
        rw [hP, hW, hA, hxe] at c
        refine thn c fun y s10 ⟨v, H10, I10, r10, hl10, q10⟩ => ?_
        have d := mt_append (X := X') _ s10 σ8 H10 (.ref s2.heap.objs.size) [v] (.ref s2.heap.objs.size) [y] (fun v' H' => H' = upd H10 s2.heap.objs.size (.lst (acc ++ [v]))) I10 rfl (.cons r10 .nil) ⟨_, acc, v, rfl, rfl, hl10, hz, rfl⟩
        rw [hP, hW, hA, hxe] at d
        refine thn d fun _ s11 ⟨_, H11, I11, _, e11⟩ => ?_
        subst e11
        exact again I11 q10
  rw [hEnv] at loop
  exact codeAny_compStart_list loop (T.self _ 0 _ _ _ st4 loop)
theorem pe_comp {gF : Addr → Shared → Hp → List Addr → TG} {tF : Addr → Shared → Hp → List Addr → TT} {eF : Addr → Shared → Hp → List Addr → TE} (hc : X.calm = true) (S : CScope X scope ts fs) (hi : PI X target iter wi)
    (hg : ∀ C s0 H0 ex, PG (cxC X scope C (ts ++ fs.map (·.2)) s0 H0 ex) target (gF C s0 H0 ex)) (ht : ∀ C s0 H0 ex, PTs (cxC X scope C (ts ++ fs.map (·.2)) s0 H0 ex) ifs (tF C s0 H0 ex)) (he : ∀ C s0 H0 ex, PE (cxC X scope C (ts ++ fs.map (·.2)) s0 H0 ex) elt (eF C s0 H0 ex))
    (eg : ∀ C s0 H0 ex, gF C s0 H0 ex = gF 0 X.s₀ X.H₀ [] := by intros; rfl) (et : ∀ C s0 H0 ex, tF C s0 H0 ex = tF 0 X.s₀ X.H₀ [] := by intros; rfl) (ee : ∀ C s0 H0 ex, eF C s0 H0 ex = eF 0 X.s₀ X.H₀ [] := by intros; rfl)
    (hs : ∀ x, foldedSetIterable iter X.env x = pure x := by intro _; rfl) : PE X (.ListComp elt [⟨target, iter, ifs, 0⟩] scope pos) (tComp ts.length fs wi (gF 0 X.s₀ X.H₀ []) (tF 0 X.s₀ X.H₀ []) (eF 0 X.s₀ X.H₀ [])) := by
  intro pins s σ H Q I h
  rw [eval_ListComp]
  refine wpAny_comprehension_free (use := none) rfl hs (closure_ok (S.has I.ok)) S.kind S.locs (thn (hi pins s σ H _ I h) fun v s1 h1 => thn h1 fun itv s2 h2 => ?_)
  obtain ⟨it, fp, tn, J, H2, e, I2, T, st2, f2, R⟩ := h2
  subst e
  refine comp_core (RR := fun acc C => compPost (model X.prog X.w) X.A X.xe none (EP X pins σ Q) acc C) hc S (fun C s0 H0 ex => by rw [← eg C s0 H0 ex]; exact hg C s0 H0 ex) (fun C s0 H0 ex => by rw [← et C s0 H0 ex]; exact ht C s0 H0 ex) (fun C s0 H0 ex => by rw [← ee C s0 H0 ex]; exact he C s0 H0 ex) I2 T st2 f2 R fun l C s' H' m I' q hn f => ?_
  refine ⟨m, hn, fun h' hs' => ⟨.ref l, H', ?_, rfl, q⟩⟩
  obtain ⟨f0, f1, f2, f3, f4, f5⟩ := f
  exact I'.turned (t' := s'.toks) (fun b o hb e => hs'.extBut b o hb e) f0 f1 f3 f4 f5
theorem ps_setC {gF : Addr → Shared → Hp → List Addr → TG} {tF : Addr → Shared → Hp → List Addr → TT} {eF : Addr → Shared → Hp → List Addr → TE} {i : Nat} {y : Str} {py spos : Pos} (hN : X.N.Nodup) (hy : X.N[i]? = some y) (hl : Loc X.env.scope y) (hc : X.calm = true) (S : CScope X scope ts fs) (hi : PI X target iter wi)
    (hg : ∀ C s0 H0 ex, PG (cxC X scope C (ts ++ fs.map (·.2)) s0 H0 ex) target (gF C s0 H0 ex)) (ht : ∀ C s0 H0 ex, PTs (cxC X scope C (ts ++ fs.map (·.2)) s0 H0 ex) ifs (tF C s0 H0 ex)) (he : ∀ C s0 H0 ex, PE (cxC X scope C (ts ++ fs.map (·.2)) s0 H0 ex) elt (eF C s0 H0 ex))
    (eg : ∀ C s0 H0 ex, gF C s0 H0 ex = gF 0 X.s₀ X.H₀ [] := by intros; rfl) (et : ∀ C s0 H0 ex, tF C s0 H0 ex = tF 0 X.s₀ X.H₀ [] := by intros; rfl) (ee : ∀ C s0 H0 ex, eF C s0 H0 ex = eF 0 X.s₀ X.H₀ [] := by intros; rfl)
    (hs : ∀ x, foldedSetIterable iter X.env x = pure x := by intro _; rfl) (hsw : swapsWith (.ListComp elt [⟨target, iter, ifs, 0⟩] scope pos) (some (.Name y py)) spos.line X.env = pure true := by rfl)
    (hf : X.fn y = true ∨ X.env.scope.names.lookup y = some .local := by first | exact .inl rfl | exact .inr rfl | assumption) :
    PS X (.Assign [.Name y py] (.ListComp elt [⟨target, iter, ifs, 0⟩] scope pos) spos) (tAsg (tComp ts.length fs wi (gF 0 X.s₀ X.H₀ []) (tF 0 X.s₀ X.H₀ []) (eF 0 X.s₀ X.H₀ [])) (gName i)) := by
  intro pins s σ H D I h
  rw [exec_Assign_Name_used _ _ _ _ hsw]
  refine wpAny_bind (wpAny_standAt (wpAny_bind ?_))
  show wpAny _ X.A (do let _ ← comprehension (.ListComp elt [⟨target, iter, ifs, 0⟩] scope pos) scope X.env _ (newList []) false (eval iter X.env) (some (assign (.Name y py) X.env))) _ _ s
  refine wpAny_bind (wpAny_mono (wpAny_comprehension_free (use := some (assign (.Name y py) X.env)) (Q := fun _ s' => SP X pins D .next s') rfl hs (closure_ok (S.has I.ok)) S.kind S.locs
    (thn (hi pins s σ H _ I h) fun v s1 h1 => thn h1 fun itv s2 h2 => ?_)) (fun _ s' hq => wpAny_pure (wpAny_pure hq)) fun _ _ e => e)
  obtain ⟨it, fp, tn, J, H2, e, I2, T, st2, f2, R⟩ := h2
  subst e
  refine comp_core (RR := fun acc C => compPost (model X.prog X.w) X.A X.xe (some (assign (.Name y py) X.env)) (fun _ s' => SP X pins D .next s') acc C) hc S (fun C s0 H0 ex => by rw [← eg C s0 H0 ex]; exact hg C s0 H0 ex) (fun C s0 H0 ex => by rw [← et C s0 H0 ex]; exact ht C s0 H0 ex) (fun C s0 H0 ex => by rw [← ee C s0 H0 ex]; exact he C s0 H0 ex) I2 T st2 f2 R fun l C s' H' m I' q hn f => ?_
  obtain ⟨f0, f1, f2, f3, f4, f5⟩ := f
  show wpAny _ X.A (assign (.Name y py) X.env (.ref l)) _ _ _
  refine wpAny_assign_Name (store_ok2 (v := .ref l) I' hN hy hl rfl (fun s'' I'' ⟨a, hsb, ha⟩ => ?_) hf)
  have hne : C ≠ a := by
    rcases ha with z | z
    · rw [z]; exact f1
    · exact fun e => f4 _ _ z e.symm
  refine ⟨m, hn.sameBut hsb hne, fun h' hs' => ⟨σ.set i (some (.ref l)), H', ?_, q⟩⟩
  exact I''.turned (t' := s''.toks) (fun b o hb e => hs'.extBut b o hb e) f0 f1 f3 f4 f5
end
end L2
namespace L2
open PySem PySem.Spec PyProof.Rows PySem.SeqAt
open AutoSeq1 (wpAny_loadPart')
open MeetsSeq MeetsSeq2 MeetsSeq3 SeqRoads2
theorem wpAny_forIn_rng {M : Model} {A : Around} {E : Value → Shared → Prop} {s : Shared} {β : Type} {n : Nat} {b : β} (f : Nat → β → Sem (ForInStep β)) (I : List Nat → β → Shared → Prop) (Q : β → Shared → Prop)
    (turn : ∀ x rest b s', I (x :: rest) b s' → wpAny M A (f x b) (fun r s'' => match r with | .yield b' => I rest b' s'' | .done b' => Q b' s'') E s')
    (fin : ∀ b s', I [] b s' → Q b s') (h : I (List.range n) b s) : wpAny M A (forIn [:n] b f) Q E s := by
  rw [Std.Legacy.Range.forIn_eq_forIn_range']
  refine wpAny_forIn_list f I Q turn fin _ b ?_
  have e : List.range' ([:n] : Std.Legacy.Range).start ([:n] : Std.Legacy.Range).size ([:n] : Std.Legacy.Range).step = List.range n := by
    show List.range' 0 ((n - 0 + 1 - 1) / 1) 1 = List.range n
    rw [List.range_eq_range']
    congr 1
    simp
  rw [e]; exact h
theorem tuple_indexAt (l : Addr) (items : Array Value) (n : Nat) (dd : Option Addr) (sl : Array (Option Value)) (x : Value) (e : Value → Bool) (j : Nat) (hj : j < items.size)
    (hit : e items[j] = true) (hno : ∀ m (hm : m < items.size), m < j → e items[m] = false) :
    Meets (Builtin.«tuple.index» ⟨[.ref l, x], []⟩)
      (fun A R s => s.heap.get? l = some { cls := .type "tuple", dict := dd, data := .seq items n, slots := sl } ∧ (∀ y, y ∈ items → EqAt A.in1 s y x (e y)) ∧ R (.ok (.ret (.int j s.toks))) { s with toks := s.toks + 1 }) :=
  .of_wp fun prog w A R s h => by
    obtain ⟨hp, g, d, tk, os⟩ := s; obtain ⟨hl, he, h⟩ := h
    unfold Builtin.«tuple.index»
    wp_walk using wpAny_loadPart' hl, wpAny_forIn_rng _ (fun rest b s' => ∃ i, i ≤ j ∧ rest = (List.range (min items.size items.size)).drop i ∧ b.1 = none ∧ s' = ⟨hp, g, d, tk, os⟩) _
    case turn =>
      rintro y rest b s' ⟨i, hi, hr, hb, rfl⟩
      have hil : i < items.size := Nat.lt_of_le_of_lt hi hj
      rw [Nat.min_self] at hr ⊢
      rw [List.drop_eq_getElem_cons (by simpa using hil)] at hr
      injection hr with h1 h2
      rw [List.getElem_range] at h1
      subst h1
      have hg : items[y]? = some items[y] := by simp [hil]
      rw [hg]
      dsimp only
      refine wpAny_bind (he _ (Array.getElem_mem hil) prog w _ _ ?_)
      by_cases hyj : y = j
      · subst hyj
        rw [hit, if_pos rfl]
        wp_walk
        exact ⟨_, rfl, h⟩
      · rw [hno y hil (by (first | lia | omega)), if_neg Bool.false_ne_true]
        exact wpAny_pure ⟨y + 1, by (first | lia | omega), h2, rfl, rfl⟩
    case fin =>
      rintro b s' ⟨i, hi, hr, hb, rfl⟩
      rw [Nat.min_self] at hr
      have : (List.drop i (List.range items.size)).length = 0 := by rw [← hr]; rfl
      rw [List.length_drop, List.length_range] at this
      (first | lia | omega)
    case h =>
      exact ⟨0, Nat.zero_le _, rfl, rfl, rfl⟩
theorem vals_isInt {ns : List Int} (k : Int) : ∀ {us : List Value}, Vals (ns.map V.int) us → ∀ (j : Nat) (h : j < us.length), eqU (.int k) us[j] = ((ns.getD j 0) == k) := by
  intro us r j h
  have hl := r.length
  rw [List.length_map] at hl
  have hj : j < ns.length := by (first | lia | omega)
  obtain ⟨u, hu, ru⟩ := r.get (i := j) (x := .int ns[j]) (by rw [List.getElem?_map, List.getElem?_eq_getElem hj]; rfl)
  have e : us[j] = u := by
    rw [List.getElem?_eq_getElem h] at hu
    exact Option.some.inj hu
  rw [e, eqU_of ru rfl]
  have e2 : ns.getD j 0 = ns[j] := by rw [List.getD_eq_getElem?_getD, List.getElem?_eq_getElem hj]; rfl
  rw [e2]
  rfl
theorem flat_ints (ns : List Int) : (ns.map V.int).all flatV = true := by
  induction ns with
  | nil => rfl
  | cons n ns ih => rw [List.map_cons, List.all_cons, ih]; rfl
section
variable {X : Cx} {pins : List (Addr × Obj)} {σ : St} {H : Hp} {s : Shared}
theorem mt_tindex : MtR X "tuple.index" (fun x vs H Q => ∃ (p : Addr) (ns : List Int) (k : Int), x = .ref p ∧ vs = [.int k] ∧ SqT X.K H p (ns.map V.int) ∧ k ∈ ns ∧ Q (.int (ns.idxOf k : Nat)) H) := by
  intro pins s σ H x vs v us Q I rx rv h
  obtain ⟨p, ns, k, rfl, rfl, hq, hk, q⟩ := h
  cases rx
  obtain ⟨u, rfl, ru⟩ := rv.one
  obtain ⟨t, rfl⟩ := ru
  obtain ⟨its, r, pl, hz⟩ := I.tuple hq
  obtain ⟨⟨cls, dd, data, sl⟩, ho, hc, n, hd⟩ := id pl
  simp only at hc hd
  subst hc hd
  have hlen := r.length
  rw [List.length_map] at hlen
  have hj : ns.idxOf k < ns.length := List.idxOf_lt_length_iff.mpr hk
  refine call_meets PySem.F.slot_tuple_index ⟨_, ho, rfl⟩ PySem.F.entry_tuple_index (PySem.F.args_tuple_index_2 _ _)
    (tuple_indexAt p its.toArray n dd sl (.int k t) (eqU (.int k)) (ns.idxOf k) (by rw [List.size_toArray]; (first | lia | omega)) ?_ ?_) ⟨ho, fun y hy => mem_eqAt (x := .int k) ⟨t, rfl⟩ rfl r (flat_ints ns) y (by simpa using hy), ?_⟩
  · rw [List.getElem_toArray, vals_isInt k r _ (by (first | lia | omega))]
    rw [List.getD_eq_getElem?_getD, List.getElem?_eq_getElem hj, Option.getD_some, List.getElem_idxOf]
    exact beq_self_eq_true k
  · intro m hm hlt
    rw [List.size_toArray] at hm
    rw [List.getElem_toArray, vals_isInt k r _ hm]
    have hm' : m < ns.length := by (first | lia | omega)
    rw [List.getD_eq_getElem?_getD, List.getElem?_eq_getElem hm', Option.getD_some]
    exact List.not_of_lt_findIdx (p := (· == k)) (show m < ns.findIdx (· == k) from hlt)
  · exact ⟨.int (ns.idxOf k : Nat), H, I.tok _, ⟨_, rfl⟩, q⟩
def tyU (K : PySem.W.Frag) (T : String) (x : V) (H : Hp) : Prop := tyV K T x H ∨ (T = "tuple" ∧ ∃ p xs, x = .ref p ∧ H p = some (.tup xs))
theorem tyU_is {T : String} {x : V} {v : Value} (I : Inv X pins σ H s) (r : RelV x v) (ty : tyU X.K T x H) : s.TypeIs v T ∧ ∀ a, v = .ref a → ∃ ob, s.heap.get? a = some ob ∧ ob.dict = none := by
  rcases ty with ty | ⟨rfl, p, xs, rfl, hp⟩
  · exact tyV_is I r ty
  · cases r
    obtain ⟨_, its, _, o, e, c, d, _⟩ := I.hok p _ hp
    refine ⟨⟨o, e, c⟩, fun a z => ?_⟩
    cases z
    exact ⟨o, e, d⟩
variable {o e : Expr} {es : List Expr} {to : TE} {t : TA} {name : Str} {apos cpos : Pos} {T id : String} {r : V → List V → Hp → VK → Prop}
def tBMU (K : PySem.W.Frag) (T : String) (r : V → List V → Hp → VK → Prop) (to : TE) (t : TA) : TE := fun σ H Q => to σ H fun x H1 => tyU K T x H1 ∧ t σ H1 fun xs H2 => r x xs H2 Q
theorem pe_bmU (pa : PlainAttrs T) (slot : Slot T name id) (hty : typeOf (.builtin id) = pure (.type "method_descriptor")) (hm : MtR X id r) (ho : PE X o to) (ha : PA X (e :: es) t)
    (hbase : attributeBase o name X.env (eval o X.env) = eval o X.env := by rfl)
    (hfew : ((backTo cpos (starEach (e :: es) X.env)).all (fun x => !x.1) && (backToKw cpos (keywordEach [] X.env)).all (fun x => x.1.isSome)
      && decide ((e :: es).length + ([] : List Keyword).length + (if ([] : List Keyword).isEmpty then 0 else 1) < 30)) = true := by rfl)
    (hline : (apos.endLine == cpos.line) = true := by rfl) (hs : starEach (e :: es) X.env = (false, eval e X.env) :: starEach es X.env := by rfl) (hplain : (backTo cpos (starEach es X.env)).any (·.1) = false := by rfl) :
    PE X (.Call (.Attribute o name apos) (e :: es) [] cpos) (tBMU X.K T r to t) := by
  intro pins s σ H Q I h
  refine wpAny_Call_method_late hbase hfew hline rfl (thn (ho pins s σ H _ I h) fun v s1 ⟨x, H1, I1, r1, ty, q1⟩ => ?_)
  obtain ⟨h1, h2⟩ := tyU_is I1 r1 ty
  refine ⟨T, id, pa, slot, hty, h1, h2, ?_⟩
  have hA := ha cpos pins s1 σ H1 _ I1 q1
  rw [hs] at hA ⊢
  refine Calls.callWith_builtin (by show (false || (backTo cpos (starEach es X.env)).any (·.1)) = false; rw [hplain] <;> rfl) (Calls.evalArgs_plain ?_)
  exact thn hA fun us s2 ⟨vs, H2, I2, r2, q2⟩ => hm pins s2 σ H2 x vs v us Q I2 r1 r2 q2
end
section
variable {prog : Program} {w : World} {A : Around} {E : Value → Shared → Prop} {s : Shared}
theorem collect_tup {l : Addr} {vs : List Value} {Q : List Value → Shared → Prop} (hl : IsTup s.heap l vs.toArray)
    (h : Q vs { s with heap := (s.heap.push (seqObj "list" #[] 0)).update s.heap.objs.size (Obj.mapSeq (· ++ vs.toArray)) }) (hsz : vs.length ≤ sizeLine) :
    wpAny (model prog w) A (collect (.ref l)) Q E s := by
  obtain ⟨o, ho, hc, n, hd⟩ := id hl
  unfold collect
  refine wpAny_bind (wpAny_runValue (codeAny_builtin entry_proto_collect' ?_))
  show wpAny _ _ (do again (.builtin "list.__iadd__" ⟨[← newList [], .ref l], []⟩)) _ _ s
  refine wpAny_bind (wpAny_newList (wpAny_pure ⟨Code.quiet_builtin _ (by decide +kernel), codeAny_builtin entry_list_iadd' ?_⟩))
  show wpAny _ _ (Builtin.List.listExtendWith (.ref s.heap.objs.size) (.ref l) (.ref s.heap.objs.size)) _ _ { s with heap := s.heap.push (seqObj "list" #[] 0) }
  unfold Builtin.List.listExtendWith
  have ho' : (s.heap.push (seqObj "list" #[] 0)).get? l = some o := Heap.get?_push_of_some _ ho
  refine wpAny_bind (wpAny_typeOf (T := "tuple") ⟨o, ho', hc⟩ ?_)
  have ht : (Value.type "tuple" == Value.type "tuple") = true := by rfl
  rw [if_pos (by rw [ht]; simp)]
  refine wpAny_bind (listItems_at ho' hd ?_)
  refine wpAny_bind (listItems_at (xs := #[]) (n := 0) (Heap.get?_push_size _ rfl) rfl ?_)
  rw [if_neg (by simp)]
  refine wpAny_bind (listUpdate_at (xs := #[]) (n := 0) (Heap.get?_push_size _ rfl) rfl ?_ (Nat.zero_le _) (by show (#[] ++ vs.toArray).size ≤ sizeLine + 1; simp only [Array.size_append, List.size_toArray, List.length_nil]; (first | lia | omega)))
  refine wpAny_pure ?_
  show wpAny (model prog w) A (do
      let o ← load s.heap.objs.size
      match o.data with
      | .seq xs _ => pure xs.toList
      | _ => unsupported "internal:collect") Q E { s with heap := (s.heap.push (seqObj "list" #[] 0)).update s.heap.objs.size (Obj.mapSeq (· ++ vs.toArray)) }
  refine wpAny_bind (wpAny_load (get?_update_seq (Heap.get?_push_size _ rfl) _) ?_)
  show wpAny _ _ (pure ((#[] : Array Value) ++ vs.toArray).toList) Q E _
  rw [show ((#[] : Array Value) ++ vs.toArray).toList = vs by simp]
  exact wpAny_pure h
theorem sorted_tup {l : Addr} {vs : List Value} {ns : List Int} {Q : Value → Shared → Prop} (hl : IsTup s.heap l vs.toArray) (hI : IntsAre vs ns) (h64 : vs.length < 64)
    (h : ∀ (out : Array Value) (ns' : List Int), IntsAre out.toList ns' → ns'.Perm ns → ns'.Pairwise (· ≤ ·) → Q (.ref (s.heap.objs.size + 1)) { s with heap := sortedAll s.heap vs out }) :
    wpAny (model prog w) A (call (.builtin "sorted") [.ref l]) Q E s := by
  refine Calls.call_function_entry kind_sorted plain_sorted entry_sorted (args_sorted1 _) ?_
  unfold Builtin.«sorted»
  refine wpAny_bind (m := checkCount "sorted" 1 1 _) (wpAny_pure ?_)
  refine wpAny_bind (collect_tup hl ?_ (by rw [sizeLine_eq]; (first | lia | omega)))
  refine wpAny_bind (wpAny_newList ?_)
  have hsz : ((s.heap.push (seqObj "list" #[] 0)).update s.heap.objs.size (Obj.mapSeq (· ++ vs.toArray))).objs.size = s.heap.objs.size + 1 := by
    rw [Heap.size_update, size_push']
  have hoL : (((s.heap.push (seqObj "list" #[] 0)).update s.heap.objs.size (Obj.mapSeq (· ++ vs.toArray))).push (seqObj "list" vs.toArray 0)).get? (s.heap.objs.size + 1) = some (seqObj "list" vs.toArray 0) := by
    rw [← hsz]; exact Heap.get?_push_size _ rfl
  show wpAny _ _ _ _ _ { s with heap := ((s.heap.push (seqObj "list" #[] 0)).update s.heap.objs.size (Obj.mapSeq (· ++ vs.toArray))).push (seqObj "list" vs.toArray 0) }
  rw [hsz]
  refine wpAny_bind (wpAny_holding (wpAny_call_entry slot_list_sort ⟨_, hoL, rfl⟩ entry_list_sort (list_sort_tree hoL hI h64 fun out ns' a1 a2 a3 => ⟨_, rfl, ?_⟩) (args_list_sort _)))
  exact wpAny_pure ⟨_, rfl, h out ns' a1 a2 a3⟩
end
section
variable {X : Cx}
theorem call_sorted : CallR X (.builtin "sorted") (fun xs H Q => ∃ (p : Addr) (ns : List Int), xs = [.ref p] ∧ (SqL X.K H p (ns.map V.int) ∨ SqT X.K H p (ns.map V.int)) ∧ ns.length < 64 ∧
    ∀ (l : Addr) (ns' : List Int), H l = none → ns'.Perm ns → ns'.Pairwise (· ≤ ·) → Q (.ref l) (upd H l (.lst (ns'.map V.int)))) := by
  intro pins s σ H xs us Q I r h
  obtain ⟨p, ns, rfl, hq, h64, q⟩ := h
  obtain ⟨u, rfl, ru⟩ := vals1 r
  cases ru
  have fin : ∀ (vs : List Value) (out : Array Value) (ns' : List Int), ns.length = vs.length → IntsAre out.toList ns' → ns'.Perm ns → ns'.Pairwise (· ≤ ·) → EP X pins σ Q (.ref (s.heap.objs.size + 1)) { s with heap := sortedAll s.heap vs out } := fun vs out ns' hl a1 a2 a3 => by
    obtain ⟨e, he⟩ := sortedAll_at s.heap vs out
    refine ⟨.ref (s.heap.objs.size + 1), _, I.laid (t' := s.toks) (o := .lst (ns'.map V.int)) (fun b ob z => sortedAll_old z) (Nat.le_succ _) ?_, rfl, q _ ns' (I.hok.fresh (Nat.le_succ _)) a2 a3⟩
    refine ⟨?_, out.toList, e, vals_ints a1, by simpa [seqObj] using he⟩
    rw [List.length_map, a2.length_eq, sizeLine_eq]
    (first | lia | omega)
  rcases hq with hq | hq
  · obtain ⟨its, r', pl, hz⟩ := I.list hq
    have hl := r'.length
    rw [List.length_map] at hl
    exact sorted_ints pl.isList (intsAre_of r') (by (first | lia | omega)) fun out ns' a1 a2 a3 => fin its out ns' hl a1 a2 a3
  · obtain ⟨its, r', pl, hz⟩ := I.tuple hq
    have hl := r'.length
    rw [List.length_map] at hl
    exact sorted_tup pl (intsAre_of r') (by (first | lia | omega)) fun out ns' a1 a2 a3 => fin its out ns' hl a1 a2 a3
theorem call_range : CallR X (.type "range") (fun xs H Q => ∃ n : Int, xs = [.int n] ∧ ∀ p, H p = none → Q (.ref p) (upd H p (.rng 0 n))) := by
  intro pins s σ H xs us Q I r h
  obtain ⟨n, rfl, q⟩ := h
  obtain ⟨u, rfl, t, rfl⟩ := vals1 r
  refine call_range_1 ?_
  refine ⟨.ref s.heap.objs.size, _, I.laid (o := .rng 0 n) (fun b ob z => Heap.get?_push_of_some _ z) (Nat.le_refl _) ?_, rfl, q _ (I.hok.fresh (Nat.le_refl _))⟩
  exact ⟨_, _, _, Heap.get?_push_size _ rfl⟩
theorem vals_of_get : ∀ {xs : List V} {us : List Value}, xs.length = us.length → (∀ (i : Nat) (x : V) (u : Value), xs[i]? = some x → us[i]? = some u → RelV x u) → Vals xs us
  | [], [], _, _ => .nil
  | [], _ :: _, h, _ => by simp at h
  | _ :: _, [], h, _ => by simp at h
  | x :: xs, u :: us, h, f => .cons (f 0 x u rfl rfl) (vals_of_get (by simpa using h) fun i y v h1 h2 => f (i + 1) y v (by simpa using h1) (by simpa using h2))
theorem items_rng {a : Int} (n : Nat) (acc : Array Value) (h : ItemsOf (fun i v => ∃ t, v = .int (a + i * 1) t) acc n) : Vals ((List.range n).map fun i => V.int (a + (i : Nat))) acc.toList := by
  refine vals_of_get (by rw [List.length_map, List.length_range, Array.length_toList, h.1]) fun i x u h1 h2 => ?_
  obtain ⟨t, e⟩ := h.2 i u (by simpa using h2)
  rw [List.getElem?_map] at h1
  cases q : (List.range n)[i]? with
  | none => rw [q] at h1; cases h1
  | some j =>
    rw [q] at h1
    have e1 : V.int (a + (j : Nat)) = x := Option.some.inj h1
    have e2 : j = i := by
      have := List.getElem?_eq_some_iff.mp q
      obtain ⟨_, z⟩ := this
      rw [List.getElem_range] at z
      exact z.symm
    subst e1 e2
    exact ⟨t, by rw [e, Int.mul_one]⟩
theorem call_list_rng (hc : X.calm = true) : CallR X (.type "list") (fun xs H Q => ∃ (p : Addr) (lo hi : Int), xs = [.ref p] ∧ H p = some (.rng lo hi) ∧ (-(2 ^ 62) ≤ lo ∧ lo < 2 ^ 62 ∧ -(2 ^ 62) ≤ hi ∧ hi < 2 ^ 62) ∧ (hi - lo).toNat ≤ 1000 ∧
    ∀ l, H l = none → Q (.ref l) (upd H l (.lst ((List.range (hi - lo).toNat).map fun i => V.int (lo + (i : Nat)))))) := by
  intro pins s σ H xs us Q I r h
  obtain ⟨p, lo, hi, rfl, hp, ⟨h1, h2, h3, h4⟩, hz, q⟩ := h
  obtain ⟨u, rfl, ru⟩ := vals1 r
  cases ru
  obtain ⟨t, u, v, e⟩ := I.hok p _ hp
  refine call_list_range (n := (hi - lo).toNat) (I.ok.hd hc) e (small_one h1 h2 h3 h4) (by rw [rangeSize_one]; split <;> (first | lia | omega)) (by (first | lia | omega)) fun h' tk acc' c' k' hS hacc => ?_
  refine ⟨.ref s.heap.objs.size, _, I.laid (o := .lst ((List.range (hi - lo).toNat).map fun i => V.int (lo + (i : Nat)))) k' (Nat.le_refl _) ?_, rfl, q _ (I.hok.fresh (Nat.le_refl _))⟩
  refine ⟨?_, acc'.toList, c', items_rng _ _ hacc, by simpa using hS⟩
  rw [List.length_map, List.length_range, sizeLine_eq]
  (first | lia | omega)
end
inductive Isi (K : PySem.W.Frag) (H : Hp) : V → String → Bool → Prop
  | int_int (i : Int) : Isi K H (.int i) "int" true
  | int_bool (i : Int) : Isi K H (.int i) "bool" false
  | bool_bool (b : Bool) : Isi K H (.bl b) "bool" true
  | list_list {p : Addr} {xs : List V} : SqL K H p xs → Isi K H (.ref p) "list" true
  | tup_tup {p : Addr} {xs : List V} : SqT K H p xs → Isi K H (.ref p) "tuple" true
section
variable {X : Cx}
theorem call_isi : CallR X (.builtin "isinstance") (fun xs H Q => ∃ x T b, xs = [x, .ty T] ∧ Isi X.K H x T b ∧ Q (.bl b) H) := by
  intro pins s σ H xs us Q I r h
  obtain ⟨x, T, b, rfl, hi, q⟩ := h
  obtain ⟨u, v, rfl, ru, rv⟩ := r.two
  cases rv
  cases hi with
  | int_int i => obtain ⟨t, rfl⟩ := ru; exact PySem.IsiPair.int_int ⟨.bl true, H, I, rfl, q⟩
  | int_bool i => obtain ⟨t, rfl⟩ := ru; exact PySem.IsiPair.int_bool ⟨.bl false, H, I.tok _, rfl, q⟩
  | bool_bool b => cases ru; exact PySem.IsiPair.bool_bool ⟨.bl true, H, I, rfl, q⟩
  | list_list hq =>
    cases ru
    obtain ⟨its, r', pl, hz⟩ := I.list hq
    obtain ⟨o, n, e, c, _⟩ := pl
    exact PySem.IsiPair.list_list e c ⟨.bl true, H, I, rfl, q⟩
  | tup_tup hq =>
    cases ru
    obtain ⟨its, r', pl, hz⟩ := I.tuple hq
    obtain ⟨o, e, c, _⟩ := pl
    exact PySem.IsiPair.tuple_tuple e c ⟨.bl true, H, I, rfl, q⟩
end
abbrev Den (α : Type) := Hp → α → V → Prop
def dInt : Den Int := fun _ i v => v = .int i
def EqOk (X : Cx) {α : Type} [DecidableEq α] (D : Den α) (d : Nat) : Prop :=
  ∀ (A : Around) (pins : List (Addr × Obj)) (s : Shared) (σ : St) (H : Hp) (a b : α) (x y : V) (u v : Value), A.units + d < cLine → Inv X pins σ H s → D H a x → D H b y → RelV x u → RelV y v → EqAt A s u v (decide (a = b))
theorem eq_int_ok {X : Cx} : EqOk X dInt 0 := by
  intro A pins s σ H a b x y u v _ I ha hb ru rv
  subst ha hb
  obtain ⟨t, rfl⟩ := ru
  obtain ⟨t', rfl⟩ := rv
  have h := EqAt.int_int (A := A) (s := s) a t b t'
  rw [show decide (a = b) = (a == b) by rw [Bool.eq_iff_iff]; simp]
  exact h
theorem all_range_eq {α : Type} [DecidableEq α] {as bs : List α} (hl : as.length = bs.length) : ((List.range as.length).all fun j => decide (as[j]? = bs[j]?)) = decide (as = bs) := by
  rw [Bool.eq_iff_iff]
  simp only [List.all_eq_true, List.mem_range, decide_eq_true_eq]
  constructor
  · intro h
    refine List.ext_getElem? fun i => ?_
    by_cases hi : i < as.length
    · exact h i hi
    · rw [List.getElem?_eq_none (by (first | lia | omega)), List.getElem?_eq_none (by (first | lia | omega))]
  · intro h j _
    rw [h]
theorem paired_get {α : Type} {P : α → V → Prop} : ∀ {as : List α} {xs : List V} {i : Nat} {x : V}, Paired P as xs → xs[i]? = some x → ∃ a, as[i]? = some a ∧ P a x
  | _, _, _, _, .nil, e => by simp at e
  | _, _, 0, _, .cons r _, e => by simp at e; subst e; exact ⟨_, rfl, r⟩
  | _, _, i + 1, x, .cons _ t, e => by
    obtain ⟨u, h1, h2⟩ := paired_get (i := i) (x := x) t (by simpa using e)
    exact ⟨u, by simpa using h1, h2⟩
section
variable {X : Cx} {α : Type} [DecidableEq α] {D : Den α} {d : Nat}
theorem items_eqAt {A : Around} {pins : List (Addr × Obj)} {s : Shared} {σ : St} {H : Hp} {as bs : List α} {xs ys : List V} {us vs : List Value} (h : EqOk X D d) (hu : A.units + (d + 1) < cLine) (I : Inv X pins σ H s) (pa : Paired (D H) as xs) (pb : Paired (D H) bs ys) (ru : Vals xs us) (rv : Vals ys vs)
    (j : Nat) (h1 : j < us.toArray.size) (h2 : j < vs.toArray.size) : EqAt A.in1 s us.toArray[j] vs.toArray[j] (decide (as[j]? = bs[j]?)) := by
  rw [List.size_toArray] at h1 h2
  rw [List.getElem_toArray, List.getElem_toArray]
  have k1 : j < xs.length := by rw [ru.length]; exact h1
  have k2 : j < ys.length := by rw [rv.length]; exact h2
  have g1 : xs[j]? = some xs[j] := List.getElem?_eq_getElem k1
  have g2 : ys[j]? = some ys[j] := List.getElem?_eq_getElem k2
  obtain ⟨a, ea, da⟩ := paired_get pa g1
  obtain ⟨b, eb, db⟩ := paired_get pb g2
  obtain ⟨u, eu, hu'⟩ := ru.get g1
  obtain ⟨v, ev, hv'⟩ := rv.get g2
  rw [List.getElem?_eq_getElem h1] at eu
  rw [List.getElem?_eq_getElem h2] at ev
  cases eu
  cases ev
  rw [ea, eb, show decide (some a = some b) = decide (a = b) by simp]
  exact h A.in1 pins s σ H a b _ _ _ _ (by show A.units + 1 + d < cLine; (first | lia | omega)) I da db hu' hv'
def dTupOf (K : PySem.W.Frag) (D : Den α) : Den (List α) := fun H as v => ∃ p xs, v = .ref p ∧ SqT K H p xs ∧ Paired (D H) as xs
theorem paired_inj (hi : ∀ H a b x, D H a x → D H b x → a = b) {H : Hp} : ∀ {as bs : List α} {xs : List V}, Paired (D H) as xs → Paired (D H) bs xs → as = bs
  | _, _, _, .nil, .nil => rfl
  | _, _, _, .cons r t, .cons r' t' => by rw [hi H _ _ _ r r', paired_inj hi t t']
theorem eq_tup_ok (h : EqOk X D d) (hi : ∀ H a b x, D H a x → D H b x → a = b) : EqOk X (dTupOf X.K D) (d + 1) := by
  intro A pins s σ H as bs x y u v hu I ⟨p, xs, ex, hp, pa⟩ ⟨q, ys, ey, hq, pb⟩ ru rv
  subst ex ey
  cases ru
  cases rv
  by_cases hpq : p = q
  · subst hpq
    have e := I.tuple_inj hp hq
    subst e
    rw [decide_eq_true (paired_inj hi pa pb)]
    exact EqAt.same _
  · obtain ⟨us, r1, t1, _⟩ := I.tuple hp
    obtain ⟨vs, r2, t2, _⟩ := I.tuple hq
    have l1 := r1.length
    have l2 := r2.length
    have l3 := Paired.length pa
    have l4 := Paired.length pb
    have key := RcAt.tuples (A := A) (s := s) (e := fun j => decide (as[j]? = bs[j]?)) t1 t2 (by (first | lia | omega)) (items_eqAt h hu I pa pb r1 r2)
    refine EqAt.of_refs hpq ?_
    rw [List.size_toArray, List.size_toArray] at key
    have e : ((List.range (min us.length vs.length)).all (fun j => decide (as[j]? = bs[j]?)) && us.length == vs.length) = decide (as = bs) := by
      by_cases hl : as.length = bs.length
      · rw [show min us.length vs.length = as.length by (first | lia | omega), show (us.length == vs.length) = true by rw [beq_iff_eq]; (first | lia | omega), Bool.and_true]
        exact all_range_eq hl
      · rw [show (us.length == vs.length) = false by rw [beq_eq_false_iff_ne]; (first | lia | omega), Bool.and_false, decide_eq_false (fun e => hl (by rw [e]))]
    rw [e] at key
    exact key
theorem op_eqL (h : EqOk X D d) (hu : X.A.units + (d + 1) < cLine) : OpR X (compareOp .Eq) (fun x y H Q => ∃ p q xs ys as bs, x = .ref p ∧ y = .ref q ∧ SqL X.K H p xs ∧ SqL X.K H q ys ∧ Paired (D H) as xs ∧ Paired (D H) bs ys ∧ Q (.bl (decide (as = bs))) H) := by
  intro pins s σ H x y v u Q I rx ry ⟨p, q, xs, ys, as, bs, ex, ey, hp, hq, pa, pb, k⟩
  subst ex ey
  cases rx
  cases ry
  obtain ⟨us, r1, t1, _⟩ := I.list hp
  obtain ⟨vs, r2, t2, _⟩ := I.list hq
  have l1 := r1.length
  have l2 := r2.length
  have l3 := Paired.length pa
  have l4 := Paired.length pb
  by_cases hl : as.length = bs.length
  · refine eq_listAt (e := fun j => decide (as[j]? = bs[j]?)) t1.isList t2.isList (by rw [List.size_toArray, List.size_toArray]; (first | lia | omega)) (by (first | lia | omega)) (items_eqAt h hu I pa pb r1 r2) ⟨.bl _, H, I, rfl, ?_⟩
    rw [List.size_toArray, show us.length = as.length by (first | lia | omega), all_range_eq hl]
    exact k
  · refine eq_list_lengthsAt t1.isList t2.isList (by rw [List.size_toArray, List.size_toArray, bne_iff_ne]; (first | lia | omega)) (by (first | lia | omega)) ⟨.bl false, H, I, rfl, ?_⟩
    rw [decide_eq_false (fun e => hl (by rw [e]))] at k
    exact k
theorem op_neL (h : EqOk X D d) (hu : X.A.units + (d + 1) < cLine) : OpR X (compareOp .NotEq) (fun x y H Q => ∃ p q xs ys as bs, x = .ref p ∧ y = .ref q ∧ SqL X.K H p xs ∧ SqL X.K H q ys ∧ Paired (D H) as xs ∧ Paired (D H) bs ys ∧ Q (.bl (!decide (as = bs))) H) := by
  intro pins s σ H x y v u Q I rx ry ⟨p, q, xs, ys, as, bs, ex, ey, hp, hq, pa, pb, k⟩
  subst ex ey
  cases rx
  cases ry
  obtain ⟨us, r1, t1, _⟩ := I.list hp
  obtain ⟨vs, r2, t2, _⟩ := I.list hq
  have l1 := r1.length
  have l2 := r2.length
  have l3 := Paired.length pa
  have l4 := Paired.length pb
  by_cases hl : as.length = bs.length
  · have z := RcNeAt.lists (A := X.A) (s := s) (e := fun j => decide (as[j]? = bs[j]?)) t1.isList t2.isList (by rw [List.size_toArray, List.size_toArray]; (first | lia | omega)) (by (first | lia | omega)) (items_eqAt h hu I pa pb r1 r2)
    rw [List.size_toArray, show us.length = as.length by (first | lia | omega), all_range_eq hl] at z
    exact z X.prog X.w X.xe _ ⟨.bl _, H, I, rfl, k⟩
  · have z := RcNeAt.lists_lengths (A := X.A) (s := s) t1.isList t2.isList (by rw [List.size_toArray, List.size_toArray, bne_iff_ne]; (first | lia | omega)) (by (first | lia | omega))
    rw [decide_eq_false (fun e => hl (by rw [e]))] at k
    exact z X.prog X.w X.xe _ ⟨.bl true, H, I, rfl, k⟩
theorem op_eqT (h : EqOk X D d) (hu : X.A.units + (d + 1) < cLine) : OpR X (compareOp .Eq) (fun x y H Q => ∃ p q xs ys as bs, x = .ref p ∧ y = .ref q ∧ SqT X.K H p xs ∧ SqT X.K H q ys ∧ Paired (D H) as xs ∧ Paired (D H) bs ys ∧ Q (.bl (decide (as = bs))) H) := by
  intro pins s σ H x y v u Q I rx ry ⟨p, q, xs, ys, as, bs, ex, ey, hp, hq, pa, pb, k⟩
  subst ex ey
  cases rx
  cases ry
  obtain ⟨us, r1, t1, _⟩ := I.tuple hp
  obtain ⟨vs, r2, t2, _⟩ := I.tuple hq
  have l1 := r1.length
  have l2 := r2.length
  have l3 := Paired.length pa
  have l4 := Paired.length pb
  refine eq_tupleAt (e := fun j => decide (as[j]? = bs[j]?)) t1 t2 (by (first | lia | omega)) (items_eqAt h hu I pa pb r1 r2) ⟨.bl _, H, I, rfl, ?_⟩
  rw [List.size_toArray, List.size_toArray]
  have e : ((List.range (min us.length vs.length)).all (fun j => decide (as[j]? = bs[j]?)) && us.length == vs.length) = decide (as = bs) := by
    by_cases hl : as.length = bs.length
    · rw [show min us.length vs.length = as.length by (first | lia | omega), show (us.length == vs.length) = true by rw [beq_iff_eq]; (first | lia | omega), Bool.and_true]
      exact all_range_eq hl
    · rw [show (us.length == vs.length) = false by rw [beq_eq_false_iff_ne]; (first | lia | omega), Bool.and_false, decide_eq_false (fun e => hl (by rw [e]))]
  rw [e]
  exact k
theorem any_known {H : Hp} {a : α} {bs : List α} {ys : List V} {us : List Value} (hi : ∀ H a b x, D H a x → D H b x → a = b) (pb : Paired (D H) bs ys) (ru : Vals ys us) : ∃ e : Value → Bool, (∀ (i : Nat) (u : Value) (b : α), us[i]? = some u → bs[i]? = some b → e u = decide (b = a)) ∧ us.any e = decide (a ∈ bs) := by
  classical
  have hl := ru.length
  have hl2 := Paired.length pb
  refine ⟨fun u => decide (∃ i : Nat, us[i]? = some u ∧ bs[i]? = some a), fun i u b h1 h2 => ?_, ?_⟩
  · have iff : (∃ i : Nat, us[i]? = some u ∧ bs[i]? = some a) ↔ b = a := by
      constructor
      · rintro ⟨j, e1, e2⟩
        have k1 : i < ys.length := by rw [hl]; exact (List.getElem?_eq_some_iff.mp h1).1
        have k2 : j < ys.length := by rw [hl]; exact (List.getElem?_eq_some_iff.mp e1).1
        have g1 : ys[i]? = some ys[i] := List.getElem?_eq_getElem k1
        have g2 : ys[j]? = some ys[j] := List.getElem?_eq_getElem k2
        obtain ⟨b1, q1, d1⟩ := paired_get pb g1
        obtain ⟨b2, q2, d2⟩ := paired_get pb g2
        obtain ⟨u1, w1, r1⟩ := ru.get g1
        obtain ⟨u2, w2, r2⟩ := ru.get g2
        rw [h1] at w1; cases w1
        rw [e1] at w2; cases w2
        rw [h2] at q1; cases q1
        rw [e2] at q2; cases q2
        rw [r1.inj r2] at d1
        exact hi H _ _ _ d1 d2
      · intro e
        subst e
        exact ⟨i, h1, h2⟩
    by_cases hb : b = a
    · rw [decide_eq_true hb]; exact decide_eq_true (iff.mpr hb)
    · rw [decide_eq_false hb]; exact decide_eq_false fun z => hb (iff.mp z)
  · rw [Bool.eq_iff_iff, List.any_eq_true, decide_eq_true_eq]
    constructor
    · rintro ⟨u, _, h⟩
      obtain ⟨i, _, h⟩ := of_decide_eq_true h
      exact List.mem_of_getElem? h
    · intro h
      obtain ⟨i, hi'⟩ := List.getElem?_of_mem h
      have k : i < us.length := by rw [← hl, ← hl2]; exact (List.getElem?_eq_some_iff.mp hi').1
      exact ⟨us[i], List.getElem_mem k, decide_eq_true ⟨i, List.getElem?_eq_getElem k, hi'⟩⟩
theorem in_items {A : Around} {pins : List (Addr × Obj)} {s : Shared} {σ : St} {H : Hp} {a : α} {bs : List α} {x : V} {ys : List V} {v : Value} {us : List Value} (h : EqOk X D d) (hu : A.units + (d + 1) < cLine) (I : Inv X pins σ H s) (da : D H a x) (pb : Paired (D H) bs ys) (rx : RelV x v) (ru : Vals ys us)
    {e : Value → Bool} (he : ∀ (i : Nat) (u : Value) (b : α), us[i]? = some u → bs[i]? = some b → e u = decide (b = a)) : ∀ y, y ∈ us.toArray → EqAt A.in1 s y v (e y) := by
  intro y hy
  obtain ⟨i, hi⟩ := List.getElem?_of_mem (show y ∈ us by simpa using hy)
  have k : i < ys.length := by rw [ru.length]; exact (List.getElem?_eq_some_iff.mp hi).1
  have g : ys[i]? = some ys[i] := List.getElem?_eq_getElem k
  obtain ⟨b, q, db⟩ := paired_get pb g
  obtain ⟨u, w, r⟩ := ru.get g
  rw [hi] at w; cases w
  rw [he i _ b hi q]
  exact h A.in1 pins s σ H b a _ _ _ _ (by show A.units + 1 + d < cLine; (first | lia | omega)) I db da r rx
theorem op_inL (h : EqOk X D d) (hi : ∀ H a b x, D H a x → D H b x → a = b) (hu : X.A.units + (d + 1) < cLine) : OpR X (compareOp .In) (fun x y H Q => ∃ q ys a bs, y = .ref q ∧ (SqL X.K H q ys ∨ SqT X.K H q ys) ∧ D H a x ∧ Paired (D H) bs ys ∧ Q (.bl (decide (a ∈ bs))) H) := by
  intro pins s σ H x y v u Q I rx ry ⟨q, ys, a, bs, ey, hq, da, pb, k⟩
  subst ey
  cases ry
  rcases hq with hq | hq
  · obtain ⟨us, r, pl, _⟩ := I.list hq
    obtain ⟨e, he, ha⟩ := any_known (a := a) hi pb r
    refine in_listAt e pl.isList (in_items h hu I da pb rx r he) ⟨.bl _, H, I, rfl, ?_⟩
    rw [show us.toArray.any e = us.any e by simp, ha]
    exact k
  · obtain ⟨us, r, pl, _⟩ := I.tuple hq
    obtain ⟨e, he, ha⟩ := any_known (a := a) hi pb r
    refine in_tupleAt e pl (in_items h hu I da pb rx r he) ⟨.bl _, H, I, rfl, ?_⟩
    rw [show us.toArray.any e = us.any e by simp, ha]
    exact k
theorem op_notInL (h : EqOk X D d) (hi : ∀ H a b x, D H a x → D H b x → a = b) (hu : X.A.units + (d + 1) < cLine) : OpR X (compareOp .NotIn) (fun x y H Q => ∃ q ys a bs, y = .ref q ∧ (SqL X.K H q ys ∨ SqT X.K H q ys) ∧ D H a x ∧ Paired (D H) bs ys ∧ Q (.bl (!decide (a ∈ bs))) H) := by
  intro pins s σ H x y v u Q I rx ry ⟨q, ys, a, bs, ey, hq, da, pb, k⟩
  subst ey
  cases ry
  rcases hq with hq | hq
  · obtain ⟨us, r, pl, _⟩ := I.list hq
    obtain ⟨e, he, ha⟩ := any_known (a := a) hi pb r
    refine notIn_listAt e pl.isList (in_items h hu I da pb rx r he) ⟨.bl _, H, I, rfl, ?_⟩
    rw [show us.toArray.any e = us.any e by simp, ha]
    exact k
  · obtain ⟨us, r, pl, _⟩ := I.tuple hq
    obtain ⟨e, he, ha⟩ := any_known (a := a) hi pb r
    refine notIn_tupleAt e pl (in_items h hu I da pb rx r he) ⟨.bl _, H, I, rfl, ?_⟩
    rw [show us.toArray.any e = us.any e by simp, ha]
    exact k
end
theorem dInt_inj : ∀ (H : Hp) (a b : Int) (x : V), dInt H a x → dInt H b x → a = b := fun _ _ _ _ h1 h2 => by
  have e := h1.symm.trans h2
  cases e
  rfl
theorem paired_ints {H : Hp} : ∀ (ns : List Int), Paired (dInt H) ns (ns.map V.int)
  | [] => .nil
  | _ :: r => .cons rfl (paired_ints r)
def dT : Den (List Int) := fun H ns v => ∃ p, v = .ref p ∧ H p = some (.tup (ns.map V.int))
theorem map_int_inj : ∀ {as bs : List Int}, as.map V.int = bs.map V.int → as = bs
  | [], [], _ => rfl
  | [], _ :: _, h => by cases h
  | _ :: _, [], h => by cases h
  | a :: as, b :: bs, h => by
    rw [List.map_cons, List.map_cons] at h
    injection h with h1 h2
    injection h1 with h1
    rw [h1, map_int_inj h2]
theorem dT_inj : ∀ (H : Hp) (a b : List Int) (x : V), dT H a x → dT H b x → a = b := fun H a b x ⟨p, e, h⟩ ⟨q, e', h'⟩ => by
  subst e
  cases e'
  rw [h] at h'
  have z := Option.some.inj h'
  injection z with z
  exact map_int_inj z
theorem eq_dT_ok {X : Cx} : EqOk X dT 1 := by
  intro A pins s σ H a b x y u v hu I ⟨p, e, h⟩ ⟨q, e', h'⟩ ru rv
  exact eq_tup_ok (d := 0) eq_int_ok dInt_inj A pins s σ H a b x y u v hu I ⟨p, _, e, SqT.of h, paired_ints a⟩ ⟨q, _, e', SqT.of h', paired_ints b⟩ ru rv
section
variable {α : Type} {P : α → V → Prop}
theorem pd_append : ∀ {as bs : List α} {xs ys : List V}, Paired P as xs → Paired P bs ys → Paired P (as ++ bs) (xs ++ ys)
  | _, _, _, _, .nil, s => s
  | _, _, _, _, .cons r t, s => .cons r (pd_append t s)
theorem pd_take : ∀ {as : List α} {xs : List V} (n : Nat), Paired P as xs → Paired P (as.take n) (xs.take n)
  | _, _, 0, _ => by rw [List.take_zero, List.take_zero]; exact .nil
  | _, _, _ + 1, .nil => .nil
  | _, _, n + 1, .cons r t => .cons r (pd_take n t)
theorem pd_drop : ∀ {as : List α} {xs : List V} (n : Nat), Paired P as xs → Paired P (as.drop n) (xs.drop n)
  | _, _, 0, r => r
  | _, _, _ + 1, .nil => .nil
  | _, _, n + 1, .cons _ t => pd_drop n t
theorem pd_rep {as : List α} {xs : List V} (h : Paired P as xs) : ∀ k : Nat, Paired P (List.replicate k as).flatten (List.replicate k xs).flatten
  | 0 => .nil
  | k + 1 => by
    rw [List.replicate_succ, List.replicate_succ, List.flatten_cons, List.flatten_cons]
    exact pd_append h (pd_rep h k)
end
theorem pd_same {α : Type} {D : Den α} {H H' : Hp} (hm : ∀ a x, D H a x → D H' a x) {as : List α} {xs : List V} (h : Paired (D H) as xs) : Paired (D H') as xs := Paired.mapP h hm
theorem dT_same {H H' : Hp} (s : Same H H') : ∀ a x, dT H a x → dT H' a x := fun _ _ ⟨p, e, h⟩ => ⟨p, e, s _ _ h⟩
theorem same_upd {H : Hp} {l : Addr} {o : HO} (h : H l = none) : Same H (upd H l o) := fun b u e => by rw [upd_ne (ne_of_none e h)]; exact e
theorem same_upd' {H H' : Hp} {l : Addr} {o : HO} (s : Same H H') (h : H l = none) : Same H (upd H' l o) := fun b u e => by rw [upd_ne (ne_of_none e h)]; exact s b u e
def Nx (N i : Nat) (P : Prop) : Prop := ∃ m', m' < N - i ∧ m' = N - (i + 1) ∧ i + 1 ≤ N ∧ P
theorem Nx.mk {N i : Nat} {P : Prop} (h : i < N) (p : P) : Nx N i P := ⟨_, by (first | lia | omega), rfl, h, p⟩
theorem comp_list' {K : PySem.W.Frag} {a : Addr} {xs : List V} {n : Nat} {fs : List (Nat × Str)} {g : TG} {tc : TT} {te : TE} {σ : St} {H1 : Hp} {Q : VK} {l : Addr} (Pv : Nat → List V → Hp → Prop) (h0 : Pv 0 [] (upd H1 l (.lst [])))
    (hl : ∀ i acc H, i ≤ xs.length → Pv i acc H → SqL K H a xs ∧ H l = some (.lst acc))
    (hs : ∀ i x acc H, xs[i]? = some x → i < xs.length → Pv i acc H → acc.length < sizeLine ∧ g x (sgC n fs σ) H fun σ2 H2 => Wk n (sgC n fs σ) σ2 ∧ tc σ2 H2 fun b H3 =>
      if b = true then te σ2 H3 fun y H4 => H4 l = some (.lst acc) ∧ Nx xs.length i (Pv (i + 1) (acc ++ [y]) (upd H4 l (.lst (acc ++ [y])))) else Nx xs.length i (Pv (i + 1) acc H3))
    (hd : ∀ acc H, Pv xs.length acc H → Q (.ref l) H) : CompW n fs (Itl K a) g tc te σ H1 Q l := by
  refine ⟨fun i m acc H => m = xs.length - i ∧ i ≤ xs.length ∧ Pv i acc H, ⟨_, rfl, Nat.zero_le _, h0⟩, ?_⟩
  rintro i m acc H ⟨rfl, hi, p⟩
  obtain ⟨q, hla⟩ := hl i acc H hi p
  refine ⟨hla, ?_⟩
  by_cases hlt : i < xs.length
  · have hx : xs[i]? = some xs[i] := List.getElem?_eq_getElem hlt
    refine .inr ⟨(hs i _ acc H hx hlt p).1, ⟨xs, xs[i], q, hx⟩, fun x H' y => ?_⟩
    obtain ⟨e, y⟩ := y
    subst e
    exact (hs i x acc _ (y xs q) hlt p).2
  · have e : i = xs.length := by (first | lia | omega)
    subst e
    exact .inl ⟨⟨xs, q, Nat.le_refl _⟩, hd acc H p⟩
theorem comp_range' {lo : Int} {m0 : Nat} {n : Nat} {fs : List (Nat × Str)} {g : TG} {tc : TT} {te : TE} {σ : St} {H1 : Hp} {Q : VK} {l : Addr} (Pv : Nat → List V → Hp → Prop) (h0 : Pv 0 [] (upd H1 l (.lst [])))
    (hl : ∀ i acc H, i ≤ m0 → Pv i acc H → H l = some (.lst acc))
    (hs : ∀ i acc H, i < m0 → Pv i acc H → acc.length < sizeLine ∧ g (.int (lo + i)) (sgC n fs σ) H fun σ2 H2 => Wk n (sgC n fs σ) σ2 ∧ tc σ2 H2 fun b H3 =>
      if b = true then te σ2 H3 fun y H4 => H4 l = some (.lst acc) ∧ Nx m0 i (Pv (i + 1) (acc ++ [y]) (upd H4 l (.lst (acc ++ [y])))) else Nx m0 i (Pv (i + 1) acc H3))
    (hd : ∀ acc H, Pv m0 acc H → Q (.ref l) H) : CompW n fs (Itr lo m0) g tc te σ H1 Q l := by
  refine ⟨fun i m acc H => m = m0 - i ∧ i ≤ m0 ∧ Pv i acc H, ⟨_, rfl, Nat.zero_le _, h0⟩, ?_⟩
  rintro i m acc H ⟨rfl, hi, p⟩
  refine ⟨hl i acc H hi p, ?_⟩
  by_cases hlt : i < m0
  · refine .inr ⟨(hs i acc H hlt p).1, hlt, fun x H' y => ?_⟩
    obtain ⟨e, y⟩ := y
    subst e y
    exact (hs i acc _ hlt p).2
  · have e : i = m0 := by (first | lia | omega)
    subst e
    exact .inl ⟨Nat.le_refl _, hd acc H p⟩
structure Def (K : PySem.W.Frag) (mg : Str → Option Value) (x : Str) (st : Stmt) (ps : List Str) where
  f : Addr
  fd : FuncData
  F : Fun K x x st f fd
  mgf : mg x = some (.ref f)
  b : Binds K fd ps []
def scopeOk (names outer : List (Str × NameKind)) : Bool := names.all fun y => (y.2 != NameKind.cell) && (y.2 != NameKind.local || names.lookup y.1 == some .local) && (y.2 != NameKind.free || outer.lookup y.1 == some .cell || outer.lookup y.1 == some .free)
theorem CScope.mk' {X : Cx} {scope : Scope} {ts : List Str} {fs : List (Nat × Str)} (kind : scope.kind = .function) (c : scopeOk scope.names X.env.scope.names = true) (f : FsOk X.N scope fs) : CScope X scope ts fs := by
  have all : ∀ y ∈ scope.names, ((y.2 != NameKind.cell) && (y.2 != NameKind.local || scope.names.lookup y.1 == some .local) && (y.2 != NameKind.free || X.env.scope.names.lookup y.1 == some .cell || X.env.scope.names.lookup y.1 == some .free)) = true := List.all_eq_true.mp c
  refine ⟨kind, fun y hy z => ?_, fun y hy z => ?_, fun y hy z => ?_, f⟩
  · have h := all y hy
    rw [z] at h
    simp at h
  · have h := all y hy
    rw [z] at h
    simpa using h
  · have h := all y hy
    rw [z] at h
    simp at h
    exact h
end L2
namespace L2
open PySem PySem.Spec PyProof.Rows PySem.SeqAt
theorem getD_map_range (ns : List Int) : ((List.range ns.length).map fun i => ns.getD i 0) = ns := by
  refine List.ext_getElem? fun i => ?_
  rw [List.getElem?_map]
  by_cases h : i < ns.length
  · rw [List.getElem?_range h, List.getElem?_eq_getElem h]
    show some (ns.getD i 0) = _
    rw [List.getD_eq_getElem?_getD, List.getElem?_eq_getElem h]
    rfl
  · rw [List.getElem?_eq_none (by rw [List.length_range]; (first | lia | omega)), List.getElem?_eq_none (by (first | lia | omega))]
    rfl
theorem dedup_nodup : ∀ (ns acc : List Int), (acc ++ ns).Nodup → ns.foldl step_dedup acc = acc ++ ns
  | [], acc, _ => by rw [List.append_nil]; rfl
  | n :: ns, acc, h => by
    have hn : n ∉ acc := fun hm => by
      rw [List.nodup_append] at h
      exact h.2.2 n hm n List.mem_cons_self rfl
    have e : step_dedup acc n = acc ++ [n] := by
      unfold step_dedup
      have z : acc.any (fun x => x == n) = false := by
        rw [List.any_eq_false]
        intro x hx q
        exact hn (by rw [← eq_of_beq q]; exact hx)
      first
        | (rw [z]; rfl)
        | simp [z, hn]
    rw [List.foldl_cons, e, dedup_nodup ns (acc ++ [n]) (by rw [List.append_assoc]; exact h), List.append_assoc]
    rfl
theorem firstMet_nodup {ns : List Int} (h : ns.Nodup) : firstMet (fun i => ns.getD i 0) ns.length = ns := by
  unfold firstMet
  rw [getD_map_range]
  exact dedup_nodup ns [] (by simpa using h)
section
variable {X : Cx}
theorem call_setI (hc : X.calm = true) : CallR X (.type "set") (fun xs H Q => ∃ (p : Addr) (ns : List Int), xs = [.ref p] ∧ SqL X.K H p (ns.map V.int) ∧ ns.Nodup ∧ ns.length ≤ 1000 ∧ ∀ l S, H l = none → Q (.ref l) (upd H l (.set S ns.length))) := by
  intro pins s σ H xs us Q I r h
  obtain ⟨p, ns, rfl, hq, hnd, hl, q⟩ := h
  obtain ⟨u, rfl, ru⟩ := vals1 r
  cases ru
  obtain ⟨its, r', pl, hz⟩ := I.list hq
  have hlen := r'.length
  rw [List.length_map] at hlen
  have hI : IntsAre its.toArray.toList ns := intsAre_of r'
  refine call_set_list (I.ok.hd hc) pl.isList hI (by rw [List.size_toArray]; show _ < 4096; (first | lia | omega)) fun h' tk hS hk => ?_
  rw [show its.toArray.size = ns.length by rw [List.size_toArray]; exact hlen.symm, firstMet_nodup hnd] at hS
  refine ⟨.ref s.heap.objs.size, _, I.laid (o := .set _ ns.length) (fun b o e => hk b o (Heap.lt_size e) e) (Nat.le_refl _) hS, rfl, q _ _ (I.hok.fresh (Nat.le_refl _))⟩
theorem call_lenS : CallR X (.builtin "len") (fun xs H Q => ∃ (p : Addr) (S : Int → Bool) (n : Nat), xs = [.ref p] ∧ H p = some (.set S n) ∧ Q (.int n) H) := by
  intro pins s σ H xs us Q I r h
  obtain ⟨p, S, n, rfl, hp, q⟩ := h
  obtain ⟨u, rfl, ru⟩ := vals1 r
  cases ru
  obtain ⟨o, es, ep, t, ho, hex, hd, _, _, hb, hf, hn⟩ := I.hok p _ hp
  have hb' : es.size < 4096 := hb
  refine PySem.call_len_set ho hex hd hf (by (first | lia | omega)) ⟨.int n, H, I.tok _, ⟨_, by rw [hn]⟩, q⟩
theorem call_allB (hc : X.calm = true) : CallR X (.builtin "all") (fun xs H Q => ∃ (p : Addr) (bs : List Bool), xs = [.ref p] ∧ SqL X.K H p (bs.map V.bl) ∧ Q (.bl (bs.all id)) H) := by
  intro pins s σ H xs us Q I r h
  obtain ⟨p, bs, rfl, hq, q⟩ := h
  obtain ⟨u, rfl, ru⟩ := vals1 r
  cases ru
  obtain ⟨its, r', pl, hz⟩ := I.list hq
  have hlen := r'.length
  rw [List.length_map] at hlen
  refine call_all_walk (wpAny_pyIter_list pl.isList ?_)
  have hplt : p < s.heap.objs.size := by
    obtain ⟨o, e, _⟩ := pl.isList
    exact Heap.lt_size e
  have I1 : Inv X pins σ H { s with heap := s.heap.push { cls := .type "list_iterator", data := .fields #[.ref p, rawInt 0] } } := I.kept (t' := s.toks) fun b o e => Heap.get?_push_of_some _ e
  refine ⟨s.heap.objs.size, _, _, _, _, _, fun i => bs.getD i false, rfl, Walks.list (A := X.A.in1) (show X.A.in1.handled = none from I.ok.hd hc) s.heap.objs.size p (Nat.ne_of_lt hplt) its.toArray, ⟨⟨_, Heap.get?_push_size _ rfl, rfl, rfl⟩, ?_⟩, ?_, fun h' tk hk => ?_⟩
  · obtain ⟨o, e, c⟩ := pl.isList
    exact ⟨o, Heap.get?_push_of_some _ e, c⟩
  · intro i v s' Q' E' hv hQ
    have hv' : its[i]? = some v := by simpa using hv
    have hi : i < its.length := (List.getElem?_eq_some_iff.mp hv').1
    obtain ⟨w, hw, rw'⟩ := r'.get (i := i) (x := .bl (bs.getD i false)) (by
      rw [List.getElem?_map, List.getElem?_eq_getElem (by (first | lia | omega)), List.getD_eq_getElem?_getD, List.getElem?_eq_getElem (by (first | lia | omega))]; rfl)
    rw [hv'] at hw
    cases hw
    cases rw'
    exact wpAny_truthy_bool hQ
  · have e : (List.range its.toArray.size).all (fun i => bs.getD i false) = bs.all id := by
      rw [List.size_toArray, ← hlen, Bool.eq_iff_iff, List.all_eq_true, List.all_eq_true]
      constructor
      · intro h x hx
        obtain ⟨i, hi⟩ := List.getElem?_of_mem hx
        have := h i (List.mem_range.mpr (List.getElem?_eq_some_iff.mp hi).1)
        rw [List.getD_eq_getElem?_getD, hi] at this
        exact this
      · intro h i hi
        have hi' := List.mem_range.mp hi
        rw [List.getD_eq_getElem?_getD, List.getElem?_eq_getElem hi']
        exact h _ (List.getElem_mem hi')
    rw [e]
    have f := I.fpOk (H' := H) (Nat.le_refl s.heap.objs.size) (I.hok.fresh (Nat.le_refl _))
    obtain ⟨f0, f1, f2, f3, f4, f5⟩ := f
    exact ⟨.bl _, H, I1.turned (t' := tk) (fun b o hb e => hk b o (by simpa using hb) e) f0 f1 f3 f4 f5, rfl, q⟩
theorem mt_removeI : MtM X "list.remove" (fun x vs H Q => ∃ (l : Addr) (ns : List Int) (k : Int), x = .ref l ∧ vs = [.int k] ∧ H l = some (.lst (ns.map V.int)) ∧ k ∈ ns ∧ Q .non (upd H l (.lst ((ns.eraseIdx (ns.idxOf k)).map V.int)))) := by
  intro pins s σ H x vs v us Q I rx rv h
  obtain ⟨l, ns, k, rfl, rfl, hH, hk, q⟩ := h
  cases rx
  obtain ⟨u, rfl, ru⟩ := rv.one
  obtain ⟨t, rfl⟩ := ru
  obtain ⟨z, its, n, r, hl, e⟩ := I.lstM hH
  rw [List.length_map] at hl
  have hi : IntsAre its ns := intsAre_of r
  have hj : ns.idxOf k < ns.length := List.idxOf_lt_length_iff.mpr hk
  refine call_meets F.slot_list_remove ⟨_, e, rfl⟩ F.entry_list_remove (F.args_list_remove_2 _ _)
    (MeetsSeq.list_remove l its.toArray n (.int k t) (isInt k) (fun y hy => eq_isInt k t hi y (by simpa using hy)) (ns.idxOf k) (by rw [List.size_toArray]; (first | lia | omega)) ?_ ?_ (by rw [List.size_toArray]; rw [List.length_map] at z; (first | lia | omega))) ⟨e, ?_⟩
  · rw [List.getElem_toArray, isInt_at k hi _ (by (first | lia | omega)) hj]
    simpa using List.getElem_idxOf hj
  · intro j hjs hlt
    rw [List.size_toArray] at hjs
    rw [List.getElem_toArray, isInt_at k hi j hjs (by (first | lia | omega))]
    exact ne_of_lt_idxOf hlt _
  · have em : (ns.eraseIdx (ns.idxOf k)).map V.int = (ns.map V.int).eraseIdx (ns.idxOf k) := by
      have : ∀ (l : List Int) (i : Nat), (l.eraseIdx i).map V.int = (l.map V.int).eraseIdx i := by
        intro l
        induction l with
        | nil => intro i; rfl
        | cons a l ih =>
          intro i
          cases i with
          | zero => rfl
          | succ i => rw [List.eraseIdx_cons_succ, List.map_cons, List.map_cons, List.eraseIdx_cons_succ, ih]
      exact this ns _
    rw [em] at q
    refine ⟨.non, _, I.lset (its' := its.eraseIdx (ns.idxOf k)) (t' := s.toks) hH e ?_ (r.eraseIdx _) ?_, rfl, q⟩
    · show its.toArray.eraseIdxIfInBounds (ns.idxOf k) = (its.eraseIdx (ns.idxOf k)).toArray
      rw [List.eraseIdxIfInBounds_toArray]
    · have := len_erase (ns.map V.int) (ns.idxOf k)
      (first | lia | omega)
end
end L2
namespace L2
open PySem PySem.Spec PyProof.Rows
theorem iteP {c A B : Prop} [Decidable c] (hc : c) (h : A) : if decide c = true then A else B := by
  rw [decide_eq_true hc]
  exact iteT h
theorem iteN {c A B : Prop} [Decidable c] (hc : ¬ c) (h : B) : if decide c = true then A else B := by
  rw [decide_eq_false hc]
  exact iteF h
theorem iteNN {c A B : Prop} [Decidable c] (hc : ¬ c) (h : A) : if (!decide c) = true then A else B := by
  rw [decide_eq_false hc]
  exact iteT h
theorem iteS {c A B : Prop} {i : Decidable c} (hc : c) (h : B) : if (!@decide c i) = true then A else B := by
  rw [@decide_eq_true c i hc]
  exact iteF h
theorem of_dec {c : Prop} {i : Decidable c} (h : @decide c i = true) : c := @of_decide_eq_true c i h
theorem sz1 {x : V} : ([x] : List V).length ≤ sizeLine := by show 1 ≤ sizeLine; rw [sizeLine_eq]; decide
theorem sz2 {x y : V} : ([x, y] : List V).length ≤ sizeLine := by show 2 ≤ sizeLine; rw [sizeLine_eq]; decide
theorem cat_tup0 {prog : Program} {w : World} {A : Around} {E : Value → Shared → Prop} {s : Shared} {t b : Addr} {ws : List Value} {Q : Value → Shared → Prop} (ht : IsTup s.heap t ([] : List Value).toArray) (hb : IsTup s.heap b ws.toArray) (h : Q (.ref b) s) :
    wpAny (model prog w) A (binaryOp .Add (.ref t) (.ref b)) Q E s := by
  obtain ⟨⟨cls, dd, data, sl⟩, ho, hc, n, hd⟩ := id ht
  obtain ⟨⟨cls2, dd2, data2, sl2⟩, ho2, hc2, n2, hd2⟩ := id hb
  simp only at hc hd hc2 hd2
  subst hc hd hc2 hd2
  exact concat_meets ⟨_, ho, rfl⟩ ⟨_, ho2, rfl⟩ noFill_tuple_add seq_tuple_add PySem.F.slot_tuple_add PySem.F.entry_tuple_add (PySem.F.args_tuple_add_2 _ _)
    (tuple_addW0 t b ([] : List Value).toArray ws.toArray n n2 dd dd2 sl sl2 (by simp)) ⟨ho, ho2, h⟩
section
variable {X : Cx}
theorem op_catU : OpR X (binaryOp .Add) (fun x y H Q => ∃ a b xs ys, x = .ref a ∧ y = .ref b ∧ SqT X.K H a xs ∧ H b = some (.tup ys) ∧ ys ≠ [] ∧ xs.length + ys.length ≤ sizeLine ∧ ∀ p H', Same H H' → H' p = some (.tup (xs ++ ys)) → Q (.ref p) H') := by
  intro pins s σ H x y v u Q I rx ry h
  obtain ⟨a, b, xs, ys, rfl, rfl, ha, hb, hy, hz, q⟩ := h
  by_cases hx : xs = []
  · subst hx
    cases rx
    cases ry
    obtain ⟨its, r1, p1, _⟩ := I.tuple ha
    obtain ⟨its2, r2, p2, _⟩ := I.tuple (SqT.of hb)
    have e : its = [] := r1.nil_iff.mpr rfl
    subst e
    exact cat_tup0 p1 p2 ⟨.ref b, H, I, rfl, q b H (Same.refl H) (by rw [List.nil_append]; exact hb)⟩
  · exact op_catT pins s σ H (.ref a) (.ref b) v u Q I rx ry ⟨a, b, xs, ys, rfl, rfl, ha, SqT.of hb, hx, hz, fun z => absurd z hy, fun _ p hp => q p _ (same_upd hp) upd_same⟩
end
theorem comp_tup' {K : PySem.W.Frag} {a : Addr} {xs : List V} {n : Nat} {fs : List (Nat × Str)} {g : TG} {tc : TT} {te : TE} {σ : St} {H1 : Hp} {Q : VK} {l : Addr} (Pv : Nat → List V → Hp → Prop) (h0 : Pv 0 [] (upd H1 l (.lst [])))
    (hl : ∀ i acc H, i ≤ xs.length → Pv i acc H → SqT K H a xs ∧ H l = some (.lst acc))
    (hs : ∀ i x acc H, xs[i]? = some x → i < xs.length → Pv i acc H → acc.length < sizeLine ∧ g x (sgC n fs σ) H fun σ2 H2 => Wk n (sgC n fs σ) σ2 ∧ tc σ2 H2 fun b H3 =>
      if b = true then te σ2 H3 fun y H4 => H4 l = some (.lst acc) ∧ Nx xs.length i (Pv (i + 1) (acc ++ [y]) (upd H4 l (.lst (acc ++ [y])))) else Nx xs.length i (Pv (i + 1) acc H3))
    (hd : ∀ acc H, Pv xs.length acc H → Q (.ref l) H) : CompW n fs (Itt K a) g tc te σ H1 Q l := by
  refine ⟨fun i m acc H => m = xs.length - i ∧ i ≤ xs.length ∧ Pv i acc H, ⟨_, rfl, Nat.zero_le _, h0⟩, ?_⟩
  rintro i m acc H ⟨rfl, hi, p⟩
  obtain ⟨q, hla⟩ := hl i acc H hi p
  refine ⟨hla, ?_⟩
  by_cases hlt : i < xs.length
  · have hx : xs[i]? = some xs[i] := List.getElem?_eq_getElem hlt
    refine .inr ⟨(hs i _ acc H hx hlt p).1, ⟨xs, xs[i], q, hx⟩, fun x H' y => ?_⟩
    obtain ⟨e, y⟩ := y
    subst e
    exact (hs i x acc _ (y xs q) hlt p).2
  · have e : i = xs.length := by (first | lia | omega)
    subst e
    exact .inl ⟨⟨xs, q, Nat.le_refl _⟩, hd acc H p⟩
def tCut (t : TS) : TS := fun D σ H => ∃ P : St → Hp → Prop, t { D with nx := P } σ H ∧ ∀ σ' H', P σ' H' → D.nx σ' H'
theorem ps_cut {X : Cx} {st : Stmt} {t : TS} (h : PS X st t) : PS X st (tCut t) := by
  rintro pins s σ H D I ⟨P, hp, hk⟩
  refine thn (h pins s σ H _ I hp) fun f s' q => ?_
  cases f with
  | next => obtain ⟨σ', H', I', q⟩ := q; exact ⟨σ', H', I', hk _ _ q⟩
  | brk => exact q
  | cont => exact q
  | ret v => exact q
def tCutT (t : TT) : TT := fun σ H Q => ∃ P : Bool → Hp → Prop, t σ H P ∧ ∀ b H', P b H' → Q b H'
theorem pt_cut {X : Cx} {e : Expr} {t : TT} (h : PT X e t) : PT X e (tCutT t) := by
  rintro pins s σ H Q I ⟨P, hp, hk⟩
  exact thn (h pins s σ H _ I hp) fun b s' ⟨H', I', q⟩ => ⟨H', I', hk _ _ q⟩
end L2
namespace Srt
open PySem PySem.W PyProof.Rows
def run {α : Type} (lt : Nat → Nat → Bool) : KasT α → α
  | .ret a => a
  | .ask i j k => run lt (k (lt i j))
theorem run_bind {α β : Type} (lt : Nat → Nat → Bool) (f : α → KasT β) : ∀ t : KasT α, run lt (t.bind f) = run lt (f (run lt t))
  | .ret _ => rfl
  | .ask i j k => run_bind lt f (k (lt i j))
structure Ord (N : Nat) (lt : Nat → Nat → Bool) : Prop where
  tri : ∀ a b, a < N → b < N → a ≠ b → lt a b = true ∨ lt b a = true
  tr : ∀ a b c, a < N → b < N → c < N → lt a b = true → lt b c = true → lt a c = true
  asy : ∀ a b, a < N → b < N → lt a b = true → lt b a = false
structure Arr (N : Nat) (p : Array Nat) : Prop where
  size : p.size = N
  low : ∀ i, i < N → p.getD i 0 < N
  inj : ∀ i j, i < N → j < N → i ≠ j → p.getD i 0 ≠ p.getD j 0
def Up (lt : Nat → Nat → Bool) (p : Array Nat) (m : Nat) : Prop := ∀ i j, i < j → j < m → lt (p.getD i 0) (p.getD j 0) = true
def Dn (lt : Nat → Nat → Bool) (p : Array Nat) (m : Nat) : Prop := ∀ i j, i < j → j < m → lt (p.getD j 0) (p.getD i 0) = true
section
variable {N : Nat} {lt : Nat → Nat → Bool} {p : Array Nat}
theorem Ord.no (o : Ord N lt) (a : Arr N p) {i j : Nat} (hi : i < N) (hj : j < N) (h : i ≠ j) (e : ¬ lt (p.getD i 0) (p.getD j 0) = true) : lt (p.getD j 0) (p.getD i 0) = true :=
  (o.tri _ _ (a.low i hi) (a.low j hj) (a.inj i j hi hj h)).elim (fun z => absurd z e) id
theorem Up.snoc (o : Ord N lt) (a : Arr N p) {n : Nat} (h1 : 1 ≤ n) (hn : n < N) (u : Up lt p n) (e : lt (p.getD (n - 1) 0) (p.getD n 0) = true) : Up lt p (n + 1) := fun i j hij hj => by
  by_cases hjn : j < n
  · exact u i j hij hjn
  · have ej : j = n := by (first | lia | omega)
    subst ej
    by_cases hi : i = j - 1
    · rw [hi]; exact e
    · exact o.tr _ _ _ (a.low i (by (first | lia | omega))) (a.low (j - 1) (by (first | lia | omega))) (a.low j hn) (u i (j - 1) (by (first | lia | omega)) (by (first | lia | omega))) e
theorem Dn.snoc (o : Ord N lt) (a : Arr N p) {n : Nat} (h1 : 1 ≤ n) (hn : n < N) (u : Dn lt p n) (e : lt (p.getD n 0) (p.getD (n - 1) 0) = true) : Dn lt p (n + 1) := fun i j hij hj => by
  by_cases hjn : j < n
  · exact u i j hij hjn
  · have ej : j = n := by (first | lia | omega)
    subst ej
    by_cases hi : i = j - 1
    · rw [hi]; exact e
    · exact o.tr _ _ _ (a.low j hn) (a.low (j - 1) (by (first | lia | omega))) (a.low i (by (first | lia | omega))) e (u i (j - 1) (by (first | lia | omega)) (by (first | lia | omega)))
theorem asc (o : Ord N lt) (a : Arr N p) : ∀ (f n : Nat), 1 ≤ n → n + f = N → Up lt p n → n ≤ run lt (kas_asc p f n) ∧ run lt (kas_asc p f n) ≤ N ∧ Up lt p (run lt (kas_asc p f n)) ∧ (run lt (kas_asc p f n) < N → lt (p.getD (run lt (kas_asc p f n)) 0) (p.getD (run lt (kas_asc p f n) - 1) 0) = true)
  | 0, n, _, hf, u => ⟨Nat.le_refl n, (by show n ≤ N; (first | lia | omega)), u, fun h => (by have h' : n < N := h; (first | lia | omega))⟩
  | f + 1, n, h1, hf, u => by
    show n ≤ run lt (if lt (p.getD n 0) (p.getD (n - 1) 0) = true then .ret n else kas_asc p f (n + 1)) ∧ run lt (if lt (p.getD n 0) (p.getD (n - 1) 0) = true then .ret n else kas_asc p f (n + 1)) ≤ N ∧ Up lt p (run lt (if lt (p.getD n 0) (p.getD (n - 1) 0) = true then .ret n else kas_asc p f (n + 1))) ∧
      (run lt (if lt (p.getD n 0) (p.getD (n - 1) 0) = true then .ret n else kas_asc p f (n + 1)) < N → lt (p.getD (run lt (if lt (p.getD n 0) (p.getD (n - 1) 0) = true then .ret n else kas_asc p f (n + 1))) 0) (p.getD (run lt (if lt (p.getD n 0) (p.getD (n - 1) 0) = true then .ret n else kas_asc p f (n + 1)) - 1) 0) = true)
    by_cases e : lt (p.getD n 0) (p.getD (n - 1) 0) = true
    · rw [if_pos e]
      exact ⟨Nat.le_refl n, (by show n ≤ N; (first | lia | omega)), u, fun _ => e⟩
    · rw [if_neg e]
      obtain ⟨q1, q2, q3, q4⟩ := asc o a f (n + 1) (by (first | lia | omega)) (by (first | lia | omega)) (u.snoc o a h1 (by (first | lia | omega)) (o.no a (by (first | lia | omega)) (by (first | lia | omega)) (by (first | lia | omega)) e))
      exact ⟨by (first | lia | omega), q2, q3, q4⟩
theorem desc (o : Ord N lt) (a : Arr N p) : ∀ (f n : Nat), 1 ≤ n → n + f = N → Dn lt p n → ∃ m, run lt (kas_desc f p n 0) = (p, m, 0) ∧ n ≤ m ∧ m ≤ N ∧ Dn lt p m
  | 0, n, _, hf, u => ⟨n, rfl, Nat.le_refl n, by (first | lia | omega), u⟩
  | f + 1, n, h1, hf, u => by
    show ∃ m, run lt (if lt (p.getD n 0) (p.getD (n - 1) 0) = true then (if 0 > 0 then kas_desc f (kas_rev p (n - (0 + 1)) n) (n + 1) 0 else kas_desc f p (n + 1) 0)
      else .ask (p.getD (n - 1) 0) (p.getD n 0) fun d => if d = true then .ret (p, n, 0) else kas_desc f p (n + 1) (0 + 1)) = (p, m, 0) ∧ n ≤ m ∧ m ≤ N ∧ Dn lt p m
    by_cases e : lt (p.getD n 0) (p.getD (n - 1) 0) = true
    · rw [if_pos e, if_neg (by (first | lia | omega))]
      obtain ⟨m, q1, q2, q3, q4⟩ := desc o a f (n + 1) (by (first | lia | omega)) (by (first | lia | omega)) (u.snoc o a h1 (by (first | lia | omega)) e)
      exact ⟨m, q1, by (first | lia | omega), q3, q4⟩
    · rw [if_neg e]
      have e' := o.no a (i := n) (j := n - 1) (by (first | lia | omega)) (by (first | lia | omega)) (by (first | lia | omega)) e
      refine ⟨n, ?_, Nat.le_refl n, by (first | lia | omega), u⟩
      show run lt (if lt (p.getD (n - 1) 0) (p.getD n 0) = true then KasT.ret (p, n, 0) else kas_desc f p (n + 1) (0 + 1)) = (p, n, 0)
      rw [if_pos e']
      rfl
theorem getD_of {q : Array Nat} {i j : Nat} (h : q[i]? = p[j]?) : q.getD i 0 = p.getD j 0 := by
  rw [Array.getD_eq_getD_getElem?, Array.getD_eq_getD_getElem?, h]
theorem rev_get (a : Arr N p) {n : Nat} (hn : n ≤ N) (k : Nat) : (kas_rev p 0 n).getD k 0 = if k < n then p.getD (n - 1 - k) 0 else p.getD k 0 := by
  have h := getElem?_mirror_all (xs := p) (i := 0) (j := n) (by rw [a.size]; exact hn) k
  by_cases hk : k < n
  · rw [if_pos hk]
    rw [if_pos ⟨Nat.zero_le _, hk⟩] at h
    exact (getD_of h).trans (by congr 1; (first | lia | omega))
  · rw [if_neg hk]
    rw [if_neg (by (first | lia | omega))] at h
    exact getD_of h
theorem rev_arr (a : Arr N p) {n : Nat} (hn : n ≤ N) : Arr N (kas_rev p 0 n) := by
  refine ⟨(mirror_size ..).trans a.size, fun i hi => ?_, fun i j hi hj hij => ?_⟩
  · rw [rev_get a hn]
    split
    · exact a.low _ (by (first | lia | omega))
    · exact a.low _ hi
  · rw [rev_get a hn, rev_get a hn]
    split <;> split <;> exact a.inj _ _ (by (first | lia | omega)) (by (first | lia | omega)) (by (first | lia | omega))
theorem rev_up (a : Arr N p) {n : Nat} (hn : n ≤ N) (u : Dn lt p n) : Up lt (kas_rev p 0 n) n := fun i j hij hj => by
  rw [rev_get a hn, rev_get a hn, if_pos (by (first | lia | omega)), if_pos hj]
  exact u _ _ (by (first | lia | omega)) (by (first | lia | omega))
theorem count (o : Ord N lt) (a : Arr N p) (h2 : 2 ≤ N) : ∃ m q, run lt (kas_count N p) = (m, q) ∧ Arr N q ∧ 1 ≤ m ∧ m ≤ N ∧ Up lt q m := by
  unfold kas_count
  rw [run_bind]
  obtain ⟨q1, q2, q3, q4⟩ := asc o a (N - 1) 1 (Nat.le_refl _) (by (first | lia | omega)) (fun i j hij hj => by (first | lia | omega))
  generalize run lt (kas_asc p (N - 1) 1) = n at q1 q2 q3 q4
  by_cases e : (n == N) = true
  · rw [if_pos e]
    exact ⟨n, p, rfl, a, q1, q2, q3⟩
  · rw [if_neg e]
    have hne : n ≠ N := fun z => e (by rw [z]; exact beq_self_eq_true _)
    by_cases h1 : n > 1
    · rw [if_pos h1]
      refine ⟨n, p, ?_, a, q1, q2, q3⟩
      show run lt (if lt (p.getD 0 0) (p.getD (n - 1) 0) = true then .ret (n, p) else kas_descPart n N (kas_rev p 0 n)) = (n, p)
      rw [if_pos (q3 0 (n - 1) (by (first | lia | omega)) (by (first | lia | omega)))]
      rfl
    · rw [if_neg h1]
      have en : n = 1 := by (first | lia | omega)
      subst en
      have hd : Dn lt p 2 := fun i j hij hj => by
        have ei : i = 0 := by (first | lia | omega)
        have ej : j = 1 := by (first | lia | omega)
        subst ei ej
        exact q4 (by (first | lia | omega))
      unfold kas_descPart
      rw [run_bind]
      obtain ⟨m, r1, r2, r3, r4⟩ := desc o a (N - (1 + 1)) (1 + 1) (by (first | lia | omega)) (by (first | lia | omega)) hd
      rw [r1]
      show ∃ m' q, run lt (if (0 : Nat) > 0 then kas_tail3 m N (kas_rev p (m - (0 + 1)) m) else kas_tail3 m N p) = (m', q) ∧ Arr N q ∧ 1 ≤ m' ∧ m' ≤ N ∧ Up lt q m'
      rw [if_neg (by (first | lia | omega))]
      unfold kas_tail3
      rw [run_bind]
      obtain ⟨s1, s2, s3, _⟩ := asc o (rev_arr a r3) (N - m) m (by (first | lia | omega)) (by (first | lia | omega)) (rev_up a r3 r4)
      exact ⟨_, _, rfl, rev_arr a r3, by (first | lia | omega), s2, s3⟩
theorem place (o : Ord N lt) (a : Arr N p) {k : Nat} (hk : k < N) (u : Up lt p k) : ∀ (f l r : Nat), l ≤ r → r ≤ k → r - l ≤ f → (∀ i, i < l → lt (p.getD i 0) (p.getD k 0) = true) → (∀ i, r ≤ i → i < k → lt (p.getD k 0) (p.getD i 0) = true) →
    run lt (kas_place p k f l r) ≤ k ∧ (∀ i, i < run lt (kas_place p k f l r) → lt (p.getD i 0) (p.getD k 0) = true) ∧ ∀ i, run lt (kas_place p k f l r) ≤ i → i < k → lt (p.getD k 0) (p.getD i 0) = true
  | 0, l, r, hlr, hr, hf, h1, h2 => by
    have e : l = r := by (first | lia | omega)
    subst e
    exact ⟨hr, h1, h2⟩
  | f + 1, l, r, hlr, hr, hf, h1, h2 => by
    unfold kas_place
    by_cases e : l ≥ r
    · rw [if_pos e]
      have e' : l = r := by (first | lia | omega)
      subst e'
      exact ⟨hr, h1, h2⟩
    · rw [if_neg e]
      by_cases c : lt (p.getD k 0) (p.getD ((l + r) / 2) 0) = true
      · have ih := place o a hk u f l ((l + r) / 2) (by (first | lia | omega)) (by (first | lia | omega)) (by (first | lia | omega)) h1 (fun i hi hik => by
          by_cases z : i = (l + r) / 2
          · rw [z]; exact c
          · exact o.tr _ _ _ (a.low k hk) (a.low _ (by (first | lia | omega))) (a.low i (by (first | lia | omega))) c (u _ i (by (first | lia | omega)) hik))
        have e2 : run lt (KasT.ask (p.getD k 0) (p.getD ((l + r) / 2) 0) fun c => if c = true then kas_place p k f l ((l + r) / 2) else kas_place p k f ((l + r) / 2 + 1) r) = run lt (kas_place p k f l ((l + r) / 2)) := by
          show run lt (if lt (p.getD k 0) (p.getD ((l + r) / 2) 0) = true then kas_place p k f l ((l + r) / 2) else kas_place p k f ((l + r) / 2 + 1) r) = _
          rw [if_pos c]
        rw [e2]
        exact ih
      · have c' := o.no a (i := k) (j := (l + r) / 2) hk (by (first | lia | omega)) (by (first | lia | omega)) c
        have ih := place o a hk u f ((l + r) / 2 + 1) r (by (first | lia | omega)) hr (by (first | lia | omega)) (fun i hi => by
          by_cases z : i = (l + r) / 2
          · rw [z]; exact c'
          · exact o.tr _ _ _ (a.low i (by (first | lia | omega))) (a.low _ (by (first | lia | omega))) (a.low k hk) (u i _ (by (first | lia | omega)) (by (first | lia | omega))) c') h2
        have e2 : run lt (KasT.ask (p.getD k 0) (p.getD ((l + r) / 2) 0) fun c => if c = true then kas_place p k f l ((l + r) / 2) else kas_place p k f ((l + r) / 2 + 1) r) = run lt (kas_place p k f ((l + r) / 2 + 1) r) := by
          show run lt (if lt (p.getD k 0) (p.getD ((l + r) / 2) 0) = true then kas_place p k f l ((l + r) / 2) else kas_place p k f ((l + r) / 2 + 1) r) = _
          rw [if_neg c]
        rw [e2]
        exact ih
theorem bub_get (a : Arr N p) {k l : Nat} (hk : k < N) (hl : l ≤ k) (i : Nat) : (bubble p k (k - l)).getD i 0 = if i = l then p.getD k 0 else if l < i ∧ i ≤ k then p.getD (i - 1) 0 else p.getD i 0 := by
  have h := getElem?_bubble (xs := p) (src := k) (by rw [a.size]; exact hk) (k - l) (by (first | lia | omega)) i
  rw [show k - (k - l) = l by (first | lia | omega)] at h
  by_cases e1 : i = l
  · rw [if_pos e1] at h ⊢
    exact getD_of h
  · rw [if_neg e1] at h ⊢
    by_cases e2 : l < i ∧ i ≤ k
    · rw [if_pos e2] at h ⊢
      exact getD_of h
    · rw [if_neg e2] at h ⊢
      exact getD_of h
theorem bub_arr (a : Arr N p) {k l : Nat} (hk : k < N) (hl : l ≤ k) : Arr N (bubble p k (k - l)) := by
  refine ⟨(bubble_size ..).trans a.size, fun i hi => ?_, fun i j hi hj hij => ?_⟩
  · rw [bub_get a hk hl]
    split
    · exact a.low _ hk
    · split
      · exact a.low _ (by (first | lia | omega))
      · exact a.low _ hi
  · rw [bub_get a hk hl, bub_get a hk hl]
    repeat' split
    all_goals first | (exfalso; (first | lia | omega)) | exact a.inj _ _ (by (first | lia | omega)) (by (first | lia | omega)) (by (first | lia | omega))
theorem bin (o : Ord N lt) : ∀ (f : Nat) (p : Array Nat) (k : Nat), Arr N p → k + f = N → Up lt p k → ∃ q, run lt (kas_bin f p k) = q ∧ Arr N q ∧ Up lt q N
  | 0, p, k, a, hf, u => ⟨p, rfl, a, by rw [← hf]; exact u⟩
  | f + 1, p, k, a, hf, u => by
    unfold kas_bin
    rw [run_bind]
    obtain ⟨q1, q2, q3⟩ := place o a (k := k) (by (first | lia | omega)) u k 0 k (by (first | lia | omega)) (Nat.le_refl _) (by (first | lia | omega)) (fun i hi => by (first | lia | omega)) (fun i hi hik => by (first | lia | omega))
    generalize run lt (kas_place p k k 0 k) = l at q1 q2 q3
    refine bin o f _ (k + 1) (bub_arr a (by (first | lia | omega)) q1) (by (first | lia | omega)) fun i j hij hj => ?_
    rw [bub_get a (by (first | lia | omega)) q1, bub_get a (by (first | lia | omega)) q1]
    repeat' split
    all_goals first | (exfalso; (first | lia | omega)) | (exact q2 _ (by (first | lia | omega))) | (exact q3 _ (by (first | lia | omega)) (by (first | lia | omega))) | (exact u _ _ (by (first | lia | omega)) (by (first | lia | omega)))
end
theorem arr_range (N : Nat) : Arr N (List.toArray (List.range N)) := by
  have g : ∀ i, i < N → (List.toArray (List.range N)).getD i 0 = i := fun i hi => by
    rw [Array.getD_eq_getD_getElem?]
    simp [hi]
  refine ⟨by simp, fun i hi => by rw [g i hi]; exact hi, fun i j hi hj h => by rw [g i hi, g j hj]; exact h⟩
theorem sort_ok {N : Nat} {lt : Nat → Nat → Bool} (o : Ord N lt) (h2 : 2 ≤ N) : Arr N (run lt (kas_sort N)) ∧ Up lt (run lt (kas_sort N)) N := by
  unfold kas_sort
  rw [run_bind]
  obtain ⟨m, q, e, a, h1, hm, u⟩ := count o (arr_range N) h2
  rw [e]
  show Arr N (run lt (if m < N then kas_bin (N - max m 1) q (max m 1) else .ret q)) ∧ Up lt (run lt (if m < N then kas_bin (N - max m 1) q (max m 1) else .ret q)) N
  have em : max m 1 = m := by (first | lia | omega)
  rw [em]
  by_cases h : m < N
  · rw [if_pos h]
    obtain ⟨q', e', a', u'⟩ := bin o (N - m) q m a (by (first | lia | omega)) u
    rw [e']
    exact ⟨a', u'⟩
  · rw [if_neg h]
    have : m = N := by (first | lia | omega)
    subst this
    exact ⟨a, u⟩
end Srt
namespace Srt
open PySem PySem.W PyProof.Rows
def Fair {α : Type} (N : Nat) (lt : Nat → Nat → Bool) : KasT α → Prop
  | .ret _ => True
  | .ask i j k => i < N ∧ j < N ∧ Fair N lt (k (lt i j))
theorem fair_bind {α β : Type} {N : Nat} {lt : Nat → Nat → Bool} {f : α → KasT β} : ∀ {t : KasT α}, Fair N lt t → Fair N lt (f (run lt t)) → Fair N lt (t.bind f)
  | .ret _, _, h => h
  | .ask i j k, ⟨h1, h2, h3⟩, h => ⟨h1, h2, fair_bind (t := k (lt i j)) h3 h⟩
theorem wp_run {α : Type} {N : Nat} {lt : Nat → Nat → Bool} {cmp : Nat → Nat → (Bool → Shared → Prop) → Shared → Prop} {s : Shared} (hc : ∀ i j C, i < N → j < N → C (lt i j) s → cmp i j C s) {Q : α → Shared → Prop} : ∀ {t : KasT α}, Fair N lt t → Q (run lt t) s → t.kasWp cmp Q s
  | .ret _, _, h => h
  | .ask i j k, ⟨h1, h2, h3⟩, h => hc i j _ h1 h2 (wp_run hc (t := k (lt i j)) h3 h)
def Lo (N : Nat) (p : Array Nat) : Prop := ∀ i, p.getD i 0 < N
theorem Lo.perm {N : Nat} {p q : Array Nat} (h : Lo N p) (hN : 0 < N) (e : q.Perm p) : Lo N q := fun i => by
  by_cases hi : i < q.size
  · have hm : q[i] ∈ p := e.mem_iff.mp (Array.getElem_mem hi)
    obtain ⟨j, hj, ej⟩ := Array.mem_iff_getElem.mp hm
    have := h j
    simp only [Array.getD, hj, hi, dif_pos] at this ⊢
    rw [show q.getInternal i hi = q[i] from rfl, ← ej]
    exact this
  · simp only [Array.getD, hi, dif_neg, not_false_eq_true]
    exact hN
section
variable {N : Nat} {lt : Nat → Nat → Bool}
theorem fair_asc {p : Array Nat} (h : Lo N p) : ∀ f n, Fair N lt (kas_asc p f n)
  | 0, _ => trivial
  | f + 1, n => ⟨h _, h _, by
    by_cases e : lt (p.getD n 0) (p.getD (n - 1) 0) = true
    · dsimp only; rw [if_pos e]; trivial
    · dsimp only; rw [if_neg e]; exact fair_asc h f (n + 1)⟩
theorem desc_lo (hN : 0 < N) : ∀ f (p : Array Nat) n q, Lo N p → Fair N lt (kas_desc f p n q) ∧ Lo N (run lt (kas_desc f p n q)).1
  | 0, _, _, _, h => ⟨trivial, h⟩
  | f + 1, p, n, q, h => by
    by_cases e : lt (p.getD n 0) (p.getD (n - 1) 0) = true
    · by_cases hq : q > 0
      · have ih := desc_lo hN f (kas_rev p (n - (q + 1)) n) (n + 1) 0 (h.perm hN (mirror_perm ..))
        have er : run lt (kas_desc (f + 1) p n q) = run lt (kas_desc f (kas_rev p (n - (q + 1)) n) (n + 1) 0) := by
          show run lt (if lt (p.getD n 0) (p.getD (n - 1) 0) = true then (if q > 0 then kas_desc f (kas_rev p (n - (q + 1)) n) (n + 1) 0 else kas_desc f p (n + 1) 0) else _) = _
          rw [if_pos e, if_pos hq]
        refine ⟨⟨h _, h _, ?_⟩, by rw [er]; exact ih.2⟩
        dsimp only
        rw [if_pos e, if_pos hq]
        exact ih.1
      · have ih := desc_lo hN f p (n + 1) 0 h
        have er : run lt (kas_desc (f + 1) p n q) = run lt (kas_desc f p (n + 1) 0) := by
          show run lt (if lt (p.getD n 0) (p.getD (n - 1) 0) = true then (if q > 0 then kas_desc f (kas_rev p (n - (q + 1)) n) (n + 1) 0 else kas_desc f p (n + 1) 0) else _) = _
          rw [if_pos e, if_neg hq]
        refine ⟨⟨h _, h _, ?_⟩, by rw [er]; exact ih.2⟩
        dsimp only
        rw [if_pos e, if_neg hq]
        exact ih.1
    · by_cases d : lt (p.getD (n - 1) 0) (p.getD n 0) = true
      · have er : run lt (kas_desc (f + 1) p n q) = (p, n, q) := by
          show run lt (if lt (p.getD n 0) (p.getD (n - 1) 0) = true then _ else KasT.ask (p.getD (n - 1) 0) (p.getD n 0) fun d => if d = true then .ret (p, n, q) else kas_desc f p (n + 1) (q + 1)) = _
          rw [if_neg e]
          show run lt (if lt (p.getD (n - 1) 0) (p.getD n 0) = true then KasT.ret (p, n, q) else kas_desc f p (n + 1) (q + 1)) = _
          rw [if_pos d]
          rfl
        refine ⟨⟨h _, h _, ?_⟩, by rw [er]; exact h⟩
        dsimp only
        rw [if_neg e]
        refine ⟨h _, h _, ?_⟩
        dsimp only
        rw [if_pos d]
        trivial
      · have ih := desc_lo hN f p (n + 1) (q + 1) h
        have er : run lt (kas_desc (f + 1) p n q) = run lt (kas_desc f p (n + 1) (q + 1)) := by
          show run lt (if lt (p.getD n 0) (p.getD (n - 1) 0) = true then _ else KasT.ask (p.getD (n - 1) 0) (p.getD n 0) fun d => if d = true then .ret (p, n, q) else kas_desc f p (n + 1) (q + 1)) = _
          rw [if_neg e]
          show run lt (if lt (p.getD (n - 1) 0) (p.getD n 0) = true then KasT.ret (p, n, q) else kas_desc f p (n + 1) (q + 1)) = _
          rw [if_neg d]
        refine ⟨⟨h _, h _, ?_⟩, by rw [er]; exact ih.2⟩
        dsimp only
        rw [if_neg e]
        refine ⟨h _, h _, ?_⟩
        dsimp only
        rw [if_neg d]
        exact ih.1
theorem tail_lo (hN : 0 < N) {p : Array Nat} (h : Lo N p) (n m : Nat) : Fair N lt (kas_tail3 n m p) ∧ Lo N (run lt (kas_tail3 n m p)).2 := by
  have h' : Lo N (kas_rev p 0 n) := h.perm hN (mirror_perm ..)
  refine ⟨fair_bind (fair_asc h' _ _) trivial, ?_⟩
  unfold kas_tail3
  rw [run_bind]
  exact h'
theorem part_lo (hN : 0 < N) {p : Array Nat} (h : Lo N p) (n m : Nat) : Fair N lt (kas_descPart n m p) ∧ Lo N (run lt (kas_descPart n m p)).2 := by
  obtain ⟨d1, d2⟩ := desc_lo (lt := lt) hN (m - (n + 1)) p (n + 1) 0 h
  unfold kas_descPart
  rw [run_bind]
  generalize hr : run lt (kas_desc (m - (n + 1)) p (n + 1) 0) = r at d2
  by_cases e : r.2.2 > 0
  · obtain ⟨t1, t2⟩ := tail_lo (lt := lt) hN (d2.perm hN (mirror_perm r.1 (r.2.1 - (r.2.2 + 1)) r.2.1 ((r.2.1 - (r.2.1 - (r.2.2 + 1))) / 2))) r.2.1 m
    refine ⟨fair_bind d1 ?_, ?_⟩
    · rw [hr, if_pos e]; exact t1
    · rw [if_pos e]; exact t2
  · obtain ⟨t1, t2⟩ := tail_lo (lt := lt) hN d2 r.2.1 m
    refine ⟨fair_bind d1 ?_, ?_⟩
    · rw [hr, if_neg e]; exact t1
    · rw [if_neg e]; exact t2
theorem count_lo (hN : 0 < N) {p : Array Nat} (h : Lo N p) (m : Nat) : Fair N lt (kas_count m p) ∧ Lo N (run lt (kas_count m p)).2 := by
  have a1 := fair_asc (lt := lt) h (m - 1) 1
  unfold kas_count
  rw [run_bind]
  generalize hr : run lt (kas_asc p (m - 1) 1) = n
  by_cases e : (n == m) = true
  · refine ⟨fair_bind a1 ?_, ?_⟩
    · rw [hr, if_pos e]; trivial
    · rw [if_pos e]; exact h
  · by_cases h1 : n > 1
    · obtain ⟨t1, t2⟩ := part_lo (lt := lt) hN (h.perm hN (mirror_perm p 0 n ((n - 0) / 2))) n m
      by_cases c : lt (p.getD 0 0) (p.getD (n - 1) 0) = true
      · refine ⟨fair_bind a1 ?_, ?_⟩
        · rw [hr, if_neg e, if_pos h1]
          exact ⟨h _, h _, by dsimp only; rw [if_pos c]; trivial⟩
        · rw [if_neg e, if_pos h1]
          show Lo N (run lt (if lt (p.getD 0 0) (p.getD (n - 1) 0) = true then KasT.ret (n, p) else kas_descPart n m (kas_rev p 0 n))).2
          rw [if_pos c]
          exact h
      · refine ⟨fair_bind a1 ?_, ?_⟩
        · rw [hr, if_neg e, if_pos h1]
          exact ⟨h _, h _, by dsimp only; rw [if_neg c]; exact t1⟩
        · rw [if_neg e, if_pos h1]
          show Lo N (run lt (if lt (p.getD 0 0) (p.getD (n - 1) 0) = true then KasT.ret (n, p) else kas_descPart n m (kas_rev p 0 n))).2
          rw [if_neg c]
          exact t2
    · obtain ⟨t1, t2⟩ := part_lo (lt := lt) hN h n m
      refine ⟨fair_bind a1 ?_, ?_⟩
      · rw [hr, if_neg e, if_neg h1]; exact t1
      · rw [if_neg e, if_neg h1]; exact t2
theorem fair_place {p : Array Nat} (h : Lo N p) (k : Nat) : ∀ f l r, Fair N lt (kas_place p k f l r)
  | 0, _, _ => trivial
  | f + 1, l, r => by
    unfold kas_place
    by_cases e : l ≥ r
    · rw [if_pos e]; trivial
    · rw [if_neg e]
      refine ⟨h _, h _, ?_⟩
      by_cases c : lt (p.getD k 0) (p.getD ((l + r) / 2) 0) = true
      · dsimp only; rw [if_pos c]; exact fair_place h k f _ _
      · dsimp only; rw [if_neg c]; exact fair_place h k f _ _
theorem fair_bin (hN : 0 < N) : ∀ f (p : Array Nat) k, Lo N p → Fair N lt (kas_bin f p k)
  | 0, _, _, _ => trivial
  | f + 1, p, k, h => fair_bind (fair_place h k k 0 k) (fair_bin hN f _ _ (h.perm hN (bubble_perm ..)))
theorem fair_sort (hN : 0 < N) : Fair N lt (kas_sort N) := by
  have lo : Lo N (List.toArray (List.range N)) := fun i => by
    by_cases hi : i < N
    · exact (arr_range N).low i hi
    · rw [Array.getD_eq_getD_getElem?]
      simp [hi]
      exact hN
  obtain ⟨c1, c2⟩ := count_lo (lt := lt) hN lo N
  refine fair_bind c1 ?_
  split
  · exact fair_bin hN _ _ _ c2
  · trivial
end
end Srt
namespace L2
open PySem PySem.Spec PyProof.Rows
open PySem.W (KatLex kat_lt kat_cons kat_yes kat_no kat_nil kat_one kat_kind KatTups kat_run kat_snds kas_sort kas_ask kas_item)
def lexB (b c : Int × Int) : Bool := if b.1 = c.1 then decide (b.2 < c.2) else decide (b.1 < c.1)
theorem lexB_iff {b c : Int × Int} : lexB b c = true ↔ b.1 < c.1 ∨ (b.1 = c.1 ∧ b.2 < c.2) := by
  unfold lexB
  by_cases e : b.1 = c.1
  · rw [if_pos e, decide_eq_true_eq]; (first | lia | omega)
  · rw [if_neg e, decide_eq_true_eq]; (first | lia | omega)
def PairV (h : Heap) (b : Int × Int) (v : Value) : Prop := ∃ q o t u n, v = .ref q ∧ h.get? q = some o ∧ o.cls = .type "tuple" ∧ o.data = .seq #[.int b.1 t, .int b.2 u] n
section
variable {prog : Program} {w : World} {A : Around} {E : Value → Shared → Prop} {s : Shared}
theorem pair_lt {x y : Value} {b c : Int × Int} {Q : Bool → Shared → Prop} (hx : PairV s.heap b x) (hy : PairV s.heap c y) (h : Q (lexB b c) s) : wpAny (model prog w) A (keyLt' (tuples' true) x y) Q E s := by
  obtain ⟨q, o, t, u, n, rfl, ho, hc, hd⟩ := hx
  obtain ⟨q', o', t', u', n', rfl, ho', hc', hd'⟩ := hy
  refine kat_lt ho hd ho' hd' ?_
  show KatLex prog w A true _ Q [(.int b.1 t, .int c.1 t'), (.int b.2 u, .int c.2 u')] 0 s
  refine kat_cons (wpAny_eqBool_int ?_)
  unfold lexB at h
  by_cases e : b.1 = c.1
  · rw [if_pos e] at h
    rw [show (b.1 == c.1) = true from beq_iff_eq.mpr e]
    refine kat_yes (kat_cons (wpAny_eqBool_int ?_))
    by_cases e2 : b.2 = c.2
    · rw [show (b.2 == c.2) = true from beq_iff_eq.mpr e2]
      refine kat_yes (kat_nil ?_)
      rw [decide_eq_false (by (first | lia | omega))] at h
      exact h
    · rw [show (b.2 == c.2) = false from beq_eq_false_iff_ne.mpr e2]
      exact kat_no (kat_one _ _ (lt_int (show PySem.W.BoolBack Q (.bool (decide (b.2 < c.2))) s from h)))
  · rw [if_neg e] at h
    rw [show (b.1 == c.1) = false from beq_eq_false_iff_ne.mpr e]
    exact kat_no (oneLt_int h)
theorem pair_tups {h : Heap} : ∀ {W : List (Int × Int)} {vs : List Value}, Paired (PairV h) W vs → ∃ fs, KatTups h vs fs ∧ fs.length = vs.length ∧ ∀ f ∈ fs, ∃ i t, f = .int i t
  | _, _, .nil => ⟨[], trivial, rfl, fun _ z => by cases z⟩
  | _, _, .cons ⟨q, o, t, u, n, e, ho, hc, hd⟩ r => by
    obtain ⟨fs, k, hl, hf⟩ := pair_tups r
    refine ⟨_ :: fs, ⟨⟨q, o, _, n, e, ho, hc, hd, rfl⟩, k⟩, by rw [List.length_cons, List.length_cons, hl], fun f hf' => ?_⟩
    rcases List.mem_cons.mp hf' with rfl | z
    · exact ⟨_, _, rfl⟩
    · exact hf f z
def ltW (W : List (Int × Int)) (i j : Nat) : Bool := lexB (W.getD i (0, 0)) (W.getD j (0, 0))
theorem ltW_ord {W : List (Int × Int)} (hn : W.Nodup) : Srt.Ord W.length (ltW W) := by
  refine ⟨fun a b ha hb hab => ?_, fun a b c _ _ _ h1 h2 => ?_, fun a b _ _ h => ?_⟩
  · have hne : W.getD a (0, 0) ≠ W.getD b (0, 0) := fun e => by
      rw [List.getD_eq_getElem?_getD, List.getD_eq_getElem?_getD, List.getElem?_eq_getElem ha, List.getElem?_eq_getElem hb] at e
      have e' : W[a] = W[b] := e
      exact hab ((List.getElem?_inj ha hn).mp (by rw [List.getElem?_eq_getElem ha, List.getElem?_eq_getElem hb, e']))
    unfold ltW
    generalize W.getD a (0, 0) = x at hne
    generalize W.getD b (0, 0) = y at hne
    rw [lexB_iff, lexB_iff]
    by_cases e1 : x.1 = y.1
    · have e2 : x.2 ≠ y.2 := fun e2 => hne (Prod.ext e1 e2)
      (first | lia | omega)
    · (first | lia | omega)
  · unfold ltW at h1 h2 ⊢
    rw [lexB_iff] at h1 h2 ⊢
    (first | lia | omega)
  · unfold ltW at h ⊢
    rw [lexB_iff] at h
    rw [Bool.eq_false_iff, ne_eq, lexB_iff]
    (first | lia | omega)
theorem pair_at {h : Heap} {W : List (Int × Int)} {vs : List Value} (r : Paired (PairV h) W vs) {i : Nat} (hi : i < W.length) : PairV h (W.getD i (0, 0)) (vs.getD i .none) := by
  induction r generalizing i with
  | nil => simp at hi
  | cons p _ ih =>
    cases i with
    | zero => exact p
    | succ i => exact ih (by simpa using hi)
theorem PairV.keep {h h' : Heap} (k : ∀ b o, h.get? b = some o → o.cls = .type "tuple" → h'.get? b = some o) (b : Int × Int) (v : Value) (x : PairV h b v) : PairV h' b v :=
  let ⟨q, o, t, u, n, e, ho, hc, hd⟩ := x
  ⟨q, o, t, u, n, e, k _ _ ho hc, hc, hd⟩
theorem sort_pairs {a : Addr} {vs : List Value} {n : Nat} {W : List (Int × Int)} {P : PySem.Fin → Shared → Prop} (ho : s.heap.get? a = some (seqObj "list" vs.toArray n)) (r : Paired (PairV s.heap) W vs) (hn : W.Nodup) (h64 : vs.length < 64)
    (h : ∀ p : Array Nat, Srt.Arr W.length p → Srt.Up (ltW W) p W.length → P (.done (.ret .none)) { s with heap := sortedHeap s.heap a vs (p.toList.map fun i => vs.getD i .none).toArray }) :
    wpAny (model prog w) A (Builtin.«list.sort» ⟨[.ref a], []⟩) P E s := by
  have hl : W.length = vs.length := Paired.length r
  have ha : a < s.heap.objs.size := Heap.lt_size ho
  obtain ⟨e1, ho1⟩ : ∃ e1, (s.heap.update a (Obj.mapSeq fun _ => (#[] : Array Value))).get? a = some (seqObj "list" #[] e1) := ⟨_, get?_update_seq ho fun _ => #[]⟩
  have keep : ∀ b o, s.heap.get? b = some o → o.cls = .type "tuple" → (((s.heap.update a (Obj.mapSeq fun _ => (#[] : Array Value))).push (seqObj "tuple" vs.toArray 0)).push (seqObj "list" #[] 0)).get? b = some o := fun b o e hc => by
    have hba : b ≠ a := fun z => by
      rw [z, ho] at e
      cases e
      exact absurd hc (by show ¬ Value.type "list" = Value.type "tuple"; intro z; injection z with z; exact absurd z (by decide))
    exact Heap.get?_push_of_some _ (Heap.get?_push_of_some _ (by rw [Heap.get?_update_ne _ _ _ _ hba]; exact e))
  have ho6 : (((s.heap.update a (Obj.mapSeq fun _ => (#[] : Array Value))).push (seqObj "tuple" vs.toArray 0)).push (seqObj "list" #[] 0)).get? a = some (seqObj "list" #[] e1) := Heap.get?_push_of_some _ (Heap.get?_push_of_some _ ho1)
  rw [list_sort_plain]
  refine wpAny_bind (listItems_at ho rfl ?_)
  refine wpAny_bind (listUpdate_at ho rfl ?_ (by rw [List.size_toArray, sizeLine_eq]; (first | lia | omega)) (Nat.zero_le _))
  refine wpAny_bind (seqEpoch_at ho1 rfl (wpAny_bind (wpAny_newTuple ?_ (by show vs.length ≤ _; rw [sizeLine_eq]; (first | lia | omega)))))
  refine wpAny_bind (wpAny_newList (wpAny_holding ?_) (Nat.zero_le _))
  show wpAny (model prog w) A _ P E { s with heap := ((s.heap.update a (Obj.mapSeq fun _ => (#[] : Array Value))).push (seqObj "tuple" vs.toArray 0)).push (seqObj "list" #[] 0) }
  dsimp only
  have fin : ∀ (st : SortSt) (p : Array Nat), failedOf st = none → (arrOf st).map (·.2) = (p.toList.map fun i => vs.getD i .none).toArray → Srt.Arr W.length p → Srt.Up (ltW W) p W.length →
      wpAny (model prog w) A (do
        let touched := (← seqEpoch a) != e1
        Builtin.List.listUpdate (.ref a) fun _ => (arrOf st).map (·.2)
        if let some e := failedOf st then rule "list.sort.comparison-raised"; throw e
        if touched then rule "list.sort.modified"; raiseError "ValueError" "list modified during sort"
        ret .none) P E { s with heap := ((s.heap.update a (Obj.mapSeq fun _ => (#[] : Array Value))).push (seqObj "tuple" vs.toArray 0)).push (seqObj "list" #[] 0) } := fun st p hf har hA hU => by
    refine wpAny_bind (seqEpoch_at ho6 rfl (wpAny_bind (listUpdate_at ho6 rfl ?_ (Nat.zero_le _) (by rw [har, List.size_toArray, List.length_map, Array.length_toList, hA.size, sizeLine_eq]; (first | lia | omega)))))
    rw [hf, har]
    simp only [bne_self_eq_false, Bool.false_eq_true, if_false]
    exact wpAny_pure (h p hA hU)
  by_cases h2 : vs.toArray.size < 2
  · rw [if_pos h2, if_pos h2]
    refine wpAny_bind (wpAny_pure ?_)
    rw [StateT.run_pure]
    refine wpAny_bind (wpAny_pure ?_)
    refine fin (SortSt.mk' general' (vs.toArray.zip vs.toArray) #[] 7 none) (List.toArray (List.range W.length)) rfl ?_ (Srt.arr_range _) fun i j hij hj => ?_
    · show (vs.toArray.zip vs.toArray).map (·.2) = _
      rw [List.size_toArray] at h2
      match vs, hl, h2 with
      | [], hl, _ => rw [hl]; simp
      | [v], hl, _ => rw [hl]; simp
      | _ :: _ :: _, _, h2 => simp at h2; (first | lia | omega)
    · rw [List.size_toArray] at h2
      (first | lia | omega)
  · rw [if_neg h2, if_neg h2]
    rw [List.size_toArray] at h2
    have r' := Paired.mapP r fun b v x => PairV.keep keep b v x
    obtain ⟨fs, kt, hfl, hf⟩ := pair_tups r'
    refine wpAny_bind (kat_kind (s := { s with heap := ((s.heap.update a (Obj.mapSeq fun _ => (#[] : Array Value))).push (seqObj "tuple" vs.toArray 0)).push (seqObj "list" #[] 0) }) (T := .type "int") kt (by (first | lia | omega)) (fun f hf' => ?_) rfl ?_)
    · obtain ⟨i, t, rfl⟩ := hf f hf'
      exact PySem.W.Looks.of_pure rfl
    have hO := ltW_ord hn
    obtain ⟨sA, sU⟩ := Srt.sort_ok hO (by (first | lia | omega))
    have go : (kas_sort vs.length).kasWp (kas_ask prog w A (tuples' ((Value.type "int") != Value.type "tuple")) vs) (fun p s' => s' = { s with heap := ((s.heap.update a (Obj.mapSeq fun _ => (#[] : Array Value))).push (seqObj "tuple" vs.toArray 0)).push (seqObj "list" #[] 0) } ∧ Srt.Arr W.length p ∧ Srt.Up (ltW W) p W.length)
        { s with heap := ((s.heap.update a (Obj.mapSeq fun _ => (#[] : Array Value))).push (seqObj "tuple" vs.toArray 0)).push (seqObj "list" #[] 0) } := by
      rw [← hl]
      refine Srt.wp_run (N := W.length) (lt := ltW W) (fun i j C hi hj hC => ?_) (Srt.fair_sort (by (first | lia | omega))) ⟨rfl, sA, sU⟩
      exact pair_lt (pair_at r' hi) (pair_at r' hj) hC
    refine wpAny_bind (wpAny_mono (kat_run (ks := vs) (vs := vs) (Q := fun st' s' => s' = { s with heap := ((s.heap.update a (Obj.mapSeq fun _ => (#[] : Array Value))).push (seqObj "tuple" vs.toArray 0)).push (seqObj "list" #[] 0) } ∧ ∃ p : Array Nat, failedOf st' = none ∧ (arrOf st').map (·.2) = (p.toList.map fun i => vs.getD i .none).toArray ∧ Srt.Arr W.length p ∧ Srt.Up (ltW W) p W.length)
      rfl (by (first | lia | omega)) h64 (fun p st' s' _ har hfl' hG => ⟨hG.1, p, hfl', kat_snds rfl har, hG.2.1, hG.2.2⟩) go) ?_ fun _ _ e => e)
    rintro ⟨⟨⟩, st'⟩ s' ⟨rfl, p, hf', har, pA, pU⟩
    exact fin st' p hf' har pA pU
end
end L2
namespace L2
open PySem PySem.Spec PyProof.Rows PySem.SeqAt
open AutoSeq1 (wpAny_loadPart')
section
variable {prog : Program} {w : World} {A : Around} {E : Value → Shared → Prop} {s : Shared}
end
section
variable {prog : Program} {w : World} {A : Around} {E : Value → Shared → Prop} {s : Shared}
end
section
variable {X : Cx} {a : Expr} {ta : TE} {p1 p2 c1 c2 : Pos}
end
end L2
namespace L2
open PySem PySem.Spec PyProof.Rows PySem.SeqAt
theorem hu3_of {A : Around} {k : Nat} (hr : Room k A) : A.units + 3 < cLine := Nat.lt_of_le_of_lt (Nat.add_le_add_left (by decide : 3 ≤ 64) _) hr.units
section
variable {X : Cx}
variable {α : Type} [DecidableEq α] {D : Den α} {d : Nat}
def dLst (D : Den α) : Den (List α) := fun H as v => ∃ p xs, v = .ref p ∧ H p = some (.lst xs) ∧ Paired (D H) as xs
theorem eq_lst_ok (h : EqOk X D d) (hi : ∀ H a b x, D H a x → D H b x → a = b) : EqOk X (dLst D) (d + 1) := by
  intro A pins s σ H as bs x y u v hu I ⟨p, xs, ex, hp, pa⟩ ⟨q, ys, ey, hq, pb⟩ ru rv
  subst ex ey
  cases ru
  cases rv
  by_cases hpq : p = q
  · subst hpq
    rw [hp] at hq
    cases hq
    rw [decide_eq_true (paired_inj hi pa pb)]
    exact EqAt.same _
  · obtain ⟨us, r1, t1, _⟩ := I.list (SqL.of hp)
    obtain ⟨vs, r2, t2, _⟩ := I.list (SqL.of hq)
    have l1 := r1.length
    have l2 := r2.length
    have l3 := Paired.length pa
    have l4 := Paired.length pb
    refine EqAt.of_refs hpq ?_
    by_cases hl : as.length = bs.length
    · have key := RcAt.lists (A := A) (s := s) (e := fun j => decide (as[j]? = bs[j]?)) t1.isList t2.isList (by rw [List.size_toArray, List.size_toArray]; (first | lia | omega)) (by (first | lia | omega)) (items_eqAt h hu I pa pb r1 r2)
      rw [List.size_toArray, show us.length = as.length by (first | lia | omega), all_range_eq hl] at key
      exact key
    · have key := RcAt.lists_lengths (A := A) (s := s) t1.isList t2.isList (by rw [List.size_toArray, List.size_toArray, bne_iff_ne]; (first | lia | omega)) (by (first | lia | omega))
      rw [decide_eq_false (fun e => hl (by rw [e]))]
      exact key
end
end L2
namespace L2
open PySem PySem.Spec PyProof.Rows PySem.SeqAt
section
variable {X : Cx} {α : Type} [DecidableEq α] {D : Den α} {d : Nat}
theorem op_neT (h : EqOk X D d) (hu : X.A.units + (d + 1) < cLine) : OpR X (compareOp .NotEq) (fun x y H Q => ∃ p q xs ys as bs, x = .ref p ∧ y = .ref q ∧ SqT X.K H p xs ∧ SqT X.K H q ys ∧ Paired (D H) as xs ∧ Paired (D H) bs ys ∧ Q (.bl (!decide (as = bs))) H) := by
  intro pins s σ H x y v u Q I rx ry ⟨p, q, xs, ys, as, bs, ex, ey, hp, hq, pa, pb, k⟩
  subst ex ey
  cases rx
  cases ry
  obtain ⟨us, r1, t1, _⟩ := I.tuple hp
  obtain ⟨vs, r2, t2, _⟩ := I.tuple hq
  have l1 := r1.length
  have l2 := r2.length
  have l3 := Paired.length pa
  have l4 := Paired.length pb
  have z := RcNeAt.tuples (A := X.A) (s := s) (e := fun j => decide (as[j]? = bs[j]?)) t1 t2 (by (first | lia | omega)) (items_eqAt h hu I pa pb r1 r2)
  rw [List.size_toArray, List.size_toArray] at z
  have e : ((List.range (min us.length vs.length)).all (fun j => decide (as[j]? = bs[j]?)) && us.length == vs.length) = decide (as = bs) := by
    by_cases hl : as.length = bs.length
    · rw [show min us.length vs.length = as.length by (first | lia | omega), show (us.length == vs.length) = true by rw [beq_iff_eq]; (first | lia | omega), Bool.and_true]
      exact all_range_eq hl
    · rw [show (us.length == vs.length) = false by rw [beq_eq_false_iff_ne]; (first | lia | omega), Bool.and_false, decide_eq_false (fun e => hl (by rw [e]))]
  rw [e] at z
  exact z X.prog X.w X.xe _ ⟨.bl _, H, I, rfl, k⟩
end
end L2
namespace L2
open PySem PySem.Spec PyProof.Rows
theorem decV (x z : Int) : decide (V.int x = V.int z) = decide (x = z) := by rw [Bool.eq_iff_iff]; simp
end L2
namespace Bm
open PySem L2
def top (i : Nat) : Stmt := PySem.Challenge.pw_beatmakers_k05_whole_one_voter_more.main.body.getD i (.Pass ⟨0, 0, 0, 0⟩)
abbrev sCheckCount : Stmt := top 7
abbrev sCheckVoters : Stmt := top 8
abbrev sCheckWeb : Stmt := top 9
abbrev sLeadAmong : Stmt := top 11
abbrev sPairsOf : Stmt := top 13
abbrev sWishOf : Stmt := top 14
abbrev sRing : Stmt := top 16
abbrev sRingFrom : Stmt := top 17
abbrev sBeaten : Stmt := top 18
abbrev sOrdered : Stmt := top 19
abbrev sUnb : Stmt := top 20
abbrev sOneMore : Stmt := top 22
abbrev sOrderOrRing : Stmt := top 23
abbrev sSignOf : Stmt := top 24
abbrev sCellAt : Stmt := top 26
abbrev sWhole : Stmt := top 27
abbrev sOrder : Stmt := top 28
abbrev sVoters : Stmt := top 29
abbrev sLawLead : Stmt := top 30
abbrev sBeats : Stmt := top 31
abbrev sLawWeb : Stmt := top 32
abbrev sOrders : Stmt := top 33
abbrev sIsRing : Stmt := top 35
abbrev sIsOrder : Stmt := top 36
abbrev sLawOut : Stmt := top 37
abbrev sLawWish : Stmt := top 38
abbrev sLawBound : Stmt := top 39
abbrev sTurned : Stmt := top 40
abbrev sWished : Stmt := top 41
abbrev sRight : Stmt := top 42
abbrev sLaw : Stmt := top 43
end Bm
namespace L2
theorem tYes_mk {σ : St} {H : Hp} {A B : Hp → Prop} (h : A H) : tYes σ H fun b H3 => if b = true then A H3 else B H3 := by
  show if true = true then A H else B H
  rw [if_pos rfl]; exact h
end L2
namespace L2
open PySem
theorem hu2_of {A : Around} {k : Nat} (hr : Room k A) : A.units + 2 < cLine := Nat.lt_of_le_of_lt (Nat.add_le_add_left (by decide : 2 ≤ 64) _) hr.units
end L2
namespace Bm
open PySem L2
structure Blt (mg : Str → Option Value) : Prop where
  range : mg "range" = none
  len : mg "len" = none
  list : mg "list" = none
  sorted : mg "sorted" = none
  tuple : mg "tuple" = none
  isi : mg "isinstance" = none
  int : mg "int" = none
  bool : mg "bool" = none
  all : mg "all" = none
  set : mg "set" = none
  reversed : mg "reversed" = none
  str : mg "str" = none
structure Glob (mg : Str → Option Value) : Prop where
  most : ∃ t, mg "MOST_THINGS" = some (.int 6 t)
def rangeK (k : Nat) : List Int := (List.range k).map fun i => (0 : Int) + (i : Nat)
def rangeI (n : Int) : List Int := rangeK n.toNat
def spCount : Sp := fun vs H Q _ => ∃ n : Int, vs = [.int n] ∧ 1 ≤ n ∧ n ≤ 6 ∧ Q .non H
def VAt (K : PySem.W.Frag) (H : Hp) (a : Addr) (L : List (List Int)) : Prop := ∃ xs, SqL K H a xs ∧ Paired (dT H) L xs
theorem VAt.same {K : PySem.W.Frag} {H H' : Hp} {a : Addr} {L : List (List Int)} (h : VAt K H a L) (s : Same H H') : VAt K H' a L := let ⟨xs, h1, h2⟩ := h; ⟨xs, s.seq h1, pd_same (dT_same s) h2⟩
def Ords (n : Int) (L : List (List Int)) : Prop := ∀ o ∈ L, o.Perm (rangeI n)
def before (one other : Int) (o : List Int) : Bool := decide ((o.idxOf one : Int) < (o.idxOf other : Int))
def leadM (L : List (List Int)) (one other : Int) : Int := 2 * ((L.filter (before one other)).length : Int) - (L.length : Int)
theorem rangeK_mem {k : Nat} {i : Int} : i ∈ rangeK k ↔ 0 ≤ i ∧ i < k := by
  unfold rangeK
  rw [List.mem_map]
  constructor
  · rintro ⟨j, hj, rfl⟩
    have := List.mem_range.mp hj
    (first | lia | omega)
  · intro h
    exact ⟨i.toNat, List.mem_range.mpr (by (first | lia | omega)), by (first | lia | omega)⟩
theorem rangeI_mem {n i : Int} (h : 0 ≤ i) (h2 : i < n) : i ∈ rangeI n := rangeK_mem.mpr (by (first | lia | omega))
theorem rangeK_len (k : Nat) : (rangeK k).length = k := by unfold rangeK; rw [List.length_map, List.length_range]
theorem rangeK_succ (k : Nat) : rangeK (k + 1) = rangeK k ++ [(0 : Int) + (k : Nat)] := by unfold rangeK; rw [List.range_succ, List.map_append]; rfl
theorem rangeK_sorted (k : Nat) : (rangeK k).Pairwise (· ≤ ·) := by
  induction k with
  | zero => exact .nil
  | succ k ih =>
    rw [rangeK_succ, List.pairwise_append]
    refine ⟨ih, List.pairwise_singleton _ _, fun a ha b hb => ?_⟩
    have h1 := rangeK_mem.mp ha
    have h2 : b = (0 : Int) + (k : Nat) := by simpa using hb
    (first | lia | omega)
theorem rangeK_nodup (k : Nat) : (rangeK k).Nodup := by
  induction k with
  | zero => exact List.nodup_nil
  | succ k ih =>
    rw [rangeK_succ, List.nodup_append]
    refine ⟨ih, by simp, fun a ha b hb => ?_⟩
    have h1 := rangeK_mem.mp ha
    have h2 : b = (0 : Int) + (k : Nat) := by simpa using hb
    (first | lia | omega)
theorem things_eq (n : Int) : ((List.range (n - 0).toNat).map fun i => V.int ((0 : Int) + (i : Nat))) = (rangeI n).map V.int := by
  unfold rangeI rangeK
  rw [List.map_map, Int.sub_zero]
  rfl
def spVoters (K : PySem.W.Frag) : Sp := fun vs H Q _ => ∃ (n : Int) (a : Addr) (L : List (List Int)), vs = [.int n, .ref a] ∧ 1 ≤ n ∧ n ≤ 6 ∧ VAt K H a L ∧ Ords n L ∧ ∀ H', Same H H' → Q .non H'
def spAmong (K : PySem.W.Frag) : Sp := fun vs H Q _ => ∃ (a : Addr) (L : List (List Int)) (one other : Int), vs = [.ref a, .int one, .int other] ∧ VAt K H a L ∧ (∀ o ∈ L, one ∈ o ∧ other ∈ o) ∧ L.length ≤ 1000 ∧ ∀ H', Same H H' → Q (.int (leadM L one other)) H'
theorem erase_map {α β : Type} (f : α → β) : ∀ (l : List α) (i : Nat), (l.map f).eraseIdx i = (l.eraseIdx i).map f
  | [], _ => rfl
  | _ :: _, 0 => rfl
  | a :: l, i + 1 => by rw [List.map_cons, List.eraseIdx_cons_succ, List.eraseIdx_cons_succ, List.map_cons, erase_map f l i]
theorem erase_perm {α : Type} : ∀ {l : List α} {i : Nat} (h : i < l.length), (l[i] :: l.eraseIdx i).Perm l
  | [], _, h => by simp at h
  | _ :: _, 0, _ => .refl _
  | a :: l, i + 1, h => by
    have h' : i < l.length := by simpa using h
    show (l[i] :: a :: l.eraseIdx i).Perm (a :: l)
    exact (List.Perm.swap a l[i] _).trans ((erase_perm h').cons a)
def spCell (K : PySem.W.Frag) : Sp := fun vs H Q _ => ∃ (a : Addr) (ns : List Int) (k : Int), vs = [.ref a, .int k] ∧ SqL K H a (ns.map V.int) ∧ 0 ≤ k ∧ Q (.int (ns.getD k.toNat 0)) H
def spWhole : Sp := fun vs H Q _ => ∃ i : Int, vs = [.int i] ∧ Q (.bl true) H
def spOrder : Sp := fun vs H Q _ => ∃ c n : Int, vs = [.int c, .int n] ∧ 1 ≤ n ∧ n ≤ 6 ∧ ∀ H' p (o : List Int), Same H H' → H p = none → H' p = some (.tup (o.map V.int)) → o.Perm (rangeI n) → Q (.ref p) H'
def spLawVoters (K : PySem.W.Frag) : Sp := fun vs H Q _ => ∃ (a : Addr) (ns : List Int) (start n most : Int), vs = [.ref a, .int start, .int n, .int most] ∧ SqL K H a (ns.map V.int) ∧ 0 ≤ start ∧ 1 ≤ n ∧ n ≤ 6 ∧ 0 ≤ most ∧ most ≤ 60 ∧
  ∀ H' p xs L, Same H H' → H p = none → H' p = some (.lst xs) → Paired (dT H') L xs → Ords n L → L.length ≤ 100 → Q (.ref p) H'
theorem ords_take {n : Int} {L : List (List Int)} (h : Ords n L) (k : Nat) : Ords n (L.take k) := fun o ho => h o (List.mem_of_mem_take ho)
theorem ords_append {n : Int} {L M : List (List Int)} (h : Ords n L) (h' : Ords n M) : Ords n (L ++ M) := fun o ho => (List.mem_append.mp ho).elim (h o) (h' o)
theorem ords_rep {n : Int} {L : List (List Int)} (h : Ords n L) (k : Nat) : Ords n (List.replicate k L).flatten := fun o ho => by
  obtain ⟨M, hM, hm⟩ := List.mem_flatten.mp ho
  rw [(List.mem_replicate.mp hM).2] at hm
  exact h o hm
theorem cut_take (xs : List V) {e : Int} (h : 0 ≤ e) : cutV xs none (some e) = xs.take e.toNat := by
  unfold cutV
  have h1 : HT.sIx xs.length 0 none = 0 := rfl
  have h2 : HT.sIx xs.length xs.length (some e) = min e.toNat xs.length := by
    show (if e < 0 then _ else min e.toNat xs.length) = _
    rw [if_neg (by (first | lia | omega))]
  rw [h1, h2, List.drop_zero, Nat.sub_zero]
  by_cases hl : e.toNat ≤ xs.length
  · rw [Nat.min_eq_left hl]
  · rw [Nat.min_eq_right (by (first | lia | omega)), List.take_length, List.take_of_length_le (by (first | lia | omega))]
def winB (L : List (List Int)) (one other : Int) : Bool := !decide (one = other) && decide (0 < leadM L one other)
def rowM (L : List (List Int)) (one : Int) (k : Nat) : List (List Int) := ((rangeK k).filter (winB L one)).map fun other => [one, other]
def beatsM (L : List (List Int)) (n i : Nat) : List (List Int) := (rangeK i).flatMap fun one => rowM L one n
theorem rowM_succ (L : List (List Int)) (one : Int) (k : Nat) : rowM L one (k + 1) = rowM L one k ++ (if winB L one ((0 : Int) + (k : Nat)) = true then [[one, (0 : Int) + (k : Nat)]] else []) := by
  unfold rowM
  rw [rangeK_succ, List.filter_append, List.map_append]
  congr 1
  by_cases h : winB L one ((0 : Int) + (k : Nat)) = true
  · rw [if_pos h, List.filter_cons_of_pos h]; rfl
  · rw [if_neg h, List.filter_cons_of_neg h]; rfl
theorem beatsM_succ (L : List (List Int)) (n i : Nat) : beatsM L n (i + 1) = beatsM L n i ++ rowM L ((0 : Int) + (i : Nat)) n := by
  unfold beatsM
  rw [rangeK_succ, List.flatMap_append]
  congr 1
  rw [List.flatMap_cons, List.flatMap_nil, List.append_nil]
def spWeb (K : PySem.W.Frag) : Sp := fun vs H Q _ => ∃ (n : Int) (a : Addr) (L : List (List Int)), vs = [.int n, .ref a] ∧ 1 ≤ n ∧ n ≤ 6 ∧ VAt K H a L ∧ Ords n L ∧ L.length ≤ 1000 ∧
  ∀ H' wb ws, Same H H' → H wb = none → H' wb = some (.lst ws) → Paired (dT H') (beatsM L n.toNat n.toNat) ws → Q (.ref wb) H'
theorem dT_keep {H H' : Hp} {wb : Addr} {ws : List V} {o : HO} (hw : H wb = some (.lst ws)) (s : ∀ b u, H b = some u → b ≠ wb → H' b = some u) : ∀ a x, dT H a x → dT H' a x := fun _ _ ⟨p, e, h⟩ => ⟨p, e, s _ _ h (ne_of h hw (by intro z; cases z))⟩
theorem take_filter_succ {α : Type} (p : α → Bool) {l : List α} {i : Nat} {v : α} (h : l[i]? = some v) : (l.take (i + 1)).filter p = (l.take i).filter p ++ (if p v = true then [v] else []) := PySem.take_succ_filter p l i v h
theorem ord_mem {n : Int} {L : List (List Int)} (hO : Ords n L) {i : Int} (h : 0 ≤ i ∧ i < n) : ∀ o ∈ L, i ∈ o := fun o ho => (hO o ho).mem_iff.mpr (rangeI_mem h.1 h.2)
end Bm
namespace Bm
structure Good (n : Int) (W : List (Int × Int)) : Prop where
  rng : ∀ b ∈ W, (0 ≤ b.1 ∧ b.1 < n) ∧ (0 ≤ b.2 ∧ b.2 < n)
  irr : ∀ b ∈ W, b.1 ≠ b.2
  nodup : W.Nodup
  asym : ∀ b ∈ W, (b.2, b.1) ∉ W
  len : W.length ≤ 40
inductive Walk (W : List (Int × Int)) : Nat → Int → Int → Prop
  | nil (a : Int) : Walk W 0 a a
  | snoc {m : Nat} {a b c : Int} : Walk W m a b → (b, c) ∈ W → Walk W (m + 1) a c
def keepB (W : List (Int × Int)) (o : List Int) : Bool := W.all fun b => decide (o.idxOf b.1 < o.idxOf b.2)
theorem keepB_iff {W : List (Int × Int)} {o : List Int} : keepB W o = true ↔ ∀ b ∈ W, o.idxOf b.1 < o.idxOf b.2 := by
  unfold keepB
  rw [List.all_eq_true]
  constructor
  · intro h b hb; exact of_decide_eq_true (h b hb)
  · intro h b hb; exact decide_eq_true (h b hb)
theorem walk_cons {W : List (Int × Int)} {m : Nat} {a b c : Int} (e : (a, b) ∈ W) (w : Walk W m b c) : Walk W (m + 1) a c := by
  induction w with
  | nil b => exact .snoc (.nil a) e
  | snoc _ e' ih => exact .snoc (ih e) e'
theorem nodup_len {α : Type} [DecidableEq α] : ∀ {a b : List α}, a.Nodup → (∀ x ∈ a, x ∈ b) → a.length ≤ b.length
  | [], _, _, _ => Nat.zero_le _
  | x :: a, b, h, hs => by
    have hx := hs x List.mem_cons_self
    have hn := List.nodup_cons.mp h
    have := nodup_len (a := a) (b := b.erase x) hn.2 fun y hy => (List.mem_erase_of_ne (fun e => hn.1 (by rw [← e]; exact hy))).mpr (hs y (List.mem_cons_of_mem _ hy))
    rw [List.length_erase_of_mem hx] at this
    have h0 : 0 < b.length := List.length_pos_of_mem hx
    rw [List.length_cons]
    (first | lia | omega)
theorem perm_of_sub {α : Type} [DecidableEq α] : ∀ {a b : List α}, a.Nodup → (∀ x ∈ a, x ∈ b) → b.length ≤ a.length → b.Perm a
  | [], b, _, _, hl => by
    have : b = [] := List.eq_nil_of_length_eq_zero (by simpa using hl)
    rw [this]
  | x :: a, b, h, hs, hl => by
    have hx := hs x List.mem_cons_self
    have hn := List.nodup_cons.mp h
    have h0 : 0 < b.length := List.length_pos_of_mem hx
    refine (List.perm_cons_erase hx).trans ((perm_of_sub hn.2 (fun y hy => (List.mem_erase_of_ne (fun e => hn.1 (by rw [← e]; exact hy))).mpr (hs y (List.mem_cons_of_mem _ hy))) ?_).cons x)
    rw [List.length_erase_of_mem hx]
    rw [List.length_cons] at hl
    (first | lia | omega)
def cands (n : Int) (r : List Int) : List Int := (rangeI n).filter fun t => !decide (t ∈ r)
def stepO (n : Int) (r : List Int) : List (List Int) := (cands n r).map fun t => r ++ [t]
def ordersM (n : Int) : Nat → List (List Int)
  | 0 => [[]]
  | k + 1 => (ordersM n k).flatMap (stepO n)
def extM (n : Int) : Nat → List Int → List (List Int)
  | 0, r => [r]
  | k + 1, r => (cands n r).flatMap fun t => extM n k (r ++ [t])
theorem extM_succ (n : Int) : ∀ (k : Nat) (r : List Int), extM n (k + 1) r = (extM n k r).flatMap (stepO n)
  | 0, r => by
    show (cands n r).flatMap (fun t => [r ++ [t]]) = [r].flatMap (stepO n)
    rw [List.flatMap_cons, List.flatMap_nil, List.append_nil]
    unfold stepO
    rw [List.map_eq_flatMap]
  | k + 1, r => by
    show (cands n r).flatMap (fun t => extM n (k + 1) (r ++ [t])) = ((cands n r).flatMap fun t => extM n k (r ++ [t])).flatMap (stepO n)
    rw [List.flatMap_assoc]
    congr 1
    funext t
    exact extM_succ n k _
theorem ordersM_eq (n : Int) : ∀ k : Nat, ordersM n k = extM n k []
  | 0 => rfl
  | k + 1 => by rw [extM_succ, ← ordersM_eq n k]; rfl
theorem ext_prefix {n : Int} : ∀ {k : Nat} {r o : List Int}, o ∈ extM n k r → ∃ s, o = r ++ s
  | 0, r, o, h => ⟨[], by rw [List.append_nil]; exact List.mem_singleton.mp h⟩
  | k + 1, r, o, h => by
    obtain ⟨t, _, h⟩ := List.mem_flatMap.mp h
    obtain ⟨s, e⟩ := ext_prefix h
    exact ⟨t :: s, by rw [e, List.append_assoc]; rfl⟩
theorem cands_mem {n : Int} {r : List Int} {t : Int} : t ∈ cands n r ↔ t ∈ rangeI n ∧ t ∉ r := by
  unfold cands
  rw [List.mem_filter]
  simp
theorem rangeI_nodup (n : Int) : (rangeI n).Nodup := rangeK_nodup _
theorem cands_nodup (n : Int) (r : List Int) : (cands n r).Nodup := (rangeI_nodup n).filter _
theorem cands_snoc {n : Int} {r : List Int} {t : Int} : cands n (r ++ [t]) = (cands n r).erase t := by
  rw [(cands_nodup n r).erase_eq_filter]
  unfold cands
  rw [List.filter_filter]
  congr 1
  funext x
  rw [Bool.eq_iff_iff]
  simp
  exact And.comm
theorem cands_len {n : Int} {r : List Int} {t : Int} (h : t ∈ cands n r) : (cands n (r ++ [t])).length + 1 = (cands n r).length := by
  rw [cands_snoc, List.length_erase_of_mem h]
  have := List.length_pos_of_mem h
  (first | lia | omega)
theorem cands_nil (n : Int) : cands n [] = rangeI n := by
  unfold cands
  rw [List.filter_eq_self]
  intro a _
  simp
theorem ext_full {n : Int} : ∀ {k : Nat} {r o : List Int}, (cands n r).length = k → o ∈ extM n k r → ∀ x ∈ rangeI n, x ∈ o
  | 0, r, o, hk, h, x, hx => by
    rw [List.mem_singleton.mp h]
    have e : cands n r = [] := List.eq_nil_of_length_eq_zero hk
    by_cases hr : x ∈ r
    · exact hr
    · have := cands_mem.mpr ⟨hx, hr⟩
      rw [e] at this
      cases this
  | k + 1, r, o, hk, h, x, hx => by
    obtain ⟨t, ht, h⟩ := List.mem_flatMap.mp h
    exact ext_full (by have := cands_len ht; (first | lia | omega)) h x hx
def beatenM (W : List (Int × Int)) (left : List Int) : List Int := (W.filter fun b => decide (b.1 ∈ left)).map (·.2)
def firstUnb (W : List (Int × Int)) (left : List Int) : Option Int := left.find? fun t => !decide (t ∈ beatenM W left)
def greedy (n : Int) (W : List (Int × Int)) : Nat → List Int → Option (List Int)
  | 0, r => some r
  | k + 1, r => match firstUnb W (cands n r) with
    | none => none
    | some t => greedy n W k (r ++ [t])
def orderedM (n : Int) (W : List (Int × Int)) : Option (List Int) := greedy n W n.toNat []
theorem beatenM_mem {W : List (Int × Int)} {left : List Int} {t : Int} : t ∈ beatenM W left ↔ ∃ u ∈ left, (u, t) ∈ W := by
  unfold beatenM
  rw [List.mem_map]
  constructor
  · rintro ⟨b, hb, rfl⟩
    rw [List.mem_filter] at hb
    exact ⟨b.1, of_decide_eq_true hb.2, hb.1⟩
  · rintro ⟨u, hu, h⟩
    exact ⟨(u, t), List.mem_filter.mpr ⟨h, decide_eq_true hu⟩, rfl⟩
structure Pre (n : Int) (W : List (Int × Int)) (r : List Int) : Prop where
  nodup : r.Nodup
  sub : ∀ x ∈ r, x ∈ rangeI n
  ok : ∀ b ∈ W, b.2 ∈ r → b.1 ∈ r ∧ r.idxOf b.1 < r.idxOf b.2
theorem Pre.nil (n : Int) (W : List (Int × Int)) : Pre n W [] := ⟨List.nodup_nil, fun _ h => (by cases h), fun _ _ h => (by cases h)⟩
theorem Good.mem {n : Int} {W : List (Int × Int)} (g : Good n W) {b : Int × Int} (h : b ∈ W) : b.1 ∈ rangeI n ∧ b.2 ∈ rangeI n :=
  ⟨rangeI_mem (g.rng b h).1.1 (g.rng b h).1.2, rangeI_mem (g.rng b h).2.1 (g.rng b h).2.2⟩
theorem Pre.snoc {n : Int} {W : List (Int × Int)} {r : List Int} {t : Int} (g : Good n W) (p : Pre n W r) (h : firstUnb W (cands n r) = some t) : Pre n W (r ++ [t]) := by
  have ht : t ∈ cands n r := List.mem_of_find?_eq_some h
  have hu : t ∉ beatenM W (cands n r) := by
    have := List.find?_some h
    simpa using this
  obtain ⟨h1, h2⟩ := cands_mem.mp ht
  refine ⟨?_, ?_, ?_⟩
  · rw [List.nodup_append]
    refine ⟨p.nodup, by simp, fun a ha b hb e => ?_⟩
    rw [List.mem_singleton.mp hb] at e
    exact h2 (by rw [← e]; exact ha)
  · intro x hx
    rcases List.mem_append.mp hx with hx | hx
    · exact p.sub x hx
    · rw [List.mem_singleton.mp hx]; exact h1
  · intro b hb hr
    have fin : b.1 ∈ r → b.2 ∈ r ∨ b.2 = t → r.idxOf b.1 < (r ++ [t]).idxOf b.2 → b.1 ∈ r ++ [t] ∧ (r ++ [t]).idxOf b.1 < (r ++ [t]).idxOf b.2 := fun q _ l => by
      refine ⟨List.mem_append_left _ q, ?_⟩
      rw [List.idxOf_append (a := b.1), if_pos q]
      exact l
    by_cases hr' : b.2 ∈ r
    · obtain ⟨q1, q2⟩ := p.ok b hb hr'
      refine fin q1 (.inl hr') ?_
      rw [List.idxOf_append, if_pos hr']
      exact q2
    · have e : b.2 = t := by
        rcases List.mem_append.mp hr with z | z
        · exact absurd z hr'
        · exact List.mem_singleton.mp z
      have q : b.1 ∈ r := by
        by_cases q : b.1 ∈ r
        · exact q
        · exact absurd (beatenM_mem.mpr ⟨b.1, cands_mem.mpr ⟨(g.mem hb).1, q⟩, by rw [← e]; exact hb⟩) hu
      refine fin q (.inr e) ?_
      rw [List.idxOf_append, if_neg hr']
      have := List.idxOf_lt_length_iff.mpr q
      (first | lia | omega)
theorem find_split {α : Type} {p : α → Bool} : ∀ {l : List α} {t : α}, l.find? p = some t → ∃ a b, l = a ++ t :: b ∧ ∀ x ∈ a, ¬ p x = true
  | [], _, h => by cases h
  | x :: l, t, h => by
    by_cases hx : p x = true
    · rw [List.find?_cons_of_pos hx] at h
      cases h
      exact ⟨[], l, rfl, fun _ z => by cases z⟩
    · rw [List.find?_cons_of_neg hx] at h
      obtain ⟨a, b, e, k⟩ := find_split h
      refine ⟨x :: a, b, by rw [e]; rfl, fun y hy => ?_⟩
      rcases List.mem_cons.mp hy with rfl | hy
      · exact hx
      · exact k y hy
theorem ext_beaten {n : Int} {W : List (Int × Int)} {k : Nat} {r : List Int} {t u : Int} (hu : u ∈ cands n r) (ht : t ∈ cands n r) (hne : u ≠ t) (hb : (u, t) ∈ W) : (extM n k (r ++ [t])).filter (keepB W) = [] := by
  rw [List.filter_eq_nil_iff]
  intro o ho hk
  obtain ⟨s, rfl⟩ := ext_prefix ho
  have h := keepB_iff.mp hk _ hb
  have h1 := (cands_mem.mp hu).2
  have h2 := (cands_mem.mp ht).2
  simp only at h
  rw [List.append_assoc, List.idxOf_append (a := u), if_neg h1, List.idxOf_append (a := t) (l₁ := r), if_neg h2] at h
  have e : ([t] ++ s).idxOf t = 0 := by rw [List.singleton_append, List.idxOf_cons_self]
  (first | lia | omega)
theorem greedy_some {n : Int} {W : List (Int × Int)} (g : Good n W) : ∀ {k : Nat} {r o : List Int}, (cands n r).length = k → Pre n W r → greedy n W k r = some o → Pre n W o ∧ cands n o = [] ∧ ((extM n k r).filter (keepB W)).head? = some o
  | 0, r, o, hk, p, h => by
    have e : r = o := Option.some.inj h
    subst e
    have hc : cands n r = [] := List.eq_nil_of_length_eq_zero hk
    refine ⟨p, hc, ?_⟩
    have hK : keepB W r = true := keepB_iff.mpr fun b hb => (p.ok b hb (by
      by_cases hr : b.2 ∈ r
      · exact hr
      · have := cands_mem.mpr ⟨(g.mem hb).2, hr⟩
        rw [hc] at this
        cases this)).2
    show (([r] : List (List Int)).filter (keepB W)).head? = some r
    rw [List.filter_cons_of_pos hK]
    rfl
  | k + 1, r, o, hk, p, h => by
    unfold greedy at h
    cases e : firstUnb W (cands n r) with
    | none => rw [e] at h; cases h
    | some t =>
      rw [e] at h
      have ht : t ∈ cands n r := List.mem_of_find?_eq_some e
      obtain ⟨q1, q2, q3⟩ := greedy_some g (by have := cands_len ht; (first | lia | omega)) (p.snoc g e) h
      refine ⟨q1, q2, ?_⟩
      obtain ⟨a, b, ec, ha⟩ := find_split (p := fun t => !decide (t ∈ beatenM W (cands n r))) e
      show (((cands n r).flatMap fun t => extM n k (r ++ [t])).filter (keepB W)).head? = some o
      rw [List.filter_flatMap]
      conv => lhs; arg 1; arg 2; rw [ec]
      rw [List.flatMap_append, List.flatMap_cons]
      have ea : a.flatMap (fun x => (extM n k (r ++ [x])).filter (keepB W)) = [] := by
        rw [List.flatMap_eq_nil_iff]
        intro x hx
        have hxb : x ∈ beatenM W (cands n r) := by simpa using ha x hx
        obtain ⟨u, hu, hb⟩ := beatenM_mem.mp hxb
        exact ext_beaten hu (by rw [ec]; exact List.mem_append_left _ hx) (g.irr _ hb) hb
      rw [ea, List.nil_append, List.head?_append, q3]
      rfl
structure Stuck (n : Int) (W : List (Int × Int)) (S : List Int) : Prop where
  ne : S ≠ []
  nodup : S.Nodup
  sub : ∀ x ∈ S, x ∈ rangeI n
  pred : ∀ t ∈ S, ∃ u ∈ S, (u, t) ∈ W
theorem greedy_none {n : Int} {W : List (Int × Int)} : ∀ {k : Nat} {r : List Int}, (cands n r).length = k → greedy n W k r = none → ∃ S, Stuck n W S
  | 0, _, _, h => by cases h
  | k + 1, r, hk, h => by
    unfold greedy at h
    cases e : firstUnb W (cands n r) with
    | none =>
      refine ⟨cands n r, fun z => ?_, cands_nodup n r, fun x hx => (cands_mem.mp hx).1, fun t ht => ?_⟩
      · rw [z] at hk; cases hk
      · have := List.find?_eq_none.mp e t ht
        exact beatenM_mem.mp (by simpa using this)
    | some t =>
      rw [e] at h
      have ht : t ∈ cands n r := List.mem_of_find?_eq_some e
      exact greedy_none (by have := cands_len ht; (first | lia | omega)) h
theorem Stuck.keep {n : Int} {W : List (Int × Int)} {S : List Int} (s : Stuck n W S) (o : List Int) : ¬ keepB W o = true := fun hk => by
  have key : ∀ m, ∀ t ∈ S, o.idxOf t = m → False := by
    intro m
    induction m using Nat.strongRecOn with
    | _ m ih =>
      intro t ht e
      obtain ⟨u, hu, hb⟩ := s.pred t ht
      have := keepB_iff.mp hk _ hb
      exact ih _ (by simp only at this; (first | lia | omega)) u hu rfl
  cases hS : S with
  | nil => exact s.ne hS
  | cons t _ => exact key _ t (by rw [hS]; exact List.mem_cons_self) rfl
def Back (W : List (Int × Int)) : List Int → Prop
  | [] => True
  | [_] => True
  | x :: y :: r => (x, y) ∈ W ∧ Back W (y :: r)
theorem Back.walk {W : List (Int × Int)} : ∀ {x : Int} {c : List Int}, Back W (x :: c) → ∀ e ∈ x :: c, ∃ m, Walk W m x e
  | x, [], _, e, he => by rw [List.mem_singleton.mp he]; exact ⟨0, .nil x⟩
  | x, y :: c, h, e, he => by
    rcases List.mem_cons.mp he with rfl | he
    · exact ⟨0, .nil _⟩
    · obtain ⟨m, w⟩ := Back.walk h.2 e he
      exact ⟨m + 1, walk_cons h.1 w⟩
theorem Stuck.walk {n : Int} {W : List (Int × Int)} {S : List Int} (s : Stuck n W S) : ∃ a m, a ∈ rangeI n ∧ Walk W (m + 1) a a := by
  have key : ∀ (f : Nat) (x : Int) (c : List Int), f + (c.length + 1) = S.length + 1 → Back W (x :: c) → (x :: c).Nodup → (∀ y ∈ x :: c, y ∈ S) → ∃ a m, a ∈ rangeI n ∧ Walk W (m + 1) a a := by
    intro f
    induction f with
    | zero =>
      intro x c hl _ hn hs
      have := nodup_len hn hs
      rw [List.length_cons] at this
      (first | lia | omega)
    | succ f ih =>
      intro x c hl hb hn hs
      obtain ⟨u, hu, hux⟩ := s.pred x (hs x List.mem_cons_self)
      by_cases hc : u ∈ x :: c
      · obtain ⟨m, w⟩ := hb.walk u hc
        exact ⟨u, m, s.sub u hu, walk_cons hux w⟩
      · refine ih u (x :: c) (by rw [List.length_cons]; (first | lia | omega)) ⟨hux, hb⟩ (List.nodup_cons.mpr ⟨hc, hn⟩) fun y hy => ?_
        rcases List.mem_cons.mp hy with rfl | hy
        · exact hu
        · exact hs y hy
  cases hS : S with
  | nil => exact absurd hS s.ne
  | cons t r =>
    refine key r.length.succ t [] (by rw [hS]; simp) trivial (by simp) fun y hy => ?_
    rw [List.mem_singleton.mp hy, hS]
    exact List.mem_cons_self
theorem ordered_ok {n : Int} {W : List (Int × Int)} (g : Good n W) :
    (∃ o, orderedM n W = some o ∧ o.Perm (rangeI n) ∧ ((ordersM n n.toNat).filter (keepB W)).head? = some o ∧ keepB W o = true) ∨
    (orderedM n W = none ∧ (ordersM n n.toNat).filter (keepB W) = [] ∧ ∃ a m, a ∈ rangeI n ∧ Walk W (m + 1) a a) := by
  have hk : (cands n []).length = n.toNat := by rw [cands_nil]; exact rangeK_len _
  rw [ordersM_eq]
  cases e : orderedM n W with
  | none =>
    right
    obtain ⟨S, s⟩ := greedy_none hk e
    refine ⟨rfl, List.filter_eq_nil_iff.mpr fun o _ => s.keep o, s.walk⟩
  | some o =>
    left
    obtain ⟨p, hc, hh⟩ := greedy_some g hk (Pre.nil n W) e
    refine ⟨o, rfl, (List.perm_ext_iff_of_nodup p.nodup (rangeI_nodup n)).mpr fun x => ⟨p.sub x, fun hx => ?_⟩, hh, ?_⟩
    · by_cases hr : x ∈ o
      · exact hr
      · have := cands_mem.mpr ⟨hx, hr⟩
        rw [hc] at this
        cases this
    · have : o ∈ (extM n n.toNat []).filter (keepB W) := List.mem_of_mem_head? hh
      exact (List.mem_filter.mp this).2
structure RingOk (W : List (Int × Int)) (r : List Int) : Prop where
  ne : r ≠ []
  nodup : r.Nodup
  step : ∀ k a b, r[k]? = some a → r[k + 1]? = some b → (a, b) ∈ W
  close : ∀ a b, r[r.length - 1]? = some a → r[0]? = some b → (a, b) ∈ W
theorem RingOk.three {n : Int} {W : List (Int × Int)} {r : List Int} (g : Good n W) (h : RingOk W r) : 3 ≤ r.length := by
  match r, h with
  | [], h => exact absurd rfl h.ne
  | [a], h => exact absurd rfl (g.irr _ (h.close a a rfl rfl))
  | [a, b], h => exact absurd (h.close b a rfl rfl) (g.asym _ (h.step 0 a b rfl rfl))
  | _ :: _ :: _ :: _, _ => simp
theorem RingOk.mem {n : Int} {W : List (Int × Int)} {r : List Int} (g : Good n W) (h : RingOk W r) {x : Int} (hx : x ∈ r) : x ∈ rangeI n := by
  obtain ⟨k, hk⟩ := List.getElem?_of_mem hx
  have hkl := (List.getElem?_eq_some_iff.mp hk).1
  by_cases hk1 : k + 1 < r.length
  · exact (g.mem (h.step k x r[k + 1] hk (List.getElem?_eq_getElem hk1))).1
  · have e : r.length - 1 = k := by (first | lia | omega)
    exact (g.mem (h.close x r[0] (by rw [e]; exact hk) (List.getElem?_eq_getElem (by (first | lia | omega))))).1
theorem RingOk.len {n : Int} {W : List (Int × Int)} {r : List Int} (g : Good n W) (h : RingOk W r) : r.length ≤ n.toNat := by
  have := nodup_len h.nodup fun x hx => h.mem g hx
  rw [show (rangeI n).length = n.toNat from rangeK_len _] at this
  exact this
structure Row (W : List (Int × Int)) (s : Int) (k : Nat) (R row : List Int) : Prop where
  len : row.length = k + 1
  head : row[0]? = some s
  step : ∀ k a b, row[k]? = some a → row[k + 1]? = some b → (a, b) ∈ W
  nodup : row.Nodup
  sub : ∀ x ∈ row, x ∈ R
  walk : ∀ l, row[k]? = some l → Walk W k s l
structure Lev (n : Int) (W : List (Int × Int)) (s : Int) (k : Nat) (R : List Int) (rows : List (List Int)) : Prop where
  row : ∀ row ∈ rows, Row W s k R row
  rng : ∀ x ∈ R, x ∈ rangeI n
  nodup : R.Nodup
  st : s ∈ R
  all : ∀ m u, m ≤ k → Walk W m s u → u ∈ R
  noc : ∀ m, m < k → ¬ Walk W (m + 1) s s
  loc : ∀ u v, (u, v) ∈ W → u ∈ R → (∃ row ∈ rows, row[k]? = some u) ∨ (v ≠ s ∧ v ∈ R)
  cnt : rows.length ≤ R.length
structure Mid (n : Int) (W : List (Int × Int)) (s : Int) (k : Nat) (R0 R : List Int) (longer : List (List Int)) : Prop where
  row : ∀ row ∈ longer, Row W s (k + 1) R row
  rng : ∀ x ∈ R, x ∈ rangeI n
  nodup : R.Nodup
  sub0 : ∀ x ∈ R0, x ∈ R
  new : ∀ x ∈ R, x ∈ R0 ∨ ∃ row ∈ longer, row[k + 1]? = some x
  cnt : longer.length ≤ R.length
theorem Row.mono {W : List (Int × Int)} {s : Int} {k : Nat} {R R' row : List Int} (h : Row W s k R row) (m : ∀ x ∈ R, x ∈ R') : Row W s k R' row := ⟨h.len, h.head, h.step, h.nodup, fun x hx => m x (h.sub x hx), h.walk⟩
theorem Row.snoc {W : List (Int × Int)} {s : Int} {k : Nat} {R row : List Int} {l v : Int} (h : Row W s k R row) (hl : row[k]? = some l) (hb : (l, v) ∈ W) (hv : v ∉ R) : Row W s (k + 1) (R ++ [v]) (row ++ [v]) := by
  have hlen := h.len
  refine ⟨by rw [List.length_append, List.length_singleton]; (first | lia | omega), ?_, ?_, ?_, ?_, ?_⟩
  · rw [List.getElem?_append_left (by (first | lia | omega))]; exact h.head
  · intro j a b h1 h2
    by_cases hj : j + 1 < row.length
    · rw [List.getElem?_append_left (by (first | lia | omega))] at h1
      rw [List.getElem?_append_left hj] at h2
      exact h.step j a b h1 h2
    · have hjl := (List.getElem?_eq_some_iff.mp h2).1
      rw [List.length_append, List.length_singleton] at hjl
      have ej : j = k := by (first | lia | omega)
      subst ej
      rw [List.getElem?_append_left (by (first | lia | omega)), hl] at h1
      rw [List.getElem?_append_right (by (first | lia | omega)), show j + 1 - row.length = 0 by (first | lia | omega)] at h2
      cases h1
      cases h2
      exact hb
  · rw [List.nodup_append]
    refine ⟨h.nodup, by simp, fun a ha b hb' e => ?_⟩
    rw [List.mem_singleton.mp hb'] at e
    exact hv (by rw [← e]; exact h.sub a ha)
  · intro x hx
    rcases List.mem_append.mp hx with hx | hx
    · exact List.mem_append_left _ (h.sub x hx)
    · exact List.mem_append_right _ hx
  · intro l' h'
    rw [List.getElem?_append_right (by (first | lia | omega)), show k + 1 - row.length = 0 by (first | lia | omega)] at h'
    cases h'
    exact .snoc (h.walk l hl) hb
theorem Mid.start {n : Int} {W : List (Int × Int)} {s : Int} {k : Nat} {R : List Int} {rows : List (List Int)} (h : Lev n W s k R rows) : Mid n W s k R R [] :=
  ⟨fun _ z => (by cases z), h.rng, h.nodup, fun _ z => z, fun _ z => .inl z, Nat.zero_le _⟩
theorem Mid.add {n : Int} {W : List (Int × Int)} {s : Int} {k : Nat} {R0 R : List Int} {longer : List (List Int)} {row : List Int} {l v : Int} (g : Good n W) (h : Mid n W s k R0 R longer) (hr : Row W s k R0 row) (hl : row[k]? = some l) (hb : (l, v) ∈ W) (hv : v ∉ R) :
    Mid n W s k R0 (R ++ [v]) (longer ++ [row ++ [v]]) := by
  refine ⟨fun r hr' => ?_, fun x hx => ?_, ?_, fun x hx => List.mem_append_left _ (h.sub0 x hx), fun x hx => ?_, ?_⟩
  · rcases List.mem_append.mp hr' with z | z
    · exact (h.row r z).mono fun x hx => List.mem_append_left _ hx
    · rw [List.mem_singleton.mp z]
      exact (hr.mono h.sub0).snoc hl hb hv
  · rcases List.mem_append.mp hx with z | z
    · exact h.rng x z
    · rw [List.mem_singleton.mp z]; exact (g.mem hb).2
  · rw [List.nodup_append]
    refine ⟨h.nodup, by simp, fun a ha b hb' e => ?_⟩
    rw [List.mem_singleton.mp hb'] at e
    exact hv (by rw [← e]; exact ha)
  · rcases List.mem_append.mp hx with z | z
    · rcases h.new x z with q | ⟨r, h1, h2⟩
      · exact .inl q
      · exact .inr ⟨r, List.mem_append_left _ h1, h2⟩
    · refine .inr ⟨row ++ [v], List.mem_append_right _ List.mem_cons_self, ?_⟩
      rw [List.mem_singleton.mp z, List.getElem?_append_right (by rw [hr.len]; (first | lia | omega)), hr.len, Nat.sub_self]
      rfl
  · have := h.cnt
    rw [List.length_append, List.length_append, List.length_singleton, List.length_singleton]
    (first | lia | omega)
theorem Lev.next {n : Int} {W : List (Int × Int)} {s : Int} {k : Nat} {R0 R : List Int} {rows longer : List (List Int)} (h : Lev n W s k R0 rows) (m : Mid n W s k R0 R longer)
    (d : ∀ row ∈ rows, ∀ l, row[k]? = some l → ∀ v, (l, v) ∈ W → v ≠ s ∧ v ∈ R) : Lev n W s (k + 1) R longer := by
  have proc : ∀ u v, (u, v) ∈ W → u ∈ R0 → v ≠ s ∧ v ∈ R := fun u v hb hu => by
    rcases h.loc u v hb hu with ⟨row, h1, h2⟩ | ⟨h1, h2⟩
    · exact d row h1 u h2 v hb
    · exact ⟨h1, m.sub0 v h2⟩
  refine ⟨m.row, m.rng, m.nodup, m.sub0 s h.st, fun j u hj w => ?_, fun j hj w => ?_, fun u v hb hu => ?_, m.cnt⟩
  · cases w with
    | nil => exact m.sub0 s h.st
    | snoc w e => exact (proc _ _ e (h.all _ _ (by (first | lia | omega)) w)).2
  · cases w with
    | snoc w e => exact (proc _ _ e (h.all _ _ (by (first | lia | omega)) w)).1 rfl
  · rcases m.new u hu with z | z
    · exact .inr (proc u v hb z)
    · exact .inl z
theorem Lev.start {n : Int} {W : List (Int × Int)} {s : Int} (h : s ∈ rangeI n) : Lev n W s 0 [s] [[s]] := by
  refine ⟨fun row hr => ?_, fun x hx => by rw [List.mem_singleton.mp hx]; exact h, by simp, List.mem_cons_self, fun m u hm w => ?_, fun m hm => by (first | lia | omega), fun u v _ hu => .inl ⟨[s], List.mem_cons_self, ?_⟩, Nat.le_refl _⟩
  · rw [List.mem_singleton.mp hr]
    refine ⟨rfl, rfl, fun k a b _ h2 => by simp at h2, by simp, fun x hx => hx, fun l hl => ?_⟩
    cases hl
    exact .nil s
  · cases w with
    | nil => exact List.mem_cons_self
    | snoc _ _ => (first | lia | omega)
  · rw [List.mem_singleton.mp hu]; rfl
theorem Lev.bound {n : Int} {W : List (Int × Int)} {s : Int} {k : Nat} {R : List Int} {rows : List (List Int)} (h : Lev n W s k R rows) {row : List Int} (hr : row ∈ rows) : k + 1 ≤ n.toNat := by
  have r := h.row row hr
  have := nodup_len r.nodup fun x hx => h.rng x (r.sub x hx)
  rw [r.len, show (rangeI n).length = n.toNat from rangeK_len _] at this
  exact this
theorem Mid.size {n : Int} {W : List (Int × Int)} {s : Int} {k : Nat} {R0 R : List Int} {longer : List (List Int)} (h : Mid n W s k R0 R longer) : R.length ≤ n.toNat := by
  have := nodup_len h.nodup h.rng
  rw [show (rangeI n).length = n.toNat from rangeK_len _] at this
  exact this
structure Found (W : List (Int × Int)) (s : Int) (r : List Int) : Prop where
  ring : RingOk W r
  walk : Walk W r.length s s
  least : ∀ m, Walk W (m + 1) s s → r.length ≤ m + 1
theorem Lev.ring {n : Int} {W : List (Int × Int)} {s : Int} {k : Nat} {R : List Int} {rows : List (List Int)} (h : Lev n W s k R rows) {row : List Int} (hr : row ∈ rows) {l : Int} (hl : row[k]? = some l) (hb : (l, s) ∈ W) : Found W s row := by
  have r := h.row row hr
  have hlen := r.len
  refine ⟨⟨fun z => ?_, r.nodup, r.step, fun a b h1 h2 => ?_⟩, ?_, fun m w => ?_⟩
  · rw [z] at hlen; cases hlen
  · rw [hlen, Nat.add_sub_cancel, hl] at h1
    rw [r.head] at h2
    cases h1
    cases h2
    exact hb
  · rw [hlen]; exact .snoc (r.walk l hl) hb
  · by_cases hm : m < k
    · exact absurd w (h.noc m hm)
    · (first | lia | omega)
theorem Lev.done {n : Int} {W : List (Int × Int)} {s : Int} {k : Nat} {R : List Int} (h : Lev n W s k R []) : ∀ m, ¬ Walk W (m + 1) s s := by
  have cl : ∀ u v, (u, v) ∈ W → u ∈ R → v ≠ s ∧ v ∈ R := fun u v hb hu => by
    rcases h.loc u v hb hu with ⟨_, z, _⟩ | z
    · cases z
    · exact z
  have all : ∀ {m u}, Walk W m s u → u ∈ R := by
    intro m u w
    induction w with
    | nil => exact h.st
    | snoc _ e ih => exact (cl _ _ e (ih h cl)).2
  intro m w
  cases w with
  | snoc w e => exact (cl _ _ e (all w)).1 rfl
end Bm
namespace Bm
open PySem L2
def dP : Den (Int × Int) := fun H b v => dT H [b.1, b.2] v
theorem dP_same {H H' : Hp} (s : Same H H') : ∀ a x, dP H a x → dP H' a x := fun _ _ h => dT_same s _ _ h
theorem dP_inj : ∀ (H : Hp) (a b : Int × Int) (x : V), dP H a x → dP H b x → a = b := fun H a b x h1 h2 => by
  have e := dT_inj H _ _ x h1 h2
  injection e with e1 e2
  injection e2 with e2 _
  exact Prod.ext e1 e2
theorem eq_dP_ok {X : Cx} : EqOk X dP 1 := by
  intro A pins s σ H a b x y u v hu I ha hb ru rv
  have h := eq_dT_ok (X := X) A pins s σ H [a.1, a.2] [b.1, b.2] x y u v hu I ha hb ru rv
  have e : decide (([a.1, a.2] : List Int) = [b.1, b.2]) = decide (a = b) := by
    rw [Bool.eq_iff_iff, decide_eq_true_eq, decide_eq_true_eq]
    constructor
    · intro e
      injection e with e1 e2
      injection e2 with e2 _
      exact Prod.ext e1 e2
    · intro e; rw [e]
  rw [e] at h
  exact h
def WAt (K : PySem.W.Frag) (H : Hp) (a : Addr) (W : List (Int × Int)) : Prop := ∃ xs, SqL K H a xs ∧ Paired (dP H) W xs
theorem WAt.same {K : PySem.W.Frag} {H H' : Hp} {a : Addr} {W : List (Int × Int)} (h : WAt K H a W) (s : Same H H') : WAt K H' a W := let ⟨xs, h1, h2⟩ := h; ⟨xs, s.seq h1, pd_same (dP_same s) h2⟩
def spCheckWeb (K : PySem.W.Frag) : Sp := fun vs H Q _ => ∃ (n : Int) (a : Addr) (W : List (Int × Int)), vs = [.int n, .ref a] ∧ 1 ≤ n ∧ n ≤ 6 ∧ WAt K H a W ∧ Good n W ∧ ∀ H', Same H H' → Q .non H'
def optV : Option Int → V
  | none => .non
  | some t => .int t
def spUnb (K : PySem.W.Frag) : Sp := fun vs H Q _ => ∃ (a : Addr) (W : List (Int × Int)) (la : Addr) (left : List Int), vs = [.ref a, .ref la] ∧ WAt K H a W ∧ W.length ≤ 100 ∧ SqL K H la (left.map V.int) ∧ ∀ H', Same H H' → Q (optV (firstUnb W left)) H'
def spOrdered (K : PySem.W.Frag) : Sp := fun vs H Q _ => ∃ (n : Int) (a : Addr) (W : List (Int × Int)), vs = [.int n, .ref a] ∧ 1 ≤ n ∧ n ≤ 6 ∧ WAt K H a W ∧ Good n W ∧
  (orderedM n W = none → ∀ H', Same H H' → Q .non H') ∧ (∀ o, orderedM n W = some o → ∀ H' p, Same H H' → H p = none → H' p = some (.tup (o.map V.int)) → Q (.ref p) H')
def spBeaten (K : PySem.W.Frag) : Sp := fun vs H Q _ => ∃ (a : Addr) (W : List (Int × Int)) (t : Int), vs = [.ref a, .int t] ∧ WAt K H a W ∧ W.length ≤ 100 ∧
  ∀ H' p, Same H H' → H p = none → H' p = some (.lst (((W.filter fun b => decide (b.1 = t)).map (·.2)).map V.int)) → Q (.ref p) H'
def spRingFrom (K : PySem.W.Frag) : Sp := fun vs H Q _ => ∃ (a : Addr) (W : List (Int × Int)) (n s : Int), vs = [.ref a, .int s] ∧ WAt K H a W ∧ Good n W ∧ n ≤ 6 ∧ s ∈ rangeI n ∧
  ((∀ m, ¬ Walk W (m + 1) s s) → ∀ H', Same H H' → Q .non H') ∧ (∀ r, Found W s r → ∀ H' p, Same H H' → H p = none → H' p = some (.lst (r.map V.int)) → Q (.ref p) H')
structure Least (n : Int) (W : List (Int × Int)) (r : List Int) : Prop where
  ring : RingOk W r
  walk : ∃ s, s ∈ rangeI n ∧ Walk W r.length s s
  least : ∀ s ∈ rangeI n, ∀ m, Walk W (m + 1) s s → r.length ≤ m + 1
def spRing (K : PySem.W.Frag) : Sp := fun vs H Q _ => ∃ (n : Int) (a : Addr) (W : List (Int × Int)), vs = [.int n, .ref a] ∧ 1 ≤ n ∧ n ≤ 6 ∧ WAt K H a W ∧ Good n W ∧
  ((∀ s ∈ rangeI n, ∀ m, ¬ Walk W (m + 1) s s) → ∀ H', Same H H' → Q .non H') ∧ (∀ r, Least n W r → ∀ H' p, Same H H' → H p = none → H' p = some (.lst (r.map V.int)) → Q (.ref p) H')
theorem find_at {α : Type} {p : α → Bool} : ∀ {l : List α} {i : Nat} {t : α}, l[i]? = some t → p t = true → (∀ x ∈ l.take i, ¬ p x = true) → l.find? p = some t
  | [], _, _, h, _, _ => by simp at h
  | x :: l, 0, t, h, ht, _ => by
    cases h
    rw [List.find?_cons_of_pos ht]
  | x :: l, i + 1, t, h, ht, k => by
    rw [List.find?_cons_of_neg (k x (by rw [List.take_succ_cons]; exact List.mem_cons_self))]
    exact find_at (by simpa using h) ht fun y hy => k y (by rw [List.take_succ_cons]; exact List.mem_cons_of_mem _ hy)
theorem map_get {ns : List Int} {i : Nat} {x : V} (h : (ns.map V.int)[i]? = some x) : ∃ t, ns[i]? = some t ∧ x = .int t := by
  rw [List.getElem?_map] at h
  cases e : ns[i]? with
  | none => rw [e] at h; cases h
  | some t => rw [e] at h; cases h; exact ⟨t, rfl, rfl⟩
theorem take_succ_mem {α : Type} {l : List α} {i : Nat} {v x : α} (h : l[i]? = some v) (hx : x ∈ l.take (i + 1)) : x ∈ l.take i ∨ x = v := by
  rw [List.take_add_one, h] at hx
  rcases List.mem_append.mp hx with z | z
  · exact .inl z
  · exact .inr (by simpa using z)
end Bm
namespace Bm
def canonP (n : Nat) (p : Int → Int → Bool) : List (Int × Int) := (rangeK n).flatMap fun i => ((rangeK n).filter fun j => !decide (i = j) && p i j).map fun j => (i, j)
def ltP (b c : Int × Int) : Prop := b.1 < c.1 ∨ (b.1 = c.1 ∧ b.2 < c.2)
theorem canon_mem {n : Nat} {p : Int → Int → Bool} {b : Int × Int} : b ∈ canonP n p ↔ b.1 ∈ rangeK n ∧ b.2 ∈ rangeK n ∧ b.1 ≠ b.2 ∧ p b.1 b.2 = true := by
  unfold canonP
  rw [List.mem_flatMap]
  constructor
  · rintro ⟨i, hi, h⟩
    obtain ⟨j, hj, rfl⟩ := List.mem_map.mp h
    rw [List.mem_filter, Bool.and_eq_true] at hj
    exact ⟨hi, hj.1, by simpa using hj.2.1, hj.2.2⟩
  · rintro ⟨h1, h2, h3, h4⟩
    refine ⟨b.1, h1, List.mem_map.mpr ⟨b.2, List.mem_filter.mpr ⟨h2, ?_⟩, rfl⟩⟩
    rw [Bool.and_eq_true]
    exact ⟨by simpa using h3, h4⟩
theorem rangeK_lt (k : Nat) : (rangeK k).Pairwise (· < ·) := by
  induction k with
  | zero => exact .nil
  | succ k ih =>
    rw [rangeK_succ, List.pairwise_append]
    refine ⟨ih, List.pairwise_singleton _ _, fun a ha b hb => ?_⟩
    have h1 := rangeK_mem.mp ha
    have h2 : b = (0 : Int) + (k : Nat) := by simpa using hb
    (first | lia | omega)
theorem flat_pairwise {g : Int → List (Int × Int)} : ∀ {l : List Int}, l.Pairwise (· < ·) → (∀ i ∈ l, (g i).Pairwise ltP ∧ ∀ b ∈ g i, b.1 = i) → (l.flatMap g).Pairwise ltP
  | [], _, _ => .nil
  | i :: l, h, k => by
    rw [List.flatMap_cons, List.pairwise_append]
    have hc := List.pairwise_cons.mp h
    refine ⟨(k i List.mem_cons_self).1, flat_pairwise hc.2 fun j hj => k j (List.mem_cons_of_mem _ hj), fun a ha b hb => ?_⟩
    obtain ⟨j, hj, hb⟩ := List.mem_flatMap.mp hb
    have e1 := (k i List.mem_cons_self).2 a ha
    have e2 := (k j (List.mem_cons_of_mem _ hj)).2 b hb
    have := hc.1 j hj
    exact .inl (by rw [e1, e2]; exact this)
theorem canon_sorted (n : Nat) (p : Int → Int → Bool) : (canonP n p).Pairwise ltP := by
  refine flat_pairwise (rangeK_lt n) fun i _ => ⟨?_, fun b hb => ?_⟩
  · refine List.pairwise_map.mpr (((rangeK_lt n).filter _).imp ?_)
    intro a b h
    exact .inr ⟨rfl, h⟩
  · obtain ⟨j, _, rfl⟩ := List.mem_map.mp hb
    rfl
theorem sorted_unique : ∀ {a b : List (Int × Int)}, a.Pairwise ltP → b.Pairwise ltP → (∀ x, x ∈ a ↔ x ∈ b) → a = b
  | [], [], _, _, _ => rfl
  | [], y :: b, _, _, h => by have := (h y).mpr List.mem_cons_self; cases this
  | x :: a, [], _, _, h => by have := (h x).mp List.mem_cons_self; cases this
  | x :: a, y :: b, ha, hb, h => by
    have h1 := List.pairwise_cons.mp ha
    have h2 := List.pairwise_cons.mp hb
    have e : x = y := by
      rcases List.mem_cons.mp ((h x).mp List.mem_cons_self) with e | e
      · exact e
      · rcases List.mem_cons.mp ((h y).mpr List.mem_cons_self) with e' | e'
        · exact e'.symm
        · have l1 := h1.1 y e'
          have l2 := h2.1 x e
          unfold ltP at l1 l2
          (first | lia | omega)
    subst e
    refine congrArg (x :: ·) (sorted_unique h1.2 h2.2 fun z => ⟨fun hz => ?_, fun hz => ?_⟩)
    · rcases List.mem_cons.mp ((h z).mp (List.mem_cons_of_mem _ hz)) with e | e
      · have l := h1.1 z hz
        rw [e] at l
        unfold ltP at l
        (first | lia | omega)
      · exact e
    · rcases List.mem_cons.mp ((h z).mpr (List.mem_cons_of_mem _ hz)) with e | e
      · have l := h2.1 z hz
        rw [e] at l
        unfold ltP at l
        (first | lia | omega)
      · exact e
def webC (n : Int) (W : List (Int × Int)) : List (Int × Int) := canonP n.toNat fun i j => decide ((i, j) ∈ W)
def beatsC (n : Int) (L : List (List Int)) : List (Int × Int) := canonP n.toNat fun i j => decide (0 < leadM L i j)
theorem webC_of {n : Int} {W W' : List (Int × Int)} (g : Good n W) (hp : ∀ x, x ∈ W' ↔ x ∈ W) (hs : W'.Pairwise ltP) : W' = webC n W := by
  refine sorted_unique hs (canon_sorted _ _) fun x => ?_
  rw [hp, webC, canon_mem]
  constructor
  · intro hx
    exact ⟨(g.mem hx).1, (g.mem hx).2, g.irr x hx, decide_eq_true hx⟩
  · rintro ⟨_, _, _, h⟩
    exact of_decide_eq_true h
theorem webC_mem {n : Int} {W : List (Int × Int)} (g : Good n W) {x : Int × Int} : x ∈ webC n W ↔ x ∈ W := by
  rw [webC, canon_mem]
  constructor
  · rintro ⟨_, _, _, h⟩
    exact of_decide_eq_true h
  · intro hx
    exact ⟨(g.mem hx).1, (g.mem hx).2, g.irr x hx, decide_eq_true hx⟩
theorem canon_congr {n : Nat} {p q : Int → Int → Bool} (h : ∀ i ∈ rangeK n, ∀ j ∈ rangeK n, i ≠ j → p i j = q i j) : canonP n p = canonP n q := by
  refine sorted_unique (canon_sorted _ _) (canon_sorted _ _) fun x => ?_
  rw [canon_mem, canon_mem]
  constructor
  · rintro ⟨h1, h2, h3, h4⟩
    exact ⟨h1, h2, h3, by rw [← h _ h1 _ h2 h3]; exact h4⟩
  · rintro ⟨h1, h2, h3, h4⟩
    exact ⟨h1, h2, h3, by rw [h _ h1 _ h2 h3]; exact h4⟩
theorem canon_len (n : Nat) (p : Int → Int → Bool) : (canonP n p).length ≤ n * n := by
  have key : ∀ (l : List Int), (l.flatMap fun i => ((rangeK n).filter fun j => !decide (i = j) && p i j).map fun j => (i, j)).length ≤ l.length * n := by
    intro l
    induction l with
    | nil => exact Nat.zero_le _
    | cons i l ih =>
      rw [List.flatMap_cons, List.length_append, List.length_map, List.length_cons, Nat.succ_mul]
      have := List.length_filter_le (fun j => !decide (i = j) && p i j) (rangeK n)
      rw [rangeK_len] at this
      (first | lia | omega)
  have := key (rangeK n)
  rw [rangeK_len] at this
  exact this
theorem lead_append (L M : List (List Int)) (x y : Int) : leadM (L ++ M) x y = leadM L x y + leadM M x y := by
  unfold leadM
  rw [List.filter_append, List.length_append, List.length_append]
  (first | lia | omega)
theorem lead_one (o : List Int) (x y : Int) : leadM [o] x y = if before x y o = true then 1 else -1 := by
  unfold leadM
  by_cases h : before x y o = true
  · rw [List.filter_cons_of_pos h, if_pos h]; rfl
  · rw [List.filter_cons_of_neg h, if_neg h]; rfl
theorem lead_cons (o : List Int) (L : List (List Int)) (x y : Int) : leadM (o :: L) x y = leadM [o] x y + leadM L x y := lead_append [o] L x y
theorem idx_inj {o : List Int} {x y : Int} (hx : x ∈ o) (hy : y ∈ o) (h : o.idxOf x = o.idxOf y) : x = y := by
  have e1 := List.getElem_idxOf (List.idxOf_lt_length_iff.mpr hx)
  have e2 := List.getElem_idxOf (List.idxOf_lt_length_iff.mpr hy)
  rw [← e1, ← e2]
  congr 1
theorem before_flip {o : List Int} {x y : Int} (hx : x ∈ o) (hy : y ∈ o) (hne : x ≠ y) : before y x o = !before x y o := by
  have : o.idxOf x ≠ o.idxOf y := fun e => hne (idx_inj hx hy e)
  unfold before
  by_cases h : (o.idxOf x : Int) < (o.idxOf y : Int)
  · rw [decide_eq_true h, decide_eq_false (by (first | lia | omega))]; rfl
  · rw [decide_eq_false h, decide_eq_true (by (first | lia | omega))]; rfl
theorem lead_flip {n : Int} {L : List (List Int)} (hO : Ords n L) {x y : Int} (hx : x ∈ rangeI n) (hy : y ∈ rangeI n) (hne : x ≠ y) : leadM L y x = - leadM L x y := by
  induction L with
  | nil => rfl
  | cons o L ih =>
    have hp := hO o List.mem_cons_self
    rw [lead_cons, lead_cons (x := x), ih fun o ho => hO o (List.mem_cons_of_mem _ ho), lead_one, lead_one, before_flip (hp.mem_iff.mpr hx) (hp.mem_iff.mpr hy) hne]
    by_cases h : before x y o = true
    · rw [h]; simp only [Bool.not_true, Bool.false_eq_true, if_false, if_true]; (first | lia | omega)
    · rw [Bool.eq_false_iff.mpr h]; simp only [Bool.not_false, if_true, Bool.false_eq_true, if_false]; (first | lia | omega)
def netM (W : List (Int × Int)) (x y : Int) : Int := (if (x, y) ∈ W then 1 else 0) - (if (y, x) ∈ W then 1 else 0)
theorem beats_good {n : Int} {L : List (List Int)} (h6 : n ≤ 6) (hO : Ords n L) : Good n (beatsC n L) := by
  have hm : ∀ b, b ∈ beatsC n L ↔ _ := fun b => canon_mem
  refine ⟨fun b hb => ?_, fun b hb => ((hm b).mp hb).2.2.1, ?_, fun b hb hb' => ?_, ?_⟩
  · have h := (hm b).mp hb
    have h1 := rangeK_mem.mp h.1
    have h2 := rangeK_mem.mp h.2.1
    (first | lia | omega)
  · refine (canon_sorted _ _).imp ?_
    intro a b h e
    rw [e] at h
    unfold ltP at h
    (first | lia | omega)
  · have h := (hm b).mp hb
    have h' := (hm _).mp hb'
    have e := lead_flip hO h.1 h.2.1 h.2.2.1
    have p1 := of_decide_eq_true h.2.2.2
    have p2 := of_decide_eq_true h'.2.2.2
    simp only at p2
    (first | lia | omega)
  · have := canon_len n.toNat fun i j => decide (0 < leadM L i j)
    have h36 : n.toNat * n.toNat ≤ 6 * 6 := Nat.mul_le_mul (by (first | lia | omega)) (by (first | lia | omega))
    unfold beatsC
    (first | lia | omega)
end Bm
namespace Bm
theorem beats_mem {n : Int} {L : List (List Int)} {x y : Int} : (x, y) ∈ beatsC n L ↔ x ∈ rangeI n ∧ y ∈ rangeI n ∧ x ≠ y ∧ 0 < leadM L x y := by
  unfold beatsC
  rw [canon_mem, decide_eq_true_eq]
  rfl
end Bm
namespace Bm
def outB (now wished : Int) : Bool := if wished = 0 then !decide (now = 1) && !decide (now = -1) else if wished < 0 then decide (-now < 0) else decide (now < 0)
def outsM (n : Int) (L : List (List Int)) (W : List (Int × Int)) : List (Int × Int) := canonP n.toNat fun i j => decide (i < j) && outB (leadM L i j) (netM W i j)
def bindZ (now wished : Int) : Int := if -1 ≤ now ∧ now ≤ 1 then (if wished = 0 then -now else wished) else 0
def bindP (L : List (List Int)) (W : List (Int × Int)) (i j : Int) : Bool := (decide (i < j) && decide (0 < bindZ (leadM L i j) (netM W i j))) || (decide (j < i) && decide (bindZ (leadM L j i) (netM W j i) < 0))
def boundM (n : Int) (L : List (List Int)) (W : List (Int × Int)) : List (Int × Int) := canonP n.toNat (bindP L W)
theorem bound_mem {n : Int} {L : List (List Int)} {W : List (Int × Int)} {x y : Int} : (x, y) ∈ boundM n L W ↔ x ∈ rangeI n ∧ y ∈ rangeI n ∧ ((x < y ∧ 0 < bindZ (leadM L x y) (netM W x y)) ∨ (y < x ∧ bindZ (leadM L y x) (netM W y x) < 0)) := by
  unfold boundM
  rw [canon_mem]
  unfold bindP
  simp only [Bool.or_eq_true, Bool.and_eq_true, decide_eq_true_eq]
  constructor
  · rintro ⟨h1, h2, _, h4⟩
    exact ⟨h1, h2, h4⟩
  · rintro ⟨h1, h2, h4⟩
    refine ⟨h1, h2, ?_, h4⟩
    rcases h4 with z | z <;> (first | lia | omega)
theorem bound_good {n : Int} (h6 : n ≤ 6) (L : List (List Int)) (W : List (Int × Int)) : Good n (boundM n L W) := by
  refine ⟨fun b hb => ?_, fun b hb => ?_, ?_, fun b hb hb' => ?_, ?_⟩
  · have h := bound_mem (x := b.1) (y := b.2).mp hb
    have h1 := rangeK_mem.mp h.1
    have h2 := rangeK_mem.mp h.2.1
    (first | lia | omega)
  · have h := bound_mem (x := b.1) (y := b.2).mp hb
    rcases h.2.2 with z | z <;> (first | lia | omega)
  · refine (canon_sorted _ _).imp ?_
    intro a b h e
    rw [e] at h
    unfold ltP at h
    (first | lia | omega)
  · have h := (bound_mem (x := b.1) (y := b.2).mp hb).2.2
    have h' := (bound_mem (x := b.2) (y := b.1).mp hb').2.2
    rcases h with ⟨z1, z2⟩ | ⟨z1, z2⟩ <;> rcases h' with ⟨w1, w2⟩ | ⟨w1, w2⟩ <;> (first | lia | omega)
  · have := canon_len n.toNat (bindP L W)
    have h36 : n.toNat * n.toNat ≤ 6 * 6 := Nat.mul_le_mul (by (first | lia | omega)) (by (first | lia | omega))
    unfold boundM
    (first | lia | omega)
theorem net_flip (W : List (Int × Int)) (x y : Int) : netM W y x = - netM W x y := by
  unfold netM
  (first | lia | omega)
theorem net_range {n : Int} {W : List (Int × Int)} (g : Good n W) (x y : Int) : netM W x y = 1 ∧ (x, y) ∈ W ∧ (y, x) ∉ W ∨ netM W x y = -1 ∧ (x, y) ∉ W ∧ (y, x) ∈ W ∨ netM W x y = 0 ∧ (x, y) ∉ W ∧ (y, x) ∉ W := by
  unfold netM
  by_cases h1 : (x, y) ∈ W
  · have h2 : (y, x) ∉ W := g.asym _ h1
    exact .inl ⟨by rw [if_pos h1, if_neg h2]; rfl, h1, h2⟩
  · by_cases h2 : (y, x) ∈ W
    · exact .inr (.inl ⟨by rw [if_neg h1, if_pos h2]; rfl, h1, h2⟩)
    · exact .inr (.inr ⟨by rw [if_neg h1, if_neg h2]; rfl, h1, h2⟩)
theorem pair_ok {now s wished : Int} (hs : s = 1 ∨ s = -1) (hw : wished = 1 ∨ wished = -1 ∨ wished = 0) : ((0 < now + s ↔ wished = 1) ∧ (now + s < 0 ↔ wished = -1)) ↔ (outB now wished = false ∧ (0 < bindZ now wished → s = 1) ∧ (bindZ now wished < 0 → s = -1)) := by
  by_cases hn : -1 ≤ now ∧ now ≤ 1
  · have hc : now = -1 ∨ now = 0 ∨ now = 1 := by (first | lia | omega)
    rcases hc with rfl | rfl | rfl <;> rcases hs with rfl | rfl <;> rcases hw with rfl | rfl | rfl <;> decide
  · have hb : bindZ now wished = 0 := by unfold bindZ; rw [if_neg hn]
    rw [hb]
    have e : (outB now wished = false ∧ ((0 : Int) < 0 → s = 1) ∧ ((0 : Int) < 0 → s = -1)) ↔ outB now wished = false := ⟨fun h => h.1, fun h => ⟨h, fun z => absurd z (by decide), fun z => absurd z (by decide)⟩⟩
    rw [e]
    rcases hw with rfl | rfl | rfl
    · have eo : outB now 1 = false ↔ ¬ now < 0 := by
        unfold outB
        rw [if_neg (by decide), if_neg (by decide), decide_eq_false_iff_not]
      rw [eo]
      constructor
      · intro h
        have := h.1.mpr rfl
        rcases hs with rfl | rfl <;> (first | lia | omega)
      · intro h
        exact ⟨⟨fun _ => rfl, fun _ => by rcases hs with rfl | rfl <;> (first | lia | omega)⟩, ⟨fun z => by rcases hs with rfl | rfl <;> (first | lia | omega), fun z => absurd z (by decide)⟩⟩
    · have eo : outB now (-1) = false ↔ ¬ -now < 0 := by
        unfold outB
        rw [if_neg (by decide), if_pos (by decide), decide_eq_false_iff_not]
      rw [eo]
      constructor
      · intro h
        have := h.2.mpr rfl
        rcases hs with rfl | rfl <;> (first | lia | omega)
      · intro h
        exact ⟨⟨fun z => by rcases hs with rfl | rfl <;> (first | lia | omega), fun z => absurd z (by decide)⟩, ⟨fun _ => rfl, fun _ => by rcases hs with rfl | rfl <;> (first | lia | omega)⟩⟩
    · have eo : ¬ outB now 0 = false := by
        unfold outB
        rw [if_pos rfl, Bool.and_eq_false_iff]
        simp
        (first | lia | omega)
      constructor
      · intro h
        have h1 : ¬ 0 < now + s := fun z => absurd (h.1.mp z) (by decide)
        have h2 : ¬ now + s < 0 := fun z => absurd (h.2.mp z) (by decide)
        rcases hs with rfl | rfl <;> (first | lia | omega)
      · intro h
        exact absurd h eo
theorem before_idx {o : List Int} {x y : Int} : before x y o = true ↔ o.idxOf x < o.idxOf y := by
  unfold before
  rw [decide_eq_true_eq]
  (first | lia | omega)
theorem one_more_ok {n : Int} {L : List (List Int)} (hO : Ords n L) {W : List (Int × Int)} (g : Good n W) {o : List Int} (ho : o.Perm (rangeI n)) :
    beatsC n (L ++ [o]) = webC n W ↔ outsM n L W = [] ∧ keepB (boundM n L W) o = true := by
  have nd := ho.nodup_iff.mpr (rangeI_nodup n)
  have sg : ∀ x y, (if before x y o = true then (1 : Int) else -1) = 1 ∨ (if before x y o = true then (1 : Int) else -1) = -1 := fun x y => by split <;> simp
  have hO' : Ords n (L ++ [o]) := ords_append hO fun q hq => by rw [List.mem_singleton.mp hq]; exact ho
  have lead' : ∀ x y, leadM (L ++ [o]) x y = leadM L x y + (if before x y o = true then 1 else -1) := fun x y => by rw [lead_append, lead_one]
  -- by pairs
  have step1 : beatsC n (L ++ [o]) = webC n W ↔ ∀ x ∈ rangeI n, ∀ y ∈ rangeI n, x < y → ((0 < leadM (L ++ [o]) x y ↔ netM W x y = 1) ∧ (leadM (L ++ [o]) x y < 0 ↔ netM W x y = -1)) := by
    constructor
    · intro e x hx y hy hxy
      have f := lead_flip hO' hx hy (by (first | lia | omega))
      have m1 : (x, y) ∈ beatsC n (L ++ [o]) ↔ (x, y) ∈ W := by rw [e]; exact webC_mem g
      have m2 : (y, x) ∈ beatsC n (L ++ [o]) ↔ (y, x) ∈ W := by rw [e]; exact webC_mem g
      rw [beats_mem] at m1 m2
      rcases net_range g x y with ⟨z, w1, w2⟩ | ⟨z, w1, w2⟩ | ⟨z, w1, w2⟩
      · have := (m1.mpr w1).2.2.2
        (first | lia | omega)
      · have := (m2.mpr w2).2.2.2
        (first | lia | omega)
      · have q1 : ¬ 0 < leadM (L ++ [o]) x y := fun q => w1 (m1.mp ⟨hx, hy, by (first | lia | omega), q⟩)
        have q2 : ¬ 0 < leadM (L ++ [o]) y x := fun q => w2 (m2.mp ⟨hy, hx, by (first | lia | omega), q⟩)
        (first | lia | omega)
    · intro h
      refine canon_congr fun i hi j hj hij => ?_
      rw [Bool.eq_iff_iff, decide_eq_true_eq, decide_eq_true_eq]
      rcases Int.lt_or_gt_of_ne hij with z | z
      · have := h i hi j hj z
        rcases net_range g i j with ⟨q, w1, w2⟩ | ⟨q, w1, w2⟩ | ⟨q, w1, w2⟩
        · exact ⟨fun _ => w1, fun _ => by (first | lia | omega)⟩
        · exact ⟨fun c => by (first | lia | omega), fun c => absurd c w1⟩
        · exact ⟨fun c => by (first | lia | omega), fun c => absurd c w1⟩
      · have := h j hj i hi z
        have f := lead_flip hO' hi hj hij
        have fn := net_flip W i j
        rcases net_range g i j with ⟨q, w1, w2⟩ | ⟨q, w1, w2⟩ | ⟨q, w1, w2⟩
        · exact ⟨fun _ => w1, fun _ => by (first | lia | omega)⟩
        · exact ⟨fun c => by (first | lia | omega), fun c => absurd c w1⟩
        · exact ⟨fun c => by (first | lia | omega), fun c => absurd c w1⟩
  rw [step1]
  have hw : ∀ x y, netM W x y = 1 ∨ netM W x y = -1 ∨ netM W x y = 0 := fun x y => by
    rcases net_range g x y with ⟨z, _⟩ | ⟨z, _⟩ | ⟨z, _⟩
    · exact .inl z
    · exact .inr (.inl z)
    · exact .inr (.inr z)
  constructor
  · intro h
    refine ⟨?_, keepB_iff.mpr fun b hb => ?_⟩
    · refine List.eq_nil_iff_forall_not_mem.mpr fun b hb => ?_
      unfold outsM at hb
      rw [canon_mem, Bool.and_eq_true, decide_eq_true_eq] at hb
      have := h b.1 hb.1 b.2 hb.2.1 hb.2.2.2.1
      rw [lead'] at this
      have p := (pair_ok (sg b.1 b.2) (hw b.1 b.2)).mp this
      rw [p.1] at hb
      exact absurd hb.2.2.2.2 Bool.false_ne_true
    · obtain ⟨h1, h2, h3⟩ := bound_mem (x := b.1) (y := b.2).mp hb
      rcases h3 with ⟨z1, z2⟩ | ⟨z1, z2⟩
      · have := h b.1 h1 b.2 h2 z1
        rw [lead'] at this
        have p := ((pair_ok (sg b.1 b.2) (hw b.1 b.2)).mp this).2.1 z2
        by_cases q : before b.1 b.2 o = true
        · exact before_idx.mp q
        · rw [if_neg q] at p; (first | lia | omega)
      · have := h b.2 h2 b.1 h1 z1
        rw [lead'] at this
        have p := ((pair_ok (sg b.2 b.1) (hw b.2 b.1)).mp this).2.2 z2
        by_cases q : before b.2 b.1 o = true
        · rw [if_pos q] at p; (first | lia | omega)
        · have f := before_flip (ho.mem_iff.mpr h1) (ho.mem_iff.mpr h2) (by (first | lia | omega) : b.1 ≠ b.2)
          rw [Bool.eq_false_iff.mpr q] at f
          exact before_idx.mp (by
            cases e : before b.1 b.2 o
            · rw [e] at f; cases f
            · rfl)
  · rintro ⟨h0, hk⟩ x hx y hy hxy
    rw [lead']
    refine (pair_ok (sg x y) (hw x y)).mpr ⟨?_, fun z => ?_, fun z => ?_⟩
    · cases e : outB (leadM L x y) (netM W x y) with
      | false => rfl
      | true =>
        have : (x, y) ∈ outsM n L W := by
          unfold outsM
          rw [canon_mem, Bool.and_eq_true, decide_eq_true_eq]
          exact ⟨hx, hy, (show x ≠ y by (first | lia | omega)), hxy, e⟩
        rw [h0] at this
        cases this
    · have hb := bound_mem (n := n) (L := L) (W := W) (x := x) (y := y).mpr ⟨hx, hy, .inl ⟨hxy, z⟩⟩
      have := keepB_iff.mp hk _ hb
      rw [if_pos (before_idx.mpr this)]
    · have hb := bound_mem (n := n) (L := L) (W := W) (x := y) (y := x).mpr ⟨hy, hx, .inr ⟨hxy, z⟩⟩
      have := keepB_iff.mp hk _ hb
      rw [if_neg (fun q => by have := before_idx.mp q; simp only at *; (first | lia | omega))]
theorem firstUnb_congr {W W' : List (Int × Int)} (h : ∀ b, b ∈ W ↔ b ∈ W') (left : List Int) : firstUnb W left = firstUnb W' left := by
  unfold firstUnb
  congr 1
  funext t
  congr 1
  rw [Bool.eq_iff_iff, decide_eq_true_eq, decide_eq_true_eq, beatenM_mem, beatenM_mem]
  constructor
  · rintro ⟨u, h1, h2⟩; exact ⟨u, h1, (h _).mp h2⟩
  · rintro ⟨u, h1, h2⟩; exact ⟨u, h1, (h _).mpr h2⟩
theorem greedy_congr {n : Int} {W W' : List (Int × Int)} (h : ∀ b, b ∈ W ↔ b ∈ W') : ∀ (k : Nat) (r : List Int), greedy n W k r = greedy n W' k r
  | 0, _ => rfl
  | k + 1, r => by
    unfold greedy
    rw [firstUnb_congr h]
    cases firstUnb W' (cands n r) with
    | none => rfl
    | some t => exact greedy_congr h k _
theorem ordered_congr {n : Int} {W W' : List (Int × Int)} (h : ∀ b, b ∈ W ↔ b ∈ W') : orderedM n W = orderedM n W' := greedy_congr h _ _
theorem ring_congr {W W' : List (Int × Int)} (h : ∀ b, b ∈ W → b ∈ W') {r : List Int} (x : RingOk W r) : RingOk W' r := ⟨x.ne, x.nodup, fun k a b h1 h2 => h _ (x.step k a b h1 h2), fun a b h1 h2 => h _ (x.close a b h1 h2)⟩
def doM (n : Int) (L : List (List Int)) (W : List (Int × Int)) : List (List Int) := (ordersM n n.toNat).filter fun o => decide (beatsC n (L ++ [o]) = webC n W)
theorem do_out {n : Int} {L : List (List Int)} (hO : Ords n L) {W : List (Int × Int)} (g : Good n W) (hp : ∀ o ∈ ordersM n n.toNat, o.Perm (rangeI n)) (h : outsM n L W ≠ []) : doM n L W = [] := by
  refine List.filter_eq_nil_iff.mpr fun o ho z => ?_
  exact h ((one_more_ok hO g (hp o ho)).mp (of_decide_eq_true z)).1
theorem do_in {n : Int} {L : List (List Int)} (hO : Ords n L) {W : List (Int × Int)} (g : Good n W) (hp : ∀ o ∈ ordersM n n.toNat, o.Perm (rangeI n)) (h : outsM n L W = []) : doM n L W = (ordersM n n.toNat).filter (keepB (boundM n L W)) := by
  refine List.filter_congr fun o ho => ?_
  rw [Bool.eq_iff_iff, decide_eq_true_eq, one_more_ok hO g (hp o ho)]
  exact ⟨fun z => z.2, fun z => ⟨h, z⟩⟩
end Bm
namespace Bm
def upP (n : Nat) (i : Int) : List (Int × Int) := ((rangeK n).filter fun j => !decide (i = j) && decide (i < j)).map fun j => (i, j)
def pairsM (n : Int) : List (Int × Int) := (rangeK n.toNat).flatMap (upP n.toNat)
theorem pairs_canon (n : Int) : pairsM n = canonP n.toNat fun i j => decide (i < j) := rfl
theorem pairs_mem {n x y : Int} : (x, y) ∈ pairsM n ↔ x ∈ rangeI n ∧ y ∈ rangeI n ∧ x < y := by
  rw [pairs_canon, canon_mem, decide_eq_true_eq]
  exact ⟨fun h => ⟨h.1, h.2.1, h.2.2.2⟩, fun h => ⟨h.1, h.2.1, by have := h.2.2; show x ≠ y; (first | lia | omega), h.2.2⟩⟩
theorem up_eq (m i : Nat) : upP m ((0 : Int) + (i : Nat)) = (List.range (m - (i + 1))).map fun j => ((0 : Int) + (i : Nat), (0 : Int) + (i : Nat) + 1 + (j : Nat)) := by
  unfold upP
  induction m with
  | zero => rw [Nat.zero_sub]; rfl
  | succ m ih =>
    rw [rangeK_succ, List.filter_append, List.map_append, ih]
    by_cases h : i + 1 ≤ m
    · have e : m + 1 - (i + 1) = (m - (i + 1)) + 1 := by (first | lia | omega)
      rw [e, List.range_succ, List.map_append]
      congr 1
      rw [List.filter_cons_of_pos (by rw [Bool.and_eq_true]; exact ⟨by simp; (first | lia | omega), by simp; (first | lia | omega)⟩)]
      show [((0 : Int) + (i : Nat), (0 : Int) + (m : Nat))] = [((0 : Int) + (i : Nat), (0 : Int) + (i : Nat) + 1 + ((m - (i + 1) : Nat) : Int))]
      have : (0 : Int) + (m : Nat) = (0 : Int) + (i : Nat) + 1 + ((m - (i + 1) : Nat) : Int) := by (first | lia | omega)
      rw [this]
    · have e : m + 1 - (i + 1) = 0 := by (first | lia | omega)
      have e' : m - (i + 1) = 0 := by (first | lia | omega)
      rw [e, e', List.filter_cons_of_neg (by rw [Bool.and_eq_true]; rintro ⟨_, z⟩; have := of_decide_eq_true z; (first | lia | omega))]
      rfl
theorem pairs_nodup (n : Int) : (pairsM n).Nodup := by
  rw [pairs_canon]
  refine (canon_sorted _ _).imp ?_
  intro a b h e
  rw [e] at h
  unfold ltP at h
  (first | lia | omega)
theorem pairs_len {n : Int} (h6 : n ≤ 6) : (pairsM n).length ≤ 36 := by
  rw [pairs_canon]
  have := canon_len n.toNat fun i j => decide (i < j)
  have h36 : n.toNat * n.toNat ≤ 6 * 6 := Nat.mul_le_mul (by (first | lia | omega)) (by (first | lia | omega))
  (first | lia | omega)
theorem canon_filter (n : Nat) (p q : Int → Int → Bool) : canonP n (fun i j => p i j && q i j) = (canonP n p).filter fun b => q b.1 b.2 := by
  unfold canonP
  rw [List.filter_flatMap]
  congr 1
  funext i
  rw [List.filter_map, List.filter_filter]
  congr 1
  refine List.filter_congr fun j _ => ?_
  show (!decide (i = j) && (p i j && q i j)) = (q i j && (!decide (i = j) && p i j))
  cases (!decide (i = j)) <;> cases p i j <;> cases q i j <;> rfl
theorem outs_filter (n : Int) (L : List (List Int)) (W : List (Int × Int)) : outsM n L W = (pairsM n).filter fun b => outB (leadM L b.1 b.2) (netM W b.1 b.2) := canon_filter _ _ _
def sgI (x : Int) : Int := if 0 < x then 1 else if x < 0 then -1 else 0
theorem sg_spec {x w : Int} (hw : w = 1 ∨ w = -1 ∨ w = 0) : sgI x = w ↔ ((0 < x ↔ w = 1) ∧ (x < 0 ↔ w = -1)) := by
  unfold sgI
  by_cases h : 0 < x
  · rw [if_pos h]
    (first | lia | omega)
  · rw [if_neg h]
    by_cases h2 : x < 0
    · rw [if_pos h2]
      (first | lia | omega)
    · rw [if_neg h2]
      (first | lia | omega)
theorem will_do {now w : Int} (hw : w = 1 ∨ w = -1 ∨ w = 0) : (sgI (now + 1) = w ↔ outB now w = false ∧ ¬ bindZ now w < 0) ∧ (sgI (now - 1) = w ↔ outB now w = false ∧ ¬ 0 < bindZ now w) := by
  refine ⟨?_, ?_⟩
  · rw [sg_spec hw, pair_ok (.inl rfl) hw]
    exact ⟨fun h => ⟨h.1, fun z => absurd (h.2.2 z) (by decide)⟩, fun h => ⟨h.1, fun _ => rfl, fun z => absurd z h.2⟩⟩
  · rw [sg_spec hw, show now - 1 = now + (-1) from rfl, pair_ok (.inr rfl) hw]
    exact ⟨fun h => ⟨h.1, fun z => absurd (h.2.1 z) (by decide)⟩, fun h => ⟨h.1, fun z => absurd z h.2, fun _ => rfl⟩⟩
def bindL (L : List (List Int)) (W : List (Int × Int)) (c : Int × Int) : List (Int × Int) := (if 0 < bindZ (leadM L c.1 c.2) (netM W c.1 c.2) then [(c.1, c.2)] else []) ++ (if bindZ (leadM L c.1 c.2) (netM W c.1 c.2) < 0 then [(c.2, c.1)] else [])
def bindsM (L : List (List Int)) (W : List (Int × Int)) (l : List (Int × Int)) : List (Int × Int) := l.flatMap (bindL L W)
theorem bindL_mem {L : List (List Int)} {W : List (Int × Int)} {c d : Int × Int} : d ∈ bindL L W c ↔ (d = c ∧ 0 < bindZ (leadM L c.1 c.2) (netM W c.1 c.2)) ∨ (d = (c.2, c.1) ∧ bindZ (leadM L c.1 c.2) (netM W c.1 c.2) < 0) := by
  unfold bindL
  rw [List.mem_append]
  refine or_congr ?_ ?_
  · split
    · rw [List.mem_singleton]; exact ⟨fun h => ⟨h, by assumption⟩, fun h => h.1⟩
    · exact ⟨fun h => (by cases h), fun h => absurd h.2 (by assumption)⟩
  · split
    · rw [List.mem_singleton]; exact ⟨fun h => ⟨h, by assumption⟩, fun h => h.1⟩
    · exact ⟨fun h => (by cases h), fun h => absurd h.2 (by assumption)⟩
theorem binds_mem {n : Int} {L : List (List Int)} {W : List (Int × Int)} {c : Int × Int} : c ∈ bindsM L W (pairsM n) ↔ c ∈ boundM n L W := by
  obtain ⟨x, y⟩ := c
  unfold bindsM
  rw [List.mem_flatMap, bound_mem]
  constructor
  · rintro ⟨⟨u, v⟩, hp, hb⟩
    obtain ⟨p1, p2, p3⟩ := pairs_mem.mp hp
    rcases bindL_mem.mp hb with ⟨e, z⟩ | ⟨e, z⟩
    · cases e
      exact ⟨p1, p2, .inl ⟨p3, z⟩⟩
    · cases e
      exact ⟨p2, p1, .inr ⟨p3, z⟩⟩
  · rintro ⟨hx, hy, ⟨h, z⟩ | ⟨h, z⟩⟩
    · exact ⟨(x, y), pairs_mem.mpr ⟨hx, hy, h⟩, bindL_mem.mpr (.inl ⟨rfl, z⟩)⟩
    · exact ⟨(y, x), pairs_mem.mpr ⟨hy, hx, h⟩, bindL_mem.mpr (.inr ⟨rfl, z⟩)⟩
theorem bindL_len (L : List (List Int)) (W : List (Int × Int)) (c : Int × Int) : (bindL L W c).length ≤ 1 := by
  unfold bindL
  split <;> split <;> first | (first | lia | omega) | (simp; done) | exact absurd ‹_› (by (first | lia | omega))
theorem binds_len (L : List (List Int)) (W : List (Int × Int)) : ∀ l : List (Int × Int), (bindsM L W l).length ≤ l.length
  | [] => Nat.le_refl _
  | c :: l => by
    have h := binds_len L W l
    have h1 := bindL_len L W c
    unfold bindsM at h ⊢
    rw [List.flatMap_cons, List.length_append, List.length_cons]
    (first | lia | omega)
theorem binds_nodup (L : List (List Int)) (W : List (Int × Int)) : ∀ {l : List (Int × Int)}, l.Nodup → (∀ c ∈ l, c.1 < c.2) → (bindsM L W l).Nodup
  | [], _, _ => List.nodup_nil
  | c :: l, h, k => by
    have hc := List.nodup_cons.mp h
    have ih := binds_nodup L W hc.2 fun d hd => k d (List.mem_cons_of_mem _ hd)
    have kc := k c List.mem_cons_self
    unfold bindsM at ih ⊢
    rw [List.flatMap_cons, List.nodup_append]
    refine ⟨?_, ih, fun a ha b hb e => ?_⟩
    · have := bindL_len L W c
      match hz : bindL L W c, this with
      | [], _ => exact List.nodup_nil
      | [x], _ => exact List.nodup_cons.mpr ⟨fun z => (by cases z), List.nodup_nil⟩
    · subst e
      obtain ⟨d, hd, hb⟩ := List.mem_flatMap.mp hb
      have kd := k d (List.mem_cons_of_mem _ hd)
      have : d = c := by
        obtain ⟨c1, c2⟩ := c
        obtain ⟨d1, d2⟩ := d
        have kc' : c1 < c2 := kc
        have kd' : d1 < d2 := kd
        rcases bindL_mem.mp ha with ⟨e1, _⟩ | ⟨e1, _⟩ <;> rcases bindL_mem.mp hb with ⟨e2, _⟩ | ⟨e2, _⟩
        · rw [← e1, ← e2]
        · rw [e1] at e2; injection e2 with q1 q2; (first | lia | omega)
        · rw [e1] at e2; injection e2 with q1 q2; (first | lia | omega)
        · rw [e1] at e2; injection e2 with q1 q2; exact Prod.ext q2.symm q1.symm
      exact hc.1 (this ▸ hd)
theorem binds_good {n : Int} (h6 : n ≤ 6) (L : List (List Int)) (W : List (Int × Int)) : Good n (bindsM L W (pairsM n)) := by
  have g := bound_good h6 L W
  refine ⟨fun b hb => g.rng b (binds_mem.mp hb), fun b hb => g.irr b (binds_mem.mp hb), binds_nodup L W (pairs_nodup n) (fun c hc => (pairs_mem (x := c.1) (y := c.2).mp hc).2.2), fun b hb hb' => g.asym b (binds_mem.mp hb) (binds_mem.mp hb'), ?_⟩
  have h1 := binds_len L W (pairsM n)
  have h2 := pairs_len h6
  (first | lia | omega)
theorem head_filter {α : Type} {p : α → Bool} : ∀ {l : List α} {i : Nat} {t : α}, l[i]? = some t → p t = true → (∀ x ∈ l.take i, p x = false) → (l.filter p).head? = some t
  | [], _, _, h, _, _ => by simp at h
  | x :: l, 0, t, h, ht, _ => by
    cases h
    rw [List.filter_cons_of_pos ht]
    rfl
  | x :: l, i + 1, t, h, ht, k => by
    rw [List.filter_cons_of_neg (by rw [k x (by rw [List.take_succ_cons]; exact List.mem_cons_self)]; exact Bool.false_ne_true)]
    exact head_filter (by simpa using h) ht fun y hy => k y (by rw [List.take_succ_cons]; exact List.mem_cons_of_mem _ hy)
end Bm
namespace Bm
open PySem L2
open PySem.Spec PyProof.Rows
theorem arr_perm {N : Nat} {p : Array Nat} (a : Srt.Arr N p) : p.toList.Perm (List.range N) := by
  have g : ∀ i (h : i < p.toList.length), p.toList[i] = p.getD i 0 := fun i h => by
    have h' : i < p.size := by simpa using h
    rw [Array.getD_eq_getD_getElem?, getElem?_pos p i h']
    simp
  have hl : p.toList.length = N := by rw [Array.length_toList, a.size]
  refine (perm_of_sub (b := List.range N) ?_ (fun x hx => ?_) ?_).symm
  · rw [List.Nodup, List.pairwise_iff_getElem]
    intro i j hi hj hij
    rw [g i hi, g j hj]
    exact a.inj i j (by (first | lia | omega)) (by (first | lia | omega)) (by (first | lia | omega))
  · obtain ⟨i, hi, rfl⟩ := List.mem_iff_getElem.mp hx
    rw [g i hi]
    exact List.mem_range.mpr (a.low i (by (first | lia | omega)))
  · rw [List.length_range, hl]
    exact Nat.le_refl _
theorem getD_range {α : Type} (W : List α) (d : α) : (List.range W.length).map (fun i => W.getD i d) = W := by
  refine List.ext_getElem? fun i => ?_
  rw [List.getElem?_map]
  by_cases h : i < W.length
  · rw [List.getElem?_range h, List.getElem?_eq_getElem h]
    show some (W.getD i d) = _
    rw [List.getD_eq_getElem?_getD, List.getElem?_eq_getElem h]
    rfl
  · rw [List.getElem?_eq_none (by rw [List.length_range]; (first | lia | omega)), List.getElem?_eq_none (by (first | lia | omega))]
    rfl
theorem paired_pick {α β : Type} {F : α → β → Prop} {as : List α} {bs : List β} (r : Paired F as bs) (d : α) (e : β) : ∀ {l : List Nat}, (∀ i ∈ l, i < as.length) → Paired F (l.map fun i => as.getD i d) (l.map fun i => bs.getD i e)
  | [], _ => .nil
  | i :: l, h => by
    refine .cons ?_ (paired_pick r d e fun j hj => h j (List.mem_cons_of_mem _ hj))
    have hi := h i List.mem_cons_self
    clear h
    induction r generalizing i with
    | nil => simp at hi
    | cons p _ ih =>
      cases i with
      | zero => exact p
      | succ i => exact ih i (by simpa using hi)
section
variable {X : Cx}
theorem pairs_of {pins : List (Addr × Obj)} {σ : L2.St} {H : Hp} {s : Shared} (I : Inv X pins σ H s) : ∀ {W : List (Int × Int)} {ys : List V} {us : List Value}, Paired (dP H) W ys → Vals ys us → Paired (PairV s.heap) W us
  | _, _, _, .nil, .nil => .nil
  | _, _, _, .cons ⟨q, e, hq⟩ r, .cons ru rs => by
    refine .cons ?_ (pairs_of I r rs)
    subst e
    cases ru
    obtain ⟨_, its, rv, o, ho, hc, _, n, hd⟩ := I.hok q _ hq
    obtain ⟨u, v, rfl, ⟨t1, rfl⟩, ⟨t2, rfl⟩⟩ := rv.two
    exact ⟨q, o, t1, t2, n, rfl, ho, hc, hd⟩
theorem call_sortedP : CallR X (.builtin "sorted") (fun xs H Q => ∃ (p : Addr) (ys : List V) (W : List (Int × Int)), xs = [.ref p] ∧ SqL X.K H p ys ∧ Paired (dP H) W ys ∧ W.Nodup ∧ W.length < 64 ∧
    ∀ (l : Addr) (ys' : List V) (W' : List (Int × Int)), H l = none → W'.Perm W → W'.Pairwise (fun b c => lexB b c = true) → Paired (dP H) W' ys' → Q (.ref l) (upd H l (.lst ys'))) := by
  intro pins s σ H xs us Q I r h
  obtain ⟨p, ys, W, rfl, hq, pw, hn, h64, q⟩ := h
  obtain ⟨u, rfl, ru⟩ := vals1 r
  cases ru
  obtain ⟨vs, rv, pl, hz⟩ := I.list hq
  have hp := pairs_of I pw rv
  have hl : W.length = vs.length := Paired.length hp
  have hly : W.length = ys.length := Paired.length pw
  have k2 : ∀ b o, s.heap.get? b = some o → (((s.heap.push (seqObj "list" #[] 0)).update s.heap.objs.size (Obj.mapSeq (· ++ vs.toArray))).push (seqObj "list" vs.toArray 0)).get? b = some o := fun b o e =>
    Heap.get?_push_of_some _ (by rw [Heap.get?_update_ne _ _ _ _ (Nat.ne_of_lt (Heap.lt_size e))]; exact Heap.get?_push_of_some _ e)
  refine Calls.call_function_entry kind_sorted plain_sorted entry_sorted (args_sorted1 _) ?_
  unfold Builtin.«sorted»
  refine wpAny_bind (m := checkCount "sorted" 1 1 _) (wpAny_pure (wpAny_bind (collect_list pl.isList (wpAny_bind (wpAny_newList ?_ (by rw [sizeLine_eq]; (first | lia | omega)))) (by rw [sizeLine_eq]; (first | lia | omega)))))
  have hsz : ((s.heap.push (seqObj "list" #[] 0)).update s.heap.objs.size (Obj.mapSeq (· ++ vs.toArray))).objs.size = s.heap.objs.size + 1 := by
    rw [Heap.size_update, size_push']
  have hoL : (((s.heap.push (seqObj "list" #[] 0)).update s.heap.objs.size (Obj.mapSeq (· ++ vs.toArray))).push (seqObj "list" vs.toArray 0)).get? (s.heap.objs.size + 1) = some (seqObj "list" vs.toArray 0) := by
    rw [← hsz]; exact Heap.get?_push_size _ rfl
  show wpAny _ _ _ _ _ { s with heap := ((s.heap.push (seqObj "list" #[] 0)).update s.heap.objs.size (Obj.mapSeq (· ++ vs.toArray))).push (seqObj "list" vs.toArray 0) }
  rw [hsz]
  refine wpAny_bind (wpAny_holding (wpAny_call_entry slot_list_sort ⟨_, hoL, rfl⟩ entry_list_sort (sort_pairs hoL (Paired.mapP hp fun b v x => PairV.keep (fun b o e _ => k2 b o e) b v x) hn (by (first | lia | omega)) fun a hA hU => ⟨_, rfl, wpAny_pure ⟨_, rfl, ?_⟩⟩) (args_list_sort _)))
  have hin : ∀ i ∈ a.toList, i < W.length := fun i hi => List.mem_range.mp ((arr_perm hA).mem_iff.mp hi)
  obtain ⟨e, he⟩ := sortedAll_at s.heap vs (a.toList.map fun i => vs.getD i .none).toArray
  have pvs : Vals (a.toList.map fun i => ys.getD i .non) (a.toList.map fun i => vs.getD i .none) := paired_pick rv .non .none fun i hi => by rw [← hly]; exact hin i hi
  refine ⟨.ref (s.heap.objs.size + 1), _, I.laid (t' := s.toks) (o := .lst (a.toList.map fun i => ys.getD i .non)) (fun b ob z => sortedAll_old z) (Nat.le_succ _) ?_, rfl,
    q _ _ (a.toList.map fun i => W.getD i (0, 0)) (I.hok.fresh (Nat.le_succ _)) ?_ ?_ (paired_pick pw (0, 0) .non hin)⟩
  · refine ⟨?_, _, e, pvs, he⟩
    rw [List.length_map, Array.length_toList, hA.size, sizeLine_eq]
    (first | lia | omega)
  · have := (arr_perm hA).map fun i => W.getD i (0, 0)
    rw [getD_range] at this
    exact this
  · rw [List.pairwise_iff_getElem]
    intro i j hi hj hij
    rw [List.length_map, Array.length_toList, hA.size] at hi hj
    have g : ∀ i (h : i < a.toList.length), a.toList[i] = a.getD i 0 := fun i h => by
      have h' : i < a.size := by simpa using h
      rw [Array.getD_eq_getD_getElem?, getElem?_pos a i h']
      simp
    rw [List.getElem_map, List.getElem_map, g, g]
    exact hU i j hij hj
end
end Bm
namespace Bm
open PySem L2
def toL (b : Int × Int) : List Int := [b.1, b.2]
theorem pd_toL {H : Hp} : ∀ {l : List (Int × Int)} {ws : List V}, Paired (dT H) (l.map toL) ws → Paired (dP H) l ws
  | [], _, r => by cases r; exact .nil
  | _ :: _, _, r => by
    rw [List.map_cons] at r
    cases r with
    | cons h t => exact .cons h (pd_toL t)
theorem pd_ofL {H : Hp} : ∀ {l : List (Int × Int)} {ws : List V}, Paired (dP H) l ws → Paired (dT H) (l.map toL) ws
  | _, _, .nil => .nil
  | _, _, .cons h t => .cons h (pd_ofL t)
theorem beatsM_eq (L : List (List Int)) (n : Int) : beatsM L n.toNat n.toNat = (beatsC n L).map toL := by
  unfold beatsM beatsC canonP
  rw [List.map_flatMap]
  congr 1
  funext i
  unfold rowM
  rw [List.map_map]
  rfl
def spWebP (K : PySem.W.Frag) : Sp := fun vs H Q _ => ∃ (n : Int) (a : Addr) (L : List (List Int)), vs = [.int n, .ref a] ∧ 1 ≤ n ∧ n ≤ 6 ∧ VAt K H a L ∧ Ords n L ∧ L.length ≤ 1000 ∧
  ∀ H' wb ws, Same H H' → H wb = none → H' wb = some (.lst ws) → Paired (dP H') (beatsC n L) ws → Q (.ref wb) H'
theorem spWebP_of {K : PySem.W.Frag} (vs : List V) (H : Hp) (Q : VK) (E : XK) (h : spWebP K vs H Q E) : spWeb K vs H Q E := by
  obtain ⟨n, a, L, e, h1, h6, hV, hO, hL, k⟩ := h
  refine ⟨n, a, L, e, h1, h6, hV, hO, hL, fun H' wb ws s f hw pw => k H' wb ws s f hw ?_⟩
  rw [beatsM_eq] at pw
  exact pd_toL pw
theorem pw_lex {W : List (Int × Int)} (h : W.Pairwise fun b c => lexB b c = true) : W.Pairwise ltP := h.imp fun {a b} z => lexB_iff.mp z
end Bm
namespace Bm
open PySem L2
def spPairs : Sp := fun vs H Q _ => ∃ n : Int, vs = [.int n] ∧ 0 ≤ n ∧ n ≤ 6 ∧ ∀ H' p xs, Same H H' → H p = none → H' p = some (.lst xs) → Paired (dP H') (pairsM n) xs → Q (.ref p) H'
def spWishG (K : PySem.W.Frag) : Sp := fun vs H Q _ => ∃ (a : Addr) (W : List (Int × Int)) (x y : Int), vs = [.ref a, .int x, .int y] ∧ WAt K H a W ∧ ((x, y) ∈ W → (y, x) ∉ W) ∧ ∀ H', Same H H' → Q (.int (netM W x y)) H'
def spSign : Sp := fun vs H Q _ => ∃ x : Int, vs = [.int x] ∧ Q (.int (sgI x)) H
section
variable {P : Program} {w : World} {K : PySem.W.Frag} {mg : Str → Option Value} {base : Heap}
theorem sc_pairs_of : FnScope ["many", "pairs", "one"] ["many"] (defScope sPairsOf) := ⟨rfl, rfl, rfl, by decide +kernel, rfl, by decide +kernel, by decide +kernel⟩
theorem ok_pairsOf (d : Def K mg "pairs_of" sPairsOf ["many"]) (B : Blt mg) : FnOk P w K mg base CX0 1 d.f d.fd ["many"] spPairs := by
  refine d.F.ok sc_pairs_of (fun vs H Q E h => ?_) (fun cdv A outer s H vs Q E hr h => ?_)
  · obtain ⟨n, rfl, _⟩ := h
    rfl
  · obtain ⟨n, rfl, h0, h6, k⟩ := h
    refine ⟨_, pss_cons (ps_set (i := 1) sc_pairs_of.nd rfl (Or.inl rfl) (pe_lst pa_nil))
      (pss_cons (ps_for PassesOwn.never rfl (pi_range1 (by rfl) B.range (pa_cons (pv 0) pa_nil)) (pg_name (i := 2) sc_pairs_of.nd rfl (Or.inr rfl))
        (pss_one (ps_expr (pe_bm PySem.F.plainAttrs_list PySem.F.slot_list_extend PySem.F.type_list_extend mt_extend (pv 1) (pa_cons (pe_comp (ts := ["other"]) (fs := [(2, "one")]) rfl (by exact .mk' rfl (by rfl) ⟨rfl, rfl, trivial⟩) (pi_range2 (by rfl) B.range (pa_cons (pe_op op_add (pv 2) pe_int) (pa_cons (pv 0) pa_nil)))
          (by intros; exact pg_name (i := 0) (show (["other", "one"] : List Str).Nodup by decide +kernel) rfl (Or.inl rfl))
          (by intros; exact pts_nil)
          (by intros; exact (pe_tup (pa_cons (pv 1) (pa_cons (pv 0) pa_nil))))) pa_nil)))))
      (pss_one (ps_ret (pv 1)))), ?_⟩
    have small : ∀ {z : Nat}, z ≤ 1000 → z ≤ sizeLine := fun h => Nat.le_of_lt (small1000 h)
    refine ⟨Nat.zero_le _, fun pa fpa => ?_⟩
    refine ⟨_, rfl, n, rfl, by (first | lia | omega), by (first | lia | omega), for_range (n := n.toNat) (fun i σ H' => ∃ (v2 : Option V) (xs : List V), σ = [some (.int n), some (.ref pa), v2] ∧ Same H H' ∧ H' pa = some (.lst xs) ∧ Paired (dP H') ((rangeK i).flatMap (upP n.toNat)) xs ∧ xs.length ≤ i * 6)
      ⟨none, [], rfl, same_upd fpa, upd_same, .nil, Nat.le_refl _⟩ ?_ ?_⟩
    · rintro i σ H1 hi ⟨v2, xs, rfl, s1, hpa, px, hlen⟩
      refine ⟨_, rfl, .inl ⟨rfl, _, SqL.of hpa⟩, ?_⟩
      refine ⟨_, rfl, _, _, rfl, rfl, _, rfl, _, n, rfl, ⟨by (first | lia | omega), by (first | lia | omega), by (first | lia | omega), by (first | lia | omega)⟩, fun l fl => comp_range' (lo := (0 : Int) + (i : Nat) + 1) (m0 := (n - ((0 : Int) + (i : Nat) + 1)).toNat) (fun c acc H' => Same H1 H' ∧ H' l = some (.lst acc) ∧ Paired (dP H') ((List.range c).map fun j => ((0 : Int) + (i : Nat), (0 : Int) + (i : Nat) + 1 + (j : Nat))) acc ∧ acc.length = c)
        ⟨same_upd fl, upd_same, .nil, rfl⟩ (fun c acc H' _ ⟨_, z, _⟩ => z) ?_ ?_⟩
      · rintro c acc H2 hc ⟨s2, hl, pa2, hal⟩
        refine ⟨small1000 (by (first | lia | omega)), ⟨rfl, rfl⟩, tYes_mk ?_⟩
        refine ⟨_, rfl, _, rfl, sz2, fun t ft => ?_⟩
        have t3 := same_upd (o := .tup [.int ((0 : Int) + (i : Nat)), .int ((0 : Int) + (i : Nat) + 1 + (c : Nat))]) ft
        have hl3 := t3 _ _ hl
        refine ⟨hl3, Nx.mk hc ⟨same_upd' (s2.trans t3) fl, upd_same, ?_, by rw [List.length_append, List.length_singleton]; (first | lia | omega)⟩⟩
        rw [List.range_succ, List.map_append]
        refine pd_append (pd_same (fun _ _ ⟨c, e, hc⟩ => ⟨c, e, by rw [upd_ne (ne_of (t3 _ _ hc) hl3 (by intro z; cases z))]; exact t3 _ _ hc⟩) pa2) (.cons ⟨t, rfl, ?_⟩ .nil)
        rw [upd_ne (ne_of upd_same hl3 (by intro z; cases z)), upd_same]
        rfl
      · rintro acc H2 ⟨s2, hl, pa2, hal⟩
        have hpa2 := s2 _ _ hpa
        refine ⟨pa, l, xs, acc, rfl, rfl, hpa2, hl, small (by (first | lia | omega)), ?_⟩
        refine ⟨_, xs ++ acc, rfl, same_upd' (s1.trans s2) fpa, upd_same, ?_, by rw [List.length_append]; (first | lia | omega)⟩
        rw [rangeK_succ, List.flatMap_append]
        have e : ([(0 : Int) + (i : Nat)] : List Int).flatMap (upP n.toNat) = (List.range (n - ((0 : Int) + (i : Nat) + 1)).toNat).map fun j => ((0 : Int) + (i : Nat), (0 : Int) + (i : Nat) + 1 + (j : Nat)) := by
          rw [List.flatMap_cons, List.flatMap_nil, List.append_nil, up_eq]
          rw [show n.toNat - (i + 1) = (n - ((0 : Int) + (i : Nat) + 1)).toNat by (first | lia | omega)]
        rw [e]
        refine pd_append (pd_same (fun _ _ ⟨c, e, hc⟩ => ⟨c, e, by rw [upd_ne (ne_of (s2 _ _ hc) hpa2 (by intro z; cases z))]; exact s2 _ _ hc⟩) px) (pd_same (fun _ _ ⟨c, e, hc⟩ => ⟨c, e, by rw [upd_ne (ne_of hc hpa2 (by intro z; cases z))]; exact hc⟩) pa2)
    · rintro σ H1 ⟨v2, xs, rfl, s1, hpa, px, hlen⟩
      exact ⟨_, rfl, k H1 pa xs s1 fpa hpa px⟩
theorem sc_wish_of : FnScope ["web", "one", "other"] ["web", "one", "other"] (defScope sWishOf) := ⟨rfl, rfl, rfl, by decide +kernel, rfl, by decide +kernel, by decide +kernel⟩
theorem ok_wishOf (d : Def K mg "wish_of" sWishOf ["web", "one", "other"]) : FnOk P w K mg base CX0 1 d.f d.fd ["web", "one", "other"] (spWishG K) := by
  refine d.F.ok sc_wish_of (fun vs H Q E h => ?_) (fun cdv A outer s H vs Q E hr h => ?_)
  · obtain ⟨a, W, x, y, rfl, _⟩ := h
    rfl
  · obtain ⟨a, W, x, y, rfl, ⟨ws, hw, pw⟩, has, k⟩ := h
    refine ⟨_, pss_cons (ps_if (pt_cmpR (op_inL eq_dP_ok dP_inj (hu2_of hr)) (pe_tup (pa_cons (pv 1) (pa_cons (pv 2) pa_nil))) (pv 0) (by with_unfolding_all rfl)) (pss_one (ps_ret pe_int)) pss_nil)
      (pss_cons (ps_if (pt_cmpR (op_inL eq_dP_ok dP_inj (hu2_of hr)) (pe_tup (pa_cons (pv 2) (pa_cons (pv 1) pa_nil))) (pv 0) (by with_unfolding_all rfl)) (pss_one (ps_ret (pe_un un_neg pe_int))) pss_nil)
      (pss_one (ps_ret pe_int))), ?_⟩
    refine ⟨_, rfl, _, rfl, sz2, fun t1 ft1 => ?_⟩
    have u1 := same_upd (o := .tup [.int x, .int y]) ft1
    refine ⟨_, rfl, a, ws, (x, y), W, rfl, .inl (u1.seq hw), ⟨t1, rfl, upd_same⟩, pd_same (dP_same u1) pw, _, rfl, ite2 (fun z1 => ?_) (fun z1 => ?_)⟩
    · have m1 : (x, y) ∈ W := of_dec z1
      have z := k _ u1
      have e : netM W x y = 1 := by unfold netM; rw [if_pos m1, if_neg (has m1)]; rfl
      rw [e] at z
      exact z
    have m1 : (x, y) ∉ W := fun z => z1 (by simpa using z)
    refine ⟨_, rfl, _, rfl, sz2, fun t2 ft2 => ?_⟩
    have u2 := u1.trans (same_upd (o := .tup [.int y, .int x]) ft2)
    refine ⟨_, rfl, a, ws, (y, x), W, rfl, .inl (u2.seq hw), ⟨t2, rfl, upd_same⟩, pd_same (dP_same u2) pw, _, rfl, ite2 (fun z2 => ?_) (fun z2 => ?_)⟩
    · have m2 : (y, x) ∈ W := of_dec z2
      have z := k _ u2
      have e : netM W x y = -1 := by unfold netM; rw [if_neg m1, if_pos m2]; rfl
      rw [e] at z
      exact ⟨1, rfl, z⟩
    · have m2 : (y, x) ∉ W := fun z => z2 (by simpa using z)
      have z := k _ u2
      have e : netM W x y = 0 := by unfold netM; rw [if_neg m1, if_neg m2]; rfl
      rw [e] at z
      exact z
theorem sc_sign_of : FnScope ["number"] ["number"] (defScope sSignOf) := ⟨rfl, rfl, rfl, by decide +kernel, rfl, by decide +kernel, by decide +kernel⟩
theorem ok_signOf (d : Def K mg "sign_of" sSignOf ["number"]) : FnOk P w K mg base CX0 1 d.f d.fd ["number"] spSign := by
  refine d.F.ok sc_sign_of (fun vs H Q E h => ?_) (fun cdv A outer s H vs Q E hr h => ?_)
  · obtain ⟨x, rfl, _⟩ := h
    rfl
  · obtain ⟨x, rfl, k⟩ := h
    refine ⟨_, pss_cons (ps_if (pt_cmpR op_gt (pv 0) pe_int (nomark _)) (pss_one (ps_ret pe_int)) pss_nil)
      (pss_cons (ps_if (pt_cmpR op_lt (pv 0) pe_int (nomark _)) (pss_one (ps_ret (pe_un un_neg pe_int))) pss_nil)
      (pss_one (ps_ret pe_int))), ?_⟩
    unfold sgI at k
    refine ⟨_, rfl, _, _, rfl, rfl, _, rfl, ite2 (fun z1 => ?_) (fun z1 => ?_)⟩
    · rw [if_pos (of_dec z1)] at k
      exact k
    rw [if_neg (fun z => z1 (decide_eq_true z))] at k
    refine ⟨_, rfl, _, _, rfl, rfl, _, rfl, ite2 (fun z2 => ?_) (fun z2 => ?_)⟩
    · rw [if_pos (of_dec z2)] at k
      exact ⟨1, rfl, k⟩
    · rw [if_neg (fun z => z2 (decide_eq_true z))] at k
      exact k
end
end Bm
namespace Bm
open PySem L2
section
variable {P : Program} {w : World} {K : PySem.W.Frag} {mg : Str → Option Value} {base : Heap}
theorem scWhole : FnScope ["found"] ["found"] (defScope sWhole) := ⟨rfl, rfl, rfl, by decide +kernel, rfl, by decide +kernel, by decide +kernel⟩
theorem ok_whole (d : Def K mg "_law_whole" sWhole ["found"]) (B : Blt mg) : FnOk P w K mg base CX0 1 d.f d.fd ["found"] spWhole := by
  refine d.F.ok scWhole (fun vs H Q E h => ?_) (fun cdv A outer s H vs Q E hr h => ?_)
  · obtain ⟨i, rfl, _⟩ := h
    rfl
  · obtain ⟨i, rfl, q⟩ := h
    refine ⟨_, pss_one (ps_ret (pe_and (pe_callB call_isi (by rfl) B.isi PyProof.Rows.boot_isinstance (pa_cons (pv 0) (pa_cons (pe_bltn (v := .ty "int") (by rfl) B.int PyProof.Rows.boot_int rfl) pa_nil)))
      (pe_one (pe_not (pe_callB call_isi (by rfl) B.isi PyProof.Rows.boot_isinstance (pa_cons (pv 0) (pa_cons (pe_bltn (v := .ty "bool") (by rfl) B.bool PyProof.Rows.boot_bool rfl) pa_nil))))))), ?_⟩
    refine ⟨_, rfl, .int i, "int", true, rfl, .int_int i, true, rfl, ?_⟩
    rw [if_pos rfl]
    exact ⟨_, rfl, .int i, "bool", false, rfl, .int_bool i, false, rfl, q⟩
end
end Bm
namespace Bm
open PySem L2
section
variable {P : Program} {w : World} {K : PySem.W.Frag} {mg : Str → Option Value} {base : Heap}
theorem scCell : FnScope ["script", "k"] ["script", "k"] (defScope sCellAt) := ⟨rfl, rfl, rfl, by decide +kernel, rfl, by decide +kernel, by decide +kernel⟩
theorem ok_cell (d : Def K mg "_law_cell_at" sCellAt ["script", "k"]) (B : Blt mg) : FnOk P w K mg base CX0 1 d.f d.fd ["script", "k"] (spCell K) := by
  refine d.F.ok scCell (fun vs H Q E h => ?_) (fun cdv A outer s H vs Q E hr h => ?_)
  · obtain ⟨a, ns, k, rfl, _⟩ := h
    rfl
  · obtain ⟨a, ns, k, rfl, hS, hk, q⟩ := h
    refine ⟨_, pss_cons (ps_if (pt_cmpR op_lt (pv 1) (pe_callB call_len_seq (by rfl) B.len PySem.boot_len (pa_cons (pv 0) pa_nil)) (nomark _)) (pss_one (ps_ret (pe_ix ix_list (pv 0) (pv 1) (fun _ _ => rfl)))) pss_nil)
      (pss_one (ps_ret pe_int)), ?_⟩
    refine ⟨_, rfl, _, rfl, a, _, rfl, .inl hS, _, _, rfl, rfl, _, rfl, ?_⟩
    refine ite2 (fun hb => ?_) (fun hb => ?_)
    · have hb' : k < ((ns.map V.int).length : Int) := of_decide_eq_true hb
      rw [List.length_map] at hb'
      have hlt : k.toNat < ns.length := by (first | lia | omega)
      refine ⟨_, rfl, _, rfl, a, _, k, .int (ns.getD k.toNat 0), rfl, rfl, hS, ?_, q⟩
      have e : (ns.map V.int)[k.toNat]? = some (.int (ns.getD k.toNat 0)) := by
        rw [List.getElem?_map, List.getElem?_eq_getElem hlt, List.getD_eq_getElem?_getD, List.getElem?_eq_getElem hlt]
        rfl
      have z := atI_nat e
      rw [show ((k.toNat : Nat) : Int) = k by (first | lia | omega)] at z
      exact z
    · have hb' : ¬ k < ((ns.map V.int).length : Int) := fun z => hb (decide_eq_true z)
      rw [List.length_map] at hb'
      have e : ns.getD k.toNat 0 = 0 := by rw [List.getD_eq_getElem?_getD, List.getElem?_eq_none (by (first | lia | omega))]; rfl
      rw [e] at q
      exact q
end
end Bm
namespace Bm
open PySem L2
section
variable {P : Program} {w : World} {K : PySem.W.Frag} {mg : Str → Option Value} {base : Heap}
theorem scCount : FnScope ["many"] ["many"] (defScope sCheckCount) := ⟨rfl, rfl, rfl, by decide +kernel, rfl, by decide +kernel, by decide +kernel⟩
theorem ok_count (d : Def K mg "check_count" sCheckCount ["many"]) (Gl : Glob mg) : FnOk P w K mg base CX0 1 d.f d.fd ["many"] spCount := by
  refine d.F.ok scCount (fun vs H Q E h => ?_) (fun cdv A outer s H vs Q E hr h => ?_)
  · obtain ⟨n, rfl, _⟩ := h
    rfl
  · obtain ⟨n, rfl, h1, h6, k⟩ := h
    obtain ⟨t, hm⟩ := Gl.most
    refine ⟨_, pss_one (ps_if (pw_or (pt_cmpR op_lt (pv 0) pe_int (nomark _)) (pw_or1 (pt_cmpR op_gt (pv 0) (pe_glob (v := .int 6) (by rfl) hm ⟨t, rfl⟩) (nomark _)))).pt pss_never pss_nil), ?_⟩
    refine ⟨_, rfl, _, _, rfl, rfl, _, rfl, ?_⟩
    rw [decide_eq_false (by (first | lia | omega))]
    refine iteF ?_
    refine ⟨_, rfl, _, _, rfl, rfl, _, rfl, ?_⟩
    rw [decide_eq_false (by (first | lia | omega))]
    exact iteF k
end
end Bm
namespace Bm
open PySem L2
section
variable {P : Program} {w : World} {K : PySem.W.Frag} {mg : Str → Option Value} {base : Heap}
theorem scOrder : FnScope ["cell", "many", "left", "order", "k"] ["cell", "many"] (defScope sOrder) := ⟨rfl, rfl, rfl, by decide +kernel, rfl, by decide +kernel, by decide +kernel⟩
theorem ok_order (d : Def K mg "_law_order" sOrder ["cell", "many"]) (B : Blt mg) : FnOk P w K mg base CX0 1 d.f d.fd ["cell", "many"] spOrder := by
  refine d.F.ok scOrder (fun vs H Q E h => ?_) (fun cdv A outer s H vs Q E hr h => ?_)
  · obtain ⟨c, n, rfl, _⟩ := h
    rfl
  · obtain ⟨c, n, rfl, h1, h6, k⟩ := h
    refine ⟨_, pss_cons (ps_set (i := 2) scOrder.nd rfl (Or.inl rfl) (pe_callTy (call_list_rng rfl) (by rfl) B.list PyProof.Rows.boot_list (pa_cons (pe_callTy call_range (by rfl) B.range PyProof.Rows.boot_range (pa_cons (pv 1) pa_nil)) pa_nil)))
      (pss_cons (ps_set (i := 3) scOrder.nd rfl (Or.inl rfl) (pe_lst pa_nil))
      (pss_cons (ps_for PassesOwn.never rfl (pi_range1 (by rfl) B.range (pa_cons (pv 1) pa_nil)) (pg_name (i := 4) scOrder.nd rfl (Or.inl rfl))
        (pss_cons (ps_expr (pe_bm PySem.F.plainAttrs_list PySem.F.slot_list_append PySem.F.type_list_append mt_append (pv 3) (pa_cons
            (pe_bm PySem.F.plainAttrs_list PySem.F.slot_list_pop PySem.F.type_list_pop mt_popAt (pv 2) (pa_cons (pe_op op_mod (pv 0) (pe_callB call_len_seq (by rfl) B.len PySem.boot_len (pa_cons (pv 2) pa_nil))) pa_nil)) pa_nil)))
        (pss_one (ps_set (i := 0) scOrder.nd rfl (Or.inl rfl) (pe_op op_fdiv (pv 0) (pe_op op_add (pe_callB call_len_seq (by rfl) B.len PySem.boot_len (pa_cons (pv 2) pa_nil)) pe_int))))))
      (pss_one (ps_ret (pe_callTy call_tuple_of (by rfl) B.tuple PyProof.Rows.boot_tuple (pa_cons (pv 3) pa_nil)))))), ?_⟩
    refine ⟨_, rfl, n, rfl, fun p hp => ⟨p, 0, n, rfl, upd_same, ⟨by (first | lia | omega), by (first | lia | omega), by (first | lia | omega), by (first | lia | omega)⟩, by (first | lia | omega), fun lf hlf => ?_⟩⟩
    rw [things_eq]
    have s1 : Same H (upd (upd H p (.rng 0 n)) lf (.lst ((rangeI n).map V.int))) := (same_upd hp).trans (same_upd hlf)
    have flf : H lf = none := (same_upd hp).free hlf
    refine ⟨Nat.zero_le _, fun od hod => ?_⟩
    have fod : H od = none := s1.free hod
    have hne : lf ≠ od := ne_of_none upd_same hod
    refine ⟨_, rfl, n, rfl, by (first | lia | omega), by (first | lia | omega), for_range (n := n.toNat) (fun i σ H' => ∃ (c : Int) (v : Option V) (o l : List Int), σ = [some (.int c), some (.int n), some (.ref lf), some (.ref od), v] ∧ Same H H' ∧
        H' lf = some (.lst (l.map V.int)) ∧ H' od = some (.lst (o.map V.int)) ∧ (o ++ l).Perm (rangeI n) ∧ l.length + i = n.toNat ∧ o.length = i)
      ⟨c, none, [], rangeI n, rfl, s1.trans (same_upd hod), by rw [upd_ne hne]; exact upd_same, upd_same, .refl _, by rw [show (rangeI n).length = n.toNat from rangeK_len _]; (first | lia | omega), rfl⟩ ?_ ?_⟩
    · rintro i σ H' hi ⟨c, v, o, l, rfl, s2, hl, ho, hperm, hlen, hol⟩
      have hl0 : 0 < l.length := by (first | lia | omega)
      have hm0 : ((l.map V.int).length : Int) = (l.length : Int) := by rw [List.length_map]
      have j0 : 0 ≤ c % (l.length : Int) := Int.emod_nonneg _ (by (first | lia | omega))
      have j1 : c % (l.length : Int) < (l.length : Int) := Int.emod_lt_of_pos _ (by (first | lia | omega))
      have hj : (c % (l.length : Int)).toNat < l.length := by (first | lia | omega)
      refine ⟨_, rfl, .inl ⟨rfl, _, SqL.of ho⟩, _, rfl, .inl ⟨rfl, _, SqL.of hl⟩, _, rfl, _, rfl, lf, _, rfl, .inl (SqL.of hl), _, _, rfl, rfl, by rw [hm0]; (first | lia | omega), ?_⟩
      rw [hm0]
      refine ⟨lf, l.map V.int, c % (l.length : Int), (c % (l.length : Int)).toNat, .int (l[(c % (l.length : Int)).toNat]), rfl, rfl, hl, by (first | lia | omega), by (first | lia | omega), by rw [List.length_map]; exact seqIndex_of j0 j1, by rw [List.getElem?_map, List.getElem?_eq_getElem hj]; rfl, ?_⟩
      have ho2 : (upd H' lf (.lst ((l.map V.int).eraseIdx (c % (l.length : Int)).toNat))) od = some (.lst (o.map V.int)) := by rw [upd_ne hne.symm]; exact ho
      refine ⟨od, o.map V.int, _, rfl, rfl, ho2, by rw [List.length_map]; exact small1000 (by (first | lia | omega)), ?_⟩
      have hl2 : (upd (upd H' lf (.lst ((l.map V.int).eraseIdx (c % (l.length : Int)).toNat))) od (.lst (o.map V.int ++ [V.int (l[(c % (l.length : Int)).toNat])]))) lf = some (.lst ((l.eraseIdx (c % (l.length : Int)).toNat).map V.int)) := by
        rw [upd_ne hne, upd_same, erase_map]
      refine ⟨_, rfl, _, rfl, lf, _, rfl, .inl (SqL.of hl2), _, _, rfl, rfl, _, _, rfl, rfl, ⟨by (first | lia | omega), by rw [List.length_map]; have := len_erase l (c % (l.length : Int)).toNat; (first | lia | omega)⟩, ?_⟩
      refine ⟨_, _, o ++ [l[(c % (l.length : Int)).toNat]], l.eraseIdx (c % (l.length : Int)).toNat, rfl, same_upd' (same_upd' s2 flf) fod, hl2, by rw [upd_same, List.map_append]; rfl, ?_, by rw [List.length_eraseIdx_of_lt hj]; (first | lia | omega), by rw [List.length_append, List.length_singleton]; (first | lia | omega)⟩
      rw [List.append_assoc]
      exact ((erase_perm hj).append_left o).trans hperm
    · rintro σ H' ⟨c, v, o, l, rfl, s2, hl, ho, hperm, hlen, hol⟩
      have hnil : l = [] := List.eq_nil_of_length_eq_zero (by (first | lia | omega))
      subst hnil
      rw [List.append_nil] at hperm
      refine ⟨_, rfl, od, o.map V.int, rfl, .inl ⟨SqL.of ho, fun t ht => ?_⟩⟩
      exact k _ t o (same_upd' s2 (s2.free ht)) (s2.free ht) upd_same hperm
end
end Bm
namespace Bm
open PySem L2
section
variable {P : Program} {w : World} {K : PySem.W.Frag} {mg : Str → Option Value} {base : Heap}
theorem scVoters : FnScope ["many", "voters", "things", "voter"] ["many", "voters"] (defScope sCheckVoters) := ⟨rfl, rfl, rfl, by decide +kernel, rfl, by decide +kernel, by decide +kernel⟩
theorem ok_checkVoters (d : Def K mg "check_voters" sCheckVoters ["many", "voters"]) (B : Blt mg) (dC : Def K mg "check_count" sCheckCount ["many"]) (GC : FnOk P w K mg base CX0 1 dC.f dC.fd ["many"] spCount) :
    FnOk P w K mg base CX0 2 d.f d.fd ["many", "voters"] (spVoters K) := by
  refine d.F.ok scVoters (fun vs H Q E h => ?_) (fun cdv A outer s H vs Q E hr h => ?_)
  · obtain ⟨n, a, L, rfl, _⟩ := h
    rfl
  · obtain ⟨n, a, L, rfl, h1, h6, ⟨xs, hx, px⟩, hO, k⟩ := h
    refine ⟨_, pss_cons (ps_expr (pe_call GC hr (by rfl) dC.mgf dC.F.kp dC.b .nil pass0 (pa_cons (pv 0) pa_nil)))
      (pss_cons (ps_set (i := 2) scVoters.nd rfl (Or.inl rfl) (pe_callTy (call_list_rng rfl) (by rfl) B.list PyProof.Rows.boot_list (pa_cons (pe_callTy call_range (by rfl) B.range PyProof.Rows.boot_range (pa_cons (pv 0) pa_nil)) pa_nil)))
      (pss_one (ps_for PassesOwn.never rfl (pi_list (pv 1)) (pg_name (i := 3) scVoters.nd rfl (Or.inl rfl))
        (pss_one (ps_if (pt_cmpR (op_neL eq_int_ok (hu_of hr)) (pe_callB call_sorted (by rfl) B.sorted PyProof.Rows.boot_sorted (pa_cons (pv 3) pa_nil)) (pv 2) (nomark _)) pss_never pss_nil))))), ?_⟩
    refine ⟨_, rfl, n, rfl, h1, h6, ?_⟩
    refine ⟨_, rfl, n, rfl, fun p hp => ⟨p, 0, n, rfl, upd_same, ⟨by (first | lia | omega), by (first | lia | omega), by (first | lia | omega), by (first | lia | omega)⟩, by (first | lia | omega), fun l hl => ?_⟩⟩
    rw [things_eq]
    have s1 : Same H (upd (upd H p (.rng 0 n)) l (.lst ((rangeI n).map V.int))) := (same_upd hp).trans (same_upd hl)
    refine ⟨_, rfl, a, rfl, ⟨_, s1.seq hx⟩, for_list (K := K) (a := a) (xs := xs) (fun i σ H' => ∃ v, σ = [some (.int n), some (.ref a), some (.ref l), v] ∧ Same (upd (upd H p (.rng 0 n)) l (.lst ((rangeI n).map V.int))) H')
      ⟨none, rfl, Same.refl _⟩ (fun i σ H' _ ⟨_, _, s2⟩ => (s1.trans s2).seq hx) ?_ ?_⟩
    · rintro i x σ H' hi ⟨v, rfl, s2⟩
      obtain ⟨o, ho, q, rfl, hq⟩ := paired_get px hi
      have hperm := hO o (List.mem_of_getElem? ho)
      have hlen : o.length = n.toNat := by rw [hperm.length_eq]; exact rangeK_len _
      refine ⟨_, rfl, q, o, rfl, .inr (SqT.of (s2 _ _ (s1 _ _ hq))), by (first | lia | omega), fun l' ns' hl' hp' hs' => ⟨_, rfl, ?_⟩⟩
      have s3 := s2.trans (same_upd (o := .lst (ns'.map V.int)) hl')
      refine ⟨l', l, _, _, ns', rangeI n, rfl, rfl, SqL.of upd_same, SqL.of (s3 _ _ upd_same), paired_ints _, paired_ints _, _, rfl, ?_⟩
      refine iteNS (PySem.W.ksm_same (hp'.trans hperm) hs' (rangeK_sorted _)) ?_
      exact ⟨_, rfl, s3⟩
    · rintro σ H' ⟨v, rfl, s2⟩
      exact k H' (s1.trans s2)
end
end Bm
namespace Bm
open PySem L2
section
variable {P : Program} {w : World} {K : PySem.W.Frag} {mg : Str → Option Value} {base : Heap}
def ent (b : Int × Int) : List Key × V := ([Sum.inl b.1, Sum.inl b.2], .bl true)
theorem ent_none {L : List (Int × Int)} {x y : Int} (h : (x, y) ∉ L) : valV (L.map ent) [Sum.inl x, Sum.inl y] = none := by
  induction L with
  | nil => rfl
  | cons b L ih =>
    rw [List.map_cons, valV_neg, ih (fun z => h (List.mem_cons_of_mem _ z))]
    intro e
    have e' : ([Sum.inl b.1, Sum.inl b.2] : List Key) = [Sum.inl x, Sum.inl y] := e
    injection e' with e1 e2
    injection e2 with e2 _
    injection e1 with e1
    injection e2 with e2
    exact h (by rw [← e1, ← e2]; exact List.mem_cons_self)
theorem scCheckWeb : FnScope ["many", "web", "seen", "one", "other"] ["many", "web"] (defScope sCheckWeb) := ⟨rfl, rfl, rfl, by decide +kernel, rfl, by decide +kernel, by decide +kernel⟩
theorem ok_checkWeb (d : Def K mg "check_web" sCheckWeb ["many", "web"]) (dC : Def K mg "check_count" sCheckCount ["many"]) (GC : FnOk P w K mg base CX0 1 dC.f dC.fd ["many"] spCount) :
    FnOk P w K mg base CX0 2 d.f d.fd ["many", "web"] (spCheckWeb K) := by
  refine d.F.ok scCheckWeb (fun vs H Q E h => ?_) (fun cdv A outer s H vs Q E hr h => ?_)
  · obtain ⟨n, a, W, rfl, _⟩ := h
    rfl
  · obtain ⟨n, a, W, rfl, h1, h6, ⟨xs, hx, px⟩, g, k⟩ := h
    refine ⟨_, pss_cons (ps_expr (pe_call GC hr (by rfl) dC.mgf dC.F.kp dC.b .nil pass0 (pa_cons (pv 0) pa_nil)))
      (pss_cons (ps_set (i := 2) scCheckWeb.nd rfl (Or.inl rfl) pe_dnewT)
      (pss_one (ps_for PassesOwn.never rfl (pi_list (pv 1)) (pg_tup rfl (pgs_cons (pg_name (i := 3) scCheckWeb.nd rfl (Or.inl rfl)) (pgs_cons (pg_name (i := 4) scCheckWeb.nd rfl (Or.inl rfl)) pgs_nil)))
        (pss_cons (ps_if (pt_not (pw_and (pt_chain op_le op_lt pe_int (pv 3) (pv 0)) (pw_and1 (pt_chain op_le op_lt pe_int (pv 4) (pv 0)))).pt) pss_never pss_nil)
        (pss_cons (ps_if (pt_cmpR op_eq (pv 3) (pv 4) (nomark _)) pss_never pss_nil)
        (pss_cons (ps_if (pt_cmp (pc_din (hu_of hr) (pe_tup (pa_cons (pv 3) (pa_cons (pv 4) pa_nil))) (pv 2))) pss_never pss_nil)
        (pss_cons (ps_if (pt_cmp (pc_din (hu_of hr) (pe_tup (pa_cons (pv 4) (pa_cons (pv 3) pa_nil))) (pv 2))) pss_never pss_nil)
        (pss_one (ps_dput (hu_of hr) (pv 2) (pe_tup (pa_cons (pv 3) (pa_cons (pv 4) pa_nil))) pe_bl rfl))))))))), ?_⟩
    refine ⟨_, rfl, n, rfl, h1, h6, fun sd hsd => ?_⟩
    have hlx := Paired.length px
    refine ⟨_, rfl, a, rfl, ⟨_, (same_upd hsd).seq hx⟩, for_list (K := K) (a := a) (xs := xs) (fun i σ H' => ∃ v3 v4, σ = [some (.int n), some (.ref a), some (.ref sd), v3, v4] ∧ Same H H' ∧ H' sd = some (.dT ((W.take i).map ent)))
      ⟨none, none, rfl, same_upd hsd, upd_same⟩ (fun i σ H' _ ⟨_, _, _, s2, _⟩ => s2.seq hx) ?_ ?_⟩
    · rintro i x σ H1 hi ⟨v3, v4, rfl, s1, h1d⟩
      obtain ⟨b, hb, q, rfl, hq⟩ := paired_get px hi
      have hq1 := s1 _ _ hq
      have bW : b ∈ W := List.mem_of_getElem? hb
      obtain ⟨⟨r1, r2⟩, r3, r4⟩ := g.rng b bW
      have hil : i < W.length := (List.getElem?_eq_some_iff.mp hb).1
      have hWl : (W.take i).length ≤ 100 := by rw [List.length_take]; have := g.len; (first | lia | omega)
      have n1 : (b.1, b.2) ∉ W.take i := fun z => by
        obtain ⟨j, hj⟩ := List.getElem?_of_mem z
        have hjl := (List.getElem?_eq_some_iff.mp hj).1
        rw [List.length_take] at hjl
        rw [List.getElem?_take_of_lt (by (first | lia | omega))] at hj
        have := (List.getElem?_inj (by (first | lia | omega) : j < W.length) g.nodup).mp (hj.trans hb.symm)
        (first | lia | omega)
      have n2 : (b.2, b.1) ∉ W.take i := fun z => g.asym b bW (List.mem_of_mem_take z)
      refine ⟨q, _, rfl, SqT.of hq1, rfl, _, _, rfl, _, _, rfl, rfl, ?_⟩
      refine ⟨_, rfl, _, _, rfl, rfl, _, rfl, iteP r1 ⟨_, rfl, _, _, rfl, rfl, _, rfl, iteP r2 ⟨_, rfl, _, _, rfl, rfl, _, rfl, iteP r3 ⟨_, rfl, _, _, rfl, rfl, _, rfl, iteNS r4 ?_⟩⟩⟩⟩
      refine ⟨_, rfl, _, rfl, rfl, _, rfl, iteN (fun e => g.irr b bW (by injection e)) ?_⟩
      refine ⟨_, rfl, _, rfl, (by show 2 ≤ sizeLine; rw [sizeLine_eq]; decide), fun t1 ht1 => ?_⟩
      have s2 := s1.trans (same_upd (o := .tup [.int b.1, .int b.2]) ht1)
      have d2 := (same_upd (o := .tup [.int b.1, .int b.2]) ht1) _ _ h1d
      have z1 : DGet (upd H1 t1 (.tup [.int b.1, .int b.2])) sd (.ref t1) none := by
        have z := DGet.t (k := [Sum.inl b.1, Sum.inl b.2]) (b := t1) d2 upd_same
        rw [ent_none n1] at z
        exact z
      refine ⟨_, rfl, sd, none, rfl, z1, _, rfl, iteF ?_⟩
      refine ⟨_, rfl, _, rfl, (by show 2 ≤ sizeLine; rw [sizeLine_eq]; decide), fun t2 ht2 => ?_⟩
      generalize upd H1 t1 (.tup [.int b.1, .int b.2]) = H2 at s2 d2 ht2 ⊢
      have s3 := s2.trans (same_upd (o := .tup [.int b.2, .int b.1]) ht2)
      have d3 := (same_upd (o := .tup [.int b.2, .int b.1]) ht2) _ _ d2
      have z2 : DGet (upd H2 t2 (.tup [.int b.2, .int b.1])) sd (.ref t2) none := by
        have z := DGet.t (k := [Sum.inl b.2, Sum.inl b.1]) (b := t2) d3 upd_same
        rw [ent_none n2] at z
        exact z
      refine ⟨_, rfl, sd, none, rfl, z2, _, rfl, iteF ?_⟩
      generalize upd H2 t2 (.tup [.int b.2, .int b.1]) = H3 at s3 d3 ⊢
      refine ⟨_, rfl, _, rfl, _, rfl, (by show 2 ≤ sizeLine; rw [sizeLine_eq]; decide), fun t3 ht3 => ?_⟩
      have s4 := s3.trans (same_upd (o := .tup [.int b.1, .int b.2]) ht3)
      have d4 := (same_upd (o := .tup [.int b.1, .int b.2]) ht3) _ _ d3
      refine ⟨sd, _, rfl, DPut.t (k := [Sum.inl b.1, Sum.inl b.2]) d4 upd_same (by rw [List.length_map]; exact small1000 (by (first | lia | omega))), ?_⟩
      rw [putK_new _ (ent_none n1)]
      refine ⟨_, _, rfl, same_upd' s4 hsd, ?_⟩
      rw [upd_same, List.take_add_one, hb, List.map_append]
      rfl
    · rintro σ H1 ⟨v3, v4, rfl, s1, _⟩
      exact k H1 s1
end
end Bm
namespace Bm
open PySem L2
section
variable {P : Program} {w : World} {K : PySem.W.Frag} {mg : Str → Option Value} {base : Heap}
theorem scAmong : FnScope ["voters", "one", "other", "ahead", "behind"] ["voters", "one", "other"] (defScope sLeadAmong) := ⟨rfl, rfl, rfl, by decide +kernel, rfl, by decide +kernel, by decide +kernel⟩
theorem ok_among (d : Def K mg "lead_among" sLeadAmong ["voters", "one", "other"]) (B : Blt mg) : FnOk P w K mg base CX0 1 d.f d.fd ["voters", "one", "other"] (spAmong K) := by
  refine d.F.ok scAmong (fun vs H Q E h => ?_) (fun cdv A outer s H vs Q E hr h => ?_)
  · obtain ⟨a, L, one, other, rfl, _⟩ := h
    rfl
  · obtain ⟨a, L, one, other, rfl, ⟨xs, hx, px⟩, hmem, hL, k⟩ := h
    refine ⟨_, pss_cons (ps_setC (i := 3) (ts := ["voter"]) (fs := [(1, "one"), (2, "other")]) scAmong.nd rfl (Or.inl rfl) rfl (by exact .mk' rfl (by rfl) ⟨rfl, rfl, rfl, rfl, trivial⟩) (pi_list (pv 0))
        (by intros; exact pg_name (i := 0) (show (["voter", "one", "other"] : List Str).Nodup by decide +kernel) rfl (Or.inl rfl))
        (by intros; exact pts_one (pt_cmpR op_lt (pe_bmU PySem.F.plainAttrs_tuple PySem.F.slot_tuple_index PySem.F.type_tuple_index mt_tindex (pv 0) (pa_cons (pv 1) pa_nil)) (pe_bmU PySem.F.plainAttrs_tuple PySem.F.slot_tuple_index PySem.F.type_tuple_index mt_tindex (pv 0) (pa_cons (pv 2) pa_nil)) (nomark _)))
        (by intros; exact pv 0))
      (pss_cons (ps_set (i := 4) scAmong.nd rfl (Or.inl rfl) (pe_op op_sub (pe_callB call_len_seq (by rfl) B.len PySem.boot_len (pa_cons (pv 0) pa_nil)) (pe_callB call_len_seq (by rfl) B.len PySem.boot_len (pa_cons (pv 3) pa_nil))))
      (pss_one (ps_ret (pe_op op_sub (pe_callB call_len_seq (by rfl) B.len PySem.boot_len (pa_cons (pv 3) pa_nil)) (pv 4))))), ?_⟩
    have hlx := Paired.length px
    refine ⟨_, rfl, a, rfl, ⟨xs, hx⟩, fun l hl => comp_list' (xs := xs) (fun i acc H' => Same H H' ∧ H' l = some (.lst acc) ∧ Paired (dT H) ((L.take i).filter (before one other)) acc ∧ acc.length ≤ i)
      ⟨same_upd hl, upd_same, .nil, Nat.le_refl _⟩ (fun i acc H' _ ⟨s1, h1, _⟩ => ⟨s1.seq hx, h1⟩) ?_ ?_⟩
    · rintro i x acc H' hi hlt ⟨s1, h1, hp, hal⟩
      obtain ⟨o, ho, q, rfl, hq⟩ := paired_get px hi
      obtain ⟨m1, m2⟩ := hmem o (List.mem_of_getElem? ho)
      refine ⟨small1000 (by (first | lia | omega)), ⟨rfl, rfl⟩, _, rfl, .inr ⟨rfl, q, _, rfl, s1 _ _ hq⟩, _, rfl, q, o, one, rfl, rfl, SqT.of (s1 _ _ hq), m1, _, rfl, .inr ⟨rfl, q, _, rfl, s1 _ _ hq⟩, _, rfl, q, o, other, rfl, rfl, SqT.of (s1 _ _ hq), m2, _, _, rfl, rfl, _, rfl, ?_⟩
      have key := take_filter_succ (before one other) ho
      refine ite2 (fun hb => ?_) (fun hb => ?_)
      · have hb' : before one other o = true := hb
        rw [if_pos hb'] at key
        refine ⟨_, rfl, h1, Nx.mk hlt ⟨same_upd' s1 hl, upd_same, ?_, ?_⟩⟩
        · rw [key]; exact pd_append hp (.cons ⟨q, rfl, hq⟩ .nil)
        · rw [List.length_append, List.length_singleton]; (first | lia | omega)
      · have hb' : ¬ before one other o = true := hb
        rw [if_neg hb'] at key
        refine Nx.mk hlt ⟨s1, h1, ?_, by (first | lia | omega)⟩
        rw [key, List.append_nil]; exact hp
    · rintro acc H' ⟨s1, h1, hp, hal⟩
      rw [List.take_of_length_le (by (first | lia | omega))] at hp
      have hla := Paired.length hp
      refine ⟨_, rfl, a, xs, rfl, .inl (s1.seq hx), _, rfl, l, acc, rfl, .inl (SqL.of h1), _, _, rfl, rfl, ?_⟩
      refine ⟨_, rfl, l, acc, rfl, .inl (SqL.of h1), _, rfl, _, _, rfl, rfl, ?_⟩
      have e : (acc.length : Int) - ((xs.length : Int) - (acc.length : Int)) = leadM L one other := by
        unfold leadM
        (first | lia | omega)
      show Q (.int ((acc.length : Int) - ((xs.length : Int) - (acc.length : Int)))) H'
      rw [e]
      exact k H' s1
end
end Bm
namespace Bm
open PySem L2
section
variable {P : Program} {w : World} {K : PySem.W.Frag} {mg : Str → Option Value} {base : Heap}
theorem scLawLead : FnScope ["voters", "one", "other", "ahead"] ["voters", "one", "other"] (defScope sLawLead) := ⟨rfl, rfl, rfl, by decide +kernel, rfl, by decide +kernel, by decide +kernel⟩
theorem ok_lawLead (d : Def K mg "_law_lead" sLawLead ["voters", "one", "other"]) (B : Blt mg) : FnOk P w K mg base CX0 1 d.f d.fd ["voters", "one", "other"] (spAmong K) := by
  refine d.F.ok scLawLead (fun vs H Q E h => ?_) (fun cdv A outer s H vs Q E hr h => ?_)
  · obtain ⟨a, L, one, other, rfl, _⟩ := h
    rfl
  · obtain ⟨a, L, one, other, rfl, ⟨xs, hx, px⟩, hmem, hL, k⟩ := h
    refine ⟨_, pss_cons (ps_setC (i := 3) (ts := ["voter"]) (fs := [(1, "one"), (2, "other")]) scLawLead.nd rfl (Or.inl rfl) rfl (by exact .mk' rfl (by rfl) ⟨rfl, rfl, rfl, rfl, trivial⟩) (pi_list (pv 0))
        (by intros; exact pg_name (i := 0) (show (["voter", "one", "other"] : List Str).Nodup by decide +kernel) rfl (Or.inl rfl))
        (by intros; exact pts_one (pt_cmpR op_lt (pe_bmU PySem.F.plainAttrs_tuple PySem.F.slot_tuple_index PySem.F.type_tuple_index mt_tindex (pv 0) (pa_cons (pv 1) pa_nil)) (pe_bmU PySem.F.plainAttrs_tuple PySem.F.slot_tuple_index PySem.F.type_tuple_index mt_tindex (pv 0) (pa_cons (pv 2) pa_nil)) (nomark _)))
        (by intros; exact pv 0))
      (pss_one (ps_ret (pe_op op_sub (pe_op op_mul pe_int (pe_callB call_len_seq (by rfl) B.len PySem.boot_len (pa_cons (pv 3) pa_nil))) (pe_callB call_len_seq (by rfl) B.len PySem.boot_len (pa_cons (pv 0) pa_nil))))), ?_⟩
    have hlx := Paired.length px
    refine ⟨_, rfl, a, rfl, ⟨xs, hx⟩, fun l hl => comp_list' (xs := xs) (fun i acc H' => Same H H' ∧ H' l = some (.lst acc) ∧ Paired (dT H) ((L.take i).filter (before one other)) acc ∧ acc.length ≤ i)
      ⟨same_upd hl, upd_same, .nil, Nat.le_refl _⟩ (fun i acc H' _ ⟨s1, h1, _⟩ => ⟨s1.seq hx, h1⟩) ?_ ?_⟩
    · rintro i x acc H' hi hlt ⟨s1, h1, hp, hal⟩
      obtain ⟨o, ho, q, rfl, hq⟩ := paired_get px hi
      obtain ⟨m1, m2⟩ := hmem o (List.mem_of_getElem? ho)
      refine ⟨small1000 (by (first | lia | omega)), ⟨rfl, rfl⟩, _, rfl, .inr ⟨rfl, q, _, rfl, s1 _ _ hq⟩, _, rfl, q, o, one, rfl, rfl, SqT.of (s1 _ _ hq), m1, _, rfl, .inr ⟨rfl, q, _, rfl, s1 _ _ hq⟩, _, rfl, q, o, other, rfl, rfl, SqT.of (s1 _ _ hq), m2, _, _, rfl, rfl, _, rfl, ?_⟩
      have key := take_filter_succ (before one other) ho
      refine ite2 (fun hb => ?_) (fun hb => ?_)
      · have hb' : before one other o = true := hb
        rw [if_pos hb'] at key
        refine ⟨_, rfl, h1, Nx.mk hlt ⟨same_upd' s1 hl, upd_same, ?_, ?_⟩⟩
        · rw [key]; exact pd_append hp (.cons ⟨q, rfl, hq⟩ .nil)
        · rw [List.length_append, List.length_singleton]; (first | lia | omega)
      · have hb' : ¬ before one other o = true := hb
        rw [if_neg hb'] at key
        refine Nx.mk hlt ⟨s1, h1, ?_, by (first | lia | omega)⟩
        rw [key, List.append_nil]; exact hp
    · rintro acc H' ⟨s1, h1, hp, hal⟩
      rw [List.take_of_length_le (by (first | lia | omega))] at hp
      have hla := Paired.length hp
      refine ⟨_, rfl, l, acc, rfl, .inl (SqL.of h1), _, _, rfl, rfl, .inl ⟨by decide, by decide⟩, _, rfl, a, xs, rfl, .inl (s1.seq hx), _, _, rfl, rfl, ?_⟩
      have e : 2 * (acc.length : Int) - (xs.length : Int) = leadM L one other := by
        unfold leadM
        (first | lia | omega)
      show Q (.int (2 * (acc.length : Int) - (xs.length : Int))) H'
      rw [e]
      exact k H' s1
end
end Bm
namespace Bm
open PySem L2
section
variable {P : Program} {w : World} {K : PySem.W.Frag} {mg : Str → Option Value} {base : Heap}
theorem scBeats : FnScope ["many", "voters", "found", "one", "other"] ["many", "voters"] (defScope sBeats) := ⟨rfl, rfl, rfl, by decide +kernel, rfl, by decide +kernel, by decide +kernel⟩
theorem ok_beats (d : Def K mg "_law_beats" sBeats ["many", "voters"]) (B : Blt mg) (dA : Def K mg "_law_lead" sLawLead ["voters", "one", "other"]) (GA : FnOk P w K mg base CX0 1 dA.f dA.fd ["voters", "one", "other"] (spAmong K)) : FnOk P w K mg base CX0 2 d.f d.fd ["many", "voters"] (spWeb K) := by
  refine d.F.ok scBeats (fun vs H Q E h => ?_) (fun cdv A outer s H vs Q E hr h => ?_)
  · obtain ⟨n, a, L, rfl, _⟩ := h
    rfl
  · obtain ⟨n, a, L, rfl, h1, h6, hV, hO, hL, k⟩ := h
    refine ⟨_, (pss_cons (ps_set (i := 2) scBeats.nd rfl (Or.inl rfl) (pe_lst pa_nil))
      (pss_cons (ps_for PassesOwn.never rfl (pi_range1 (by rfl) B.range (pa_cons (pv 0) pa_nil)) (pg_name (i := 3) scBeats.nd rfl (Or.inl rfl))
        (pss_one (ps_for PassesOwn.never rfl (pi_range1 (by rfl) B.range (pa_cons (pv 0) pa_nil)) (pg_name (i := 4) scBeats.nd rfl (Or.inl rfl))
          (pss_one (ps_if (pw_and (pt_cmpR op_ne (pv 3) (pv 4) (nomark _)) (pw_and1 (pt_cmpR op_gt (pe_call GA (hr.mono (by decide)) (by rfl) dA.mgf dA.F.kp dA.b .nil pass0 (pa_cons (pv 1) (pa_cons (pv 3) (pa_cons (pv 4) pa_nil)))) pe_int (nomark _)))).pt
            (pss_one (ps_expr (pe_bm PySem.F.plainAttrs_list PySem.F.slot_list_append PySem.F.type_list_append mt_append (pv 2) (pa_cons (pe_tup (pa_cons (pv 3) (pa_cons (pv 4) pa_nil))) pa_nil)))) pss_nil)))))
      (pss_one (ps_ret (pv 2))))), ?_⟩
    have s0 : Same H H := Same.refl H
    refine ⟨Nat.zero_le _, fun wb hwb => ?_⟩
    have fwb : H wb = none := s0.free hwb
    refine ⟨_, rfl, n, rfl, by (first | lia | omega), by (first | lia | omega), for_range (n := n.toNat) (fun i σ H' => ∃ (v1 v2 : Option V) (ws : List V), σ = [some (.int n), some (.ref a), some (.ref wb), v1, v2] ∧ Same H H' ∧ H' wb = some (.lst ws) ∧ Paired (dT H') (beatsM L n.toNat i) ws ∧ ws.length ≤ i * 6)
      ⟨none, none, [], rfl, same_upd' s0 fwb, upd_same, .nil, Nat.le_refl _⟩ ?_ ?_⟩
    · rintro i σ H1 hi ⟨v1, v2, ws, rfl, s1, hw, pw, hlen⟩
      refine ⟨_, rfl, n, rfl, by (first | lia | omega), by (first | lia | omega), for_range (n := n.toNat) (fun j σ H' => ∃ (v2 : Option V) (ws : List V), σ = [some (.int n), some (.ref a), some (.ref wb), some (.int ((0 : Int) + (i : Nat))), v2] ∧ Same H H' ∧ H' wb = some (.lst ws) ∧
          Paired (dT H') (beatsM L n.toNat i ++ rowM L ((0 : Int) + (i : Nat)) j) ws ∧ ws.length ≤ i * 6 + j)
        ⟨v2, ws, rfl, s1, hw, by rw [show rowM L ((0 : Int) + (i : Nat)) 0 = [] from rfl, List.append_nil]; exact pw, hlen⟩ ?_ ?_⟩
      · rintro j σ H2 hj ⟨v2, ws, rfl, s2, hw, pw, hlen⟩
        have key := rowM_succ L ((0 : Int) + (i : Nat)) j
        refine ⟨_, rfl, _, rfl, rfl, _, rfl, ?_⟩
        have b1 : 0 ≤ (0 : Int) + (i : Nat) ∧ (0 : Int) + (i : Nat) < n := by (first | lia | omega)
        have b2 : 0 ≤ (0 : Int) + (j : Nat) ∧ (0 : Int) + (j : Nat) < n := by (first | lia | omega)
        refine ite2 (fun hb => ?_) (fun hb => ?_)
        · have hb' : ¬ (0 : Int) + (i : Nat) = (0 : Int) + (j : Nat) := fun e => by
            rw [e] at hb
            simp at hb
          refine ⟨_, rfl, _, rfl, _, rfl, a, L, _, _, rfl, hV.same s2, fun o ho => ⟨ord_mem hO b1 o ho, ord_mem hO b2 o ho⟩, hL, fun H3 s3 => ⟨_, _, rfl, rfl, _, rfl, ?_⟩⟩
          refine ite2 (fun hc => ?_) (fun hc => ?_)
          · have hc' : 0 < leadM L ((0 : Int) + (i : Nat)) ((0 : Int) + (j : Nat)) := of_decide_eq_true hc
            have hwin : winB L ((0 : Int) + (i : Nat)) ((0 : Int) + (j : Nat)) = true := by unfold winB; rw [decide_eq_false hb', decide_eq_true hc']; rfl
            rw [if_pos hwin] at key
            have hw3 := s3 _ _ hw
            refine ⟨_, rfl, .inl ⟨rfl, _, SqL.of hw3⟩, _, rfl, _, rfl, (by show 2 ≤ sizeLine; rw [sizeLine_eq]; decide), fun t ht => ?_⟩
            have ft : H t = none := (s2.trans s3).free ht
            have hwt : wb ≠ t := ne_of_none hw3 ht
            refine ⟨wb, ws, _, rfl, rfl, by rw [upd_ne hwt]; exact hw3, small1000 (by (first | lia | omega)), ?_⟩
            refine ⟨_, _, rfl, same_upd' (same_upd' (s2.trans s3) ft) fwb, upd_same, ?_, by rw [List.length_append, List.length_singleton]; (first | lia | omega)⟩
            rw [key, ← List.append_assoc]
            refine pd_append (pd_same (dT_keep (o := .lst ws) hw (fun b u hbu hne => ?_)) pw) (.cons ⟨t, rfl, ?_⟩ .nil)
            · rw [upd_ne hne, upd_ne (ne_of_none (s3 _ _ hbu) ht)]
              exact s3 _ _ hbu
            · rw [upd_ne hwt.symm]
              exact upd_same
          · have hc' : ¬ 0 < leadM L ((0 : Int) + (i : Nat)) ((0 : Int) + (j : Nat)) := fun z => hc (decide_eq_true z)
            have hwin : ¬ winB L ((0 : Int) + (i : Nat)) ((0 : Int) + (j : Nat)) = true := by unfold winB; rw [decide_eq_false hc', Bool.and_false]; exact Bool.false_ne_true
            rw [if_neg hwin, List.append_nil] at key
            refine ⟨_, ws, rfl, s2.trans s3, s3 _ _ hw, ?_, by (first | lia | omega)⟩
            rw [key]
            exact pd_same (dT_same s3) pw
        · have hb' : (0 : Int) + (i : Nat) = (0 : Int) + (j : Nat) := by
            by_cases e : (0 : Int) + (i : Nat) = (0 : Int) + (j : Nat)
            · exact e
            · exact absurd (by simpa using e) hb
          have hwin : ¬ winB L ((0 : Int) + (i : Nat)) ((0 : Int) + (j : Nat)) = true := by unfold winB; rw [decide_eq_true hb']; exact Bool.false_ne_true
          rw [if_neg hwin, List.append_nil] at key
          refine iteF ?_
          refine ⟨_, ws, rfl, s2, hw, ?_, by (first | lia | omega)⟩
          rw [key]
          exact pw
      · rintro σ H2 ⟨v2, ws, rfl, s2, hw, pw, hlen⟩
        refine ⟨_, _, ws, rfl, s2, hw, ?_, by (first | lia | omega)⟩
        rw [beatsM_succ]
        exact pw
    · rintro σ H1 ⟨v1, v2, ws, rfl, s1, hw, pw, hlen⟩
      exact ⟨_, rfl, k H1 wb ws s1 fwb hw pw⟩
end
end Bm
namespace Bm
open PySem L2
section
variable {P : Program} {w : World} {K : PySem.W.Frag} {mg : Str → Option Value} {base : Heap}
theorem scLawVoters : FnScope ["script", "start", "many", "most", "count", "voters", "more"] ["script", "start", "many", "most"] (defScope sVoters) := ⟨rfl, rfl, rfl, by decide +kernel, rfl, by decide +kernel, by decide +kernel⟩
theorem ok_lawVoters (d : Def K mg "_law_voters" sVoters ["script", "start", "many", "most"]) (B : Blt mg) (dC : Def K mg "_law_cell_at" sCellAt ["script", "k"]) (GC : FnOk P w K mg base CX0 1 dC.f dC.fd ["script", "k"] (spCell K))
    (dO : Def K mg "_law_order" sOrder ["cell", "many"]) (GO : FnOk P w K mg base CX0 1 dO.f dO.fd ["cell", "many"] spOrder) : FnOk P w K mg base CX0 2 d.f d.fd ["script", "start", "many", "most"] (spLawVoters K) := by
  refine d.F.ok scLawVoters (fun vs H Q E h => ?_) (fun cdv A outer s H vs Q E hr h => ?_)
  · obtain ⟨a, ns, start, n, most, rfl, _⟩ := h
    rfl
  · obtain ⟨a, ns, start, n, most, rfl, hS, hs0, h1, h6, m0, m60, k⟩ := h
    refine ⟨_, pss_cons (ps_set (i := 4) scLawVoters.nd rfl (Or.inl rfl) (pe_op op_mod (pe_call GC hr (by rfl) dC.mgf dC.F.kp dC.b .nil pass0 (pa_cons (pv 0) (pa_cons (pv 1) pa_nil))) (pe_op op_add (pv 3) pe_int)))
      (pss_cons (ps_setC (i := 5) (ts := ["k"]) (fs := [(2, "many"), (0, "script"), (1, "start")]) scLawVoters.nd rfl (Or.inl rfl) rfl (by exact .mk' rfl (by rfl) ⟨rfl, rfl, rfl, rfl, rfl, rfl, trivial⟩) (pi_range1 (by rfl) B.range (pa_cons (pv 4) pa_nil))
        (by intros; exact pg_name (i := 0) (show (["k", "many", "script", "start"] : List Str).Nodup by decide +kernel) rfl (Or.inl rfl))
        (by intros; exact pts_nil)
        (by intros; exact pe_call GO hr (by rfl) dO.mgf dO.F.kp dO.b .nil pass0 (pa_cons (pe_call GC hr (by rfl) dC.mgf dC.F.kp dC.b .nil pass0 (pa_cons (pv 2) (pa_cons (pe_op op_add (pe_op op_add (pv 3) pe_int) (pv 0)) pa_nil))) (pa_cons (pv 1) pa_nil))))
      (pss_cons (ps_set (i := 6) scLawVoters.nd rfl (Or.inl rfl) (pe_op op_fdiv (pe_call GC hr (by rfl) dC.mgf dC.F.kp dC.b .nil pass0 (pa_cons (pv 0) (pa_cons (pv 1) pa_nil))) (pe_op op_add (pv 3) pe_int)))
      (pss_cons (ps_if (pt_cmpR op_eq (pe_op op_mod (pv 6) pe_int) pe_int (nomark _))
          (pss_one (ps_ret (pe_slice sl_list (pe_op op_rep (pv 5) pe_int) po_none (po_some (pe_op op_add (pv 3) (pe_op op_mod (pe_op op_fdiv (pv 6) pe_int) (pe_op op_sub pe_int (pv 3))))))))
          pss_nil)
      (pss_one (ps_ret (pe_op op_cat (pv 5) (pe_slice sl_list (pv 5) po_none (po_some (pe_op op_mod (pv 6) pe_int))))))))), ?_⟩
    refine ⟨_, rfl, _, rfl, a, ns, start, rfl, hS, hs0, _, rfl, _, _, rfl, rfl, _, _, rfl, rfl, by (first | lia | omega), ?_⟩
    obtain ⟨cnt, ec, c0, c1⟩ : ∃ cnt, ns.getD start.toNat 0 % (most + 1) = cnt ∧ 0 ≤ cnt ∧ cnt < most + 1 := ⟨_, rfl, Int.emod_nonneg _ (by (first | lia | omega)), Int.emod_lt_of_pos _ (by (first | lia | omega))⟩
    refine ⟨_, rfl, cnt, congrArg (fun z => [V.int z]) ec, by (first | lia | omega), by (first | lia | omega), fun l hl => comp_range' (lo := 0) (m0 := cnt.toNat) (fun i acc H' => Same H H' ∧ H' l = some (.lst acc) ∧ ∃ L, Paired (dT H') L acc ∧ Ords n L ∧ acc.length = i)
      ⟨same_upd hl, upd_same, [], .nil, fun o z => absurd z (by simp), rfl⟩ (fun i acc H' _ ⟨_, z, _⟩ => z) ?_ ?_⟩
    · rintro i acc H' hi ⟨s1, hla, L, pL, hO, hlen⟩
      refine ⟨small1000 (by (first | lia | omega)), ⟨rfl, rfl⟩, ?_⟩
      refine tYes_mk ?_
      refine ⟨_, rfl, _, rfl, _, _, rfl, rfl, _, rfl, _, _, rfl, rfl, a, ns, _, rfl, s1.seq hS, by (first | lia | omega), _, rfl, _, n, rfl, h1, h6, fun H2 p o s2 fp hp hperm => ⟨s2 _ _ hla, Nx.mk hi ⟨same_upd' (s1.trans s2) hl, upd_same, L ++ [o], ?_, ords_append hO fun o' ho' => ?_, by rw [List.length_append, List.length_singleton]; (first | lia | omega)⟩⟩⟩
      · have hpl : p ≠ l := (ne_of_none hla fp).symm
        refine pd_append (pd_same (fun b x ⟨q, e, hq⟩ => ⟨q, e, ?_⟩) pL) (.cons ⟨p, rfl, by rw [upd_ne hpl]; exact hp⟩ .nil)
        rw [upd_ne (ne_of hq hla (by intro z; cases z))]
        exact s2 _ _ hq
      · rw [List.mem_singleton.mp ho']; exact hperm
    · rintro acc H' ⟨s1, hla, L, pL, hO, hlen⟩
      have hLl := Paired.length pL
      refine ⟨_, rfl, _, rfl, a, ns, start, rfl, s1.seq hS, hs0, _, rfl, _, _, rfl, rfl, _, _, rfl, rfl, ⟨by (first | lia | omega), by (first | lia | omega)⟩, ?_⟩
      dsimp only
      generalize ns.getD start.toNat 0 / (most + 1) = more
      refine ⟨_, rfl, _, _, rfl, rfl, (by show (0 : Int) < 8; decide), rfl, _, rfl, ?_⟩
      refine ite2 (fun _ => ?_) (fun _ => ?_)
      · refine ⟨_, rfl, l, 60, acc, rfl, rfl, hla, by decide, by decide, by rw [sizeLine_eq]; show acc.length * 60 ≤ _; (first | lia | omega), fun p hp => ?_⟩
        have e0 : 0 ≤ more / 8 % (61 - most) := Int.emod_nonneg _ (by (first | lia | omega))
        have e1 : more / 8 % (61 - most) < 61 - most := Int.emod_lt_of_pos _ (by (first | lia | omega))
        refine ⟨_, rfl, _, rfl, _, _, rfl, rfl, ⟨by decide, by decide⟩, _, rfl, _, _, rfl, rfl, _, _, rfl, rfl, by (first | lia | omega), _, _, rfl, rfl, _, rfl, p, _, rfl, SqL.of upd_same, fun t ht => ?_⟩
        rw [cut_take _ (by (first | lia | omega))]
        have f1 : H p = none := s1.free hp
        have f2 : H t = none := (same_upd' s1 f1).free ht
        refine k _ t _ ((List.replicate 60 L).flatten.take (most + more / 8 % (61 - most)).toNat) (same_upd' (same_upd' s1 f1) f2) f2 upd_same ?_ (ords_take (ords_rep hO 60) _) ?_
        · refine pd_same (fun b x ⟨q, e, hq⟩ => ⟨q, e, ?_⟩) (pd_take _ (pd_rep pL 60))
          exact (same_upd hp |>.trans (same_upd ht)) _ _ hq
        · rw [List.length_take]; (first | lia | omega)
      · have e0 : 0 ≤ more % 4 := Int.emod_nonneg _ (by decide)
        have e1 : more % 4 < 4 := Int.emod_lt_of_pos _ (by decide)
        refine ⟨_, rfl, _, rfl, _, rfl, _, _, rfl, rfl, (by show (0 : Int) < 4; decide), _, rfl, l, acc, rfl, SqL.of hla, fun p hp => ?_⟩
        rw [cut_take _ e0]
        have f1 : H p = none := s1.free hp
        refine ⟨l, p, acc, _, rfl, rfl, (same_upd hp) _ _ hla, upd_same, by rw [List.length_take, sizeLine_eq]; (first | lia | omega), fun t ht => ?_⟩
        have f2 : H t = none := (same_upd' s1 f1).free ht
        refine k _ t _ (L ++ L.take (more % 4).toNat) (same_upd' (same_upd' s1 f1) f2) f2 upd_same ?_ (ords_append hO (ords_take hO _)) ?_
        · refine pd_same (fun b x ⟨q, e, hq⟩ => ⟨q, e, ?_⟩) (pd_append pL (pd_take _ pL))
          exact (same_upd hp |>.trans (same_upd ht)) _ _ hq
        · rw [List.length_append, List.length_take]; (first | lia | omega)
end
end Bm
namespace Bm
open PySem L2
structure WUp (n : Int) (i j : Nat) (W : List (Int × Int)) : Prop where
  rng : ∀ b ∈ W, (0 ≤ b.1 ∧ b.1 < n) ∧ (0 ≤ b.2 ∧ b.2 < n)
  irr : ∀ b ∈ W, b.1 ≠ b.2
  nodup : W.Nodup
  asym : ∀ b ∈ W, (b.2, b.1) ∉ W
  low : ∀ b ∈ W, (b.1 < (i : Int) ∨ b.2 < (i : Int)) ∨ (b.1 = (i : Int) ∧ b.2 ≤ (i : Int) + j) ∨ (b.2 = (i : Int) ∧ b.1 ≤ (i : Int) + j)
  len : W.length ≤ i * 6 + j
theorem WUp.nil (n : Int) : WUp n 0 0 [] := ⟨fun _ h => (by cases h), fun _ h => (by cases h), List.nodup_nil, fun _ h => (by cases h), fun _ h => (by cases h), Nat.zero_le _⟩
theorem WUp.skip {n : Int} {i j : Nat} {W : List (Int × Int)} (h : WUp n i j W) : WUp n i (j + 1) W := ⟨h.rng, h.irr, h.nodup, h.asym, fun b hb => by have := h.low b hb; (first | lia | omega), by have := h.len; (first | lia | omega)⟩
theorem WUp.row {n : Int} {i j : Nat} {W : List (Int × Int)} (h : WUp n i j W) (hj : j ≤ 6) : WUp n (i + 1) 0 W :=
  ⟨h.rng, h.irr, h.nodup, h.asym, fun b hb => by have := h.low b hb; (first | lia | omega), by have := h.len; (first | lia | omega)⟩
theorem WUp.add {n : Int} {i j : Nat} {W : List (Int × Int)} (h : WUp n i j W) (hn : (i : Int) + 1 + j < n) {b : Int × Int} (hb : b = ((i : Int), (i : Int) + 1 + j) ∨ b = ((i : Int) + 1 + j, (i : Int))) : WUp n i (j + 1) (W ++ [b]) := by
  have nw : ∀ c ∈ W, ¬ (c.1 = (i : Int) ∧ c.2 = (i : Int) + 1 + j) ∧ ¬ (c.1 = (i : Int) + 1 + j ∧ c.2 = (i : Int)) := fun c hc => by
    have := h.low c hc
    (first | lia | omega)
  have hb1 : (b.1 = (i : Int) ∧ b.2 = (i : Int) + 1 + j) ∨ (b.1 = (i : Int) + 1 + j ∧ b.2 = (i : Int)) := by
    rcases hb with rfl | rfl
    · exact .inl ⟨rfl, rfl⟩
    · exact .inr ⟨rfl, rfl⟩
  refine ⟨fun c hc => ?_, fun c hc => ?_, ?_, fun c hc hc' => ?_, fun c hc => ?_, ?_⟩
  · rcases List.mem_append.mp hc with z | z
    · exact h.rng c z
    · rw [List.mem_singleton.mp z]; (first | lia | omega)
  · rcases List.mem_append.mp hc with z | z
    · exact h.irr c z
    · rw [List.mem_singleton.mp z]; (first | lia | omega)
  · rw [List.nodup_append]
    refine ⟨h.nodup, by simp, fun x hx y hy e => ?_⟩
    rw [List.mem_singleton.mp hy] at e
    have := nw x hx
    rw [e] at this
    (first | lia | omega)
  · rcases List.mem_append.mp hc with z | z
    · rcases List.mem_append.mp hc' with z' | z'
      · exact h.asym c z z'
      · have e := List.mem_singleton.mp z'
        have := nw c z
        have e1 : c.2 = b.1 := by rw [← e]
        have e2 : c.1 = b.2 := by rw [← e]
        (first | lia | omega)
    · have e := List.mem_singleton.mp z
      rcases List.mem_append.mp hc' with z' | z'
      · have := nw _ z'
        simp only [e] at this
        (first | lia | omega)
      · have e' := List.mem_singleton.mp z'
        have e1 : c.2 = b.1 := by rw [← e']
        rw [e] at e1
        (first | lia | omega)
  · rcases List.mem_append.mp hc with z | z
    · have := h.low c z
      (first | lia | omega)
    · rw [List.mem_singleton.mp z]
      (first | lia | omega)
  · rw [List.length_append, List.length_singleton]
    have := h.len
    (first | lia | omega)
theorem good_rot {n : Int} {i : Nat} {W : List (Int × Int)} (h : WUp n i 0 W) (hi : i ≤ 6) (k : Nat) : Good n (W.drop k ++ W.take k) := by
  have pm : (W.drop k ++ W.take k).Perm W := List.perm_append_comm.trans (by rw [List.take_append_drop])
  refine ⟨fun b hb => h.rng b (pm.mem_iff.mp hb), fun b hb => h.irr b (pm.mem_iff.mp hb), pm.nodup_iff.mpr h.nodup, fun b hb z => h.asym b (pm.mem_iff.mp hb) (pm.mem_iff.mp z), ?_⟩
  rw [pm.length_eq]
  have := h.len
  (first | lia | omega)
theorem cut_drop (xs : List V) {e : Int} (h : 0 ≤ e) : cutV xs (some e) none = xs.drop e.toNat := by
  unfold cutV
  have h1 : HT.sIx xs.length xs.length none = xs.length := rfl
  have h2 : HT.sIx xs.length 0 (some e) = min e.toNat xs.length := by
    show (if e < 0 then _ else min e.toNat xs.length) = _
    rw [if_neg (by (first | lia | omega))]
  rw [h1, h2]
  by_cases hl : e.toNat ≤ xs.length
  · rw [Nat.min_eq_left hl, List.take_of_length_le (by rw [List.length_drop]; (first | lia | omega))]
  · rw [Nat.min_eq_right (by (first | lia | omega)), List.drop_length, List.drop_of_length_le (by (first | lia | omega))]
    simp
def spLawWeb (K : PySem.W.Frag) : Sp := fun vs H Q _ => ∃ (a : Addr) (ns : List Int) (start n : Int), vs = [.ref a, .int start, .int n] ∧ SqL K H a (ns.map V.int) ∧ 0 ≤ start ∧ 1 ≤ n ∧ n ≤ 6 ∧
  ∀ H' p xs W, Same H H' → H p = none → H' p = some (.lst xs) → Paired (dP H') W xs → Good n W → Q (.ref p) H'
section
variable {P : Program} {w : World} {K : PySem.W.Frag} {mg : Str → Option Value} {base : Heap}
theorem scLawWeb : FnScope ["script", "start", "many", "cell", "way", "web", "stand", "one", "other", "wish", "turn"] ["script", "start", "many"] (defScope sLawWeb) := ⟨rfl, rfl, rfl, by decide +kernel, rfl, by decide +kernel, by decide +kernel⟩
theorem ok_lawWeb (d : Def K mg "_law_web" sLawWeb ["script", "start", "many"]) (B : Blt mg) (dC : Def K mg "_law_cell_at" sCellAt ["script", "k"]) (GC : FnOk P w K mg base CX0 1 dC.f dC.fd ["script", "k"] (spCell K))
    (dO : Def K mg "_law_order" sOrder ["cell", "many"]) (GO : FnOk P w K mg base CX0 1 dO.f dO.fd ["cell", "many"] spOrder) : FnOk P w K mg base CX0 2 d.f d.fd ["script", "start", "many"] (spLawWeb K) := by
  refine d.F.ok scLawWeb (fun vs H Q E h => ?_) (fun cdv A outer s H vs Q E hr h => ?_)
  · obtain ⟨a, ns, start, n, rfl, _⟩ := h
    rfl
  · obtain ⟨a, ns, start, n, rfl, hS, hs0, h1, h6, k⟩ := h
    refine ⟨_, pss_cons (ps_set (i := 3) scLawWeb.nd rfl (Or.inl rfl) (pe_call GC hr (by rfl) dC.mgf dC.F.kp dC.b .nil pass0 (pa_cons (pv 0) (pa_cons (pv 1) pa_nil))))
      (pss_cons (ps_set (i := 4) scLawWeb.nd rfl (Or.inl rfl) (pe_op op_mod (pe_call GC hr (by rfl) dC.mgf dC.F.kp dC.b .nil pass0 (pa_cons (pv 0) (pa_cons (pe_op op_add (pv 1) pe_int) pa_nil))) pe_int))
      (pss_cons (ps_set (i := 5) scLawWeb.nd rfl (Or.inl rfl) (pe_lst pa_nil))
      (pss_cons (ps_set (i := 6) scLawWeb.nd rfl (Or.inl rfl) (pe_callTy (call_list_rng rfl) (by rfl) B.list PyProof.Rows.boot_list (pa_cons (pe_callTy call_range (by rfl) B.range PyProof.Rows.boot_range (pa_cons (pv 2) pa_nil)) pa_nil)))
      (pss_cons (ps_cut (ps_if (pt_cmpR op_eq (pv 4) pe_int (nomark _)) (pss_one (ps_set (i := 6) scLawWeb.nd rfl (Or.inl rfl) (pe_call GO hr (by rfl) dO.mgf dO.F.kp dO.b .nil pass0 (pa_cons (pe_op op_fdiv (pe_call GC hr (by rfl) dC.mgf dC.F.kp dC.b .nil pass0 (pa_cons (pv 0) (pa_cons (pe_op op_add (pv 1) pe_int) pa_nil))) pe_int) (pa_cons (pv 2) pa_nil))))) pss_nil))
      (pss_cons (ps_for PassesOwn.never rfl (pi_range1 (by rfl) B.range (pa_cons (pv 2) pa_nil)) (pg_name (i := 7) scLawWeb.nd rfl (Or.inl rfl))
        (pss_one (ps_for PassesOwn.never rfl (pi_range2 (by rfl) B.range (pa_cons (pe_op op_add (pv 7) pe_int) (pa_cons (pv 2) pa_nil))) (pg_name (i := 8) scLawWeb.nd rfl (Or.inl rfl))
          (pss_cons (ps_set (i := 9) scLawWeb.nd rfl (Or.inl rfl) (pe_op op_mod (pv 3) pe_int))
          (pss_cons (ps_set (i := 3) scLawWeb.nd rfl (Or.inl rfl) (pe_op op_fdiv (pv 3) pe_int))
          (pss_cons (ps_cut (ps_if (pt_cmpR op_eq (pv 4) pe_int (nomark _)) (pss_one (ps_if (pt_cmpR op_lt (pv 9) pe_int (nomark _)) (pss_one (ps_set (i := 9) scLawWeb.nd rfl (Or.inl rfl)
              (pe_callTy call_int1 (by rfl) B.int PyProof.Rows.boot_int (pa_cons (pe_cmpR op_gt (pe_bmU PySem.F.plainAttrs_tuple PySem.F.slot_tuple_index PySem.F.type_tuple_index mt_tindex (pv 6) (pa_cons (pv 7) pa_nil)) (pe_bmU PySem.F.plainAttrs_tuple PySem.F.slot_tuple_index PySem.F.type_tuple_index mt_tindex (pv 6) (pa_cons (pv 8) pa_nil)) (nomark _)) pa_nil)))) pss_nil)) pss_nil))
          (pss_cons (ps_cut (ps_if (pt_cmpR op_eq (pv 4) pe_int (nomark _)) (pss_one (ps_set (i := 9) scLawWeb.nd rfl (Or.inl rfl) (pe_op op_mod (pv 9) pe_int))) pss_nil))
          (pss_one (ps_if (pt_cut (pw_or (pt_cmpR op_lt (pv 9) pe_int (nomark _)) (pw_or1 (pt_cmpR op_eq (pv 4) pe_int (nomark _)))).pt)
            (pss_one (ps_expr (pe_bm PySem.F.plainAttrs_list PySem.F.slot_list_append PySem.F.type_list_append mt_append (pv 5) (pa_cons
              (pe_ix ix_list (pe_lst (pa_cons (pe_tup (pa_cons (pv 7) (pa_cons (pv 8) pa_nil))) (pa_cons (pe_tup (pa_cons (pv 8) (pa_cons (pv 7) pa_nil))) pa_nil))) (pe_op op_mod (pv 9) pe_int) (fun _ _ => rfl)) pa_nil)))) pss_nil)))))))))
      (pss_cons (ps_set (i := 10) scLawWeb.nd rfl (Or.inl rfl) (pe_op op_mod (pe_op op_fdiv (pe_call GC hr (by rfl) dC.mgf dC.F.kp dC.b .nil pass0 (pa_cons (pv 0) (pa_cons (pe_op op_add (pv 1) pe_int) pa_nil))) pe_int) (pe_op op_add (pe_callB call_len_seq (by rfl) B.len PySem.boot_len (pa_cons (pv 5) pa_nil)) pe_int)))
      (pss_one (ps_ret (pe_op op_cat (pe_slice sl_list (pv 5) (po_some (pv 10)) po_none) (pe_slice sl_list (pv 5) po_none (po_some (pv 10)))))))))))), ?_⟩
    have small : ∀ {z : Nat}, z ≤ 1000 → z ≤ sizeLine := fun h => Nat.le_of_lt (small1000 h)
    refine ⟨_, rfl, _, rfl, a, ns, start, rfl, hS, hs0, ?_⟩
    refine ⟨_, rfl, _, rfl, _, _, rfl, rfl, a, ns, _, rfl, hS, by (first | lia | omega), _, _, rfl, rfl, (by show (0 : Int) < 4; decide), ?_⟩
    dsimp only
    generalize ns.getD (start + 1).toNat 0 % 4 = way
    generalize ns.getD start.toNat 0 = cell
    refine ⟨Nat.zero_le _, fun wb hwb => ?_⟩
    have fwb : H wb = none := hwb
    refine ⟨_, rfl, n, rfl, fun p hp => ⟨p, 0, n, rfl, upd_same, ⟨by (first | lia | omega), by (first | lia | omega), by (first | lia | omega), by (first | lia | omega)⟩, by (first | lia | omega), fun lf hlf => ?_⟩⟩
    rw [things_eq]
    have s1 : Same H (upd (upd (upd H wb (.lst [])) p (.rng 0 n)) lf (.lst ((rangeI n).map V.int))) := ((same_upd hwb).trans (same_upd hp)).trans (same_upd hlf)
    have hwb1 : (upd (upd (upd H wb (.lst [])) p (.rng 0 n)) lf (.lst ((rangeI n).map V.int))) wb = some (.lst []) := ((same_upd hp).trans (same_upd hlf)) _ _ upd_same
    generalize upd (upd (upd H wb (.lst [])) p (.rng 0 n)) lf (.lst ((rangeI n).map V.int)) = H1 at s1 hwb1
    refine ⟨fun σ' H' => ∃ sv : V, σ' = [some (.ref a), some (.int start), some (.int n), some (.int cell), some (.int way), some (.ref wb), some sv, none, none, none, none] ∧ Same H H' ∧ H' wb = some (.lst []) ∧
      (way = 3 → ∃ (q : Addr) (o : List Int), sv = .ref q ∧ H q = none ∧ H' q = some (.tup (o.map V.int)) ∧ o.Perm (rangeI n)), ?_, ?_⟩
    · refine ⟨_, rfl, rfl, _, rfl, ite2 (fun _ => ?_) (fun hb => ?_)⟩
      · refine ⟨_, rfl, _, rfl, _, _, rfl, rfl, a, ns, _, rfl, s1.seq hS, by (first | lia | omega), _, _, rfl, rfl, ⟨by decide, by decide⟩, _, rfl, _, n, rfl, h1, h6, fun H2 q o s2 fq hq ho => ?_⟩
        exact ⟨_, rfl, s1.trans s2, s2 _ _ hwb1, fun _ => ⟨q, o, rfl, s1.free fq, hq, ho⟩⟩
      · exact ⟨_, rfl, s1, hwb1, fun e => absurd (decide_eq_true (by rw [e])) hb⟩
    rintro σ' H2 ⟨sv, rfl, s2, hwb2, hsv⟩
    refine ⟨_, rfl, n, rfl, by (first | lia | omega), by (first | lia | omega), for_range (n := n.toNat) (fun i σ H' => ∃ (c : Int) (W : List (Int × Int)) (ws : List V) (v7 v8 v9 : Option V), σ = [some (.ref a), some (.int start), some (.int n), some (.int c), some (.int way), some (.ref wb), some sv, v7, v8, v9, none] ∧
        Same H H' ∧ (∀ b xs, H2 b = some (.tup xs) → H' b = some (.tup xs)) ∧ H' wb = some (.lst ws) ∧ Paired (dP H') W ws ∧ WUp n i 0 W)
      ⟨cell, [], [], _, _, _, rfl, s2, fun _ _ z => z, hwb2, .nil, WUp.nil n⟩ ?_ ?_⟩
    · rintro i σ H3 hi ⟨c, W, ws, v7, v8, v9, rfl, s3, t3, hw, pw, hU⟩
      refine ⟨_, rfl, _, _, rfl, rfl, _, rfl, _, n, rfl, ⟨by (first | lia | omega), by (first | lia | omega), by (first | lia | omega), by (first | lia | omega)⟩, for_range (n := (n - ((0 : Int) + (i : Nat) + 1)).toNat) (fun j σ H' => ∃ (c : Int) (W : List (Int × Int)) (ws : List V) (v8 v9 : Option V), σ = [some (.ref a), some (.int start), some (.int n), some (.int c), some (.int way), some (.ref wb), some sv, some (.int ((0 : Int) + (i : Nat))), v8, v9, none] ∧
          Same H H' ∧ (∀ b xs, H2 b = some (.tup xs) → H' b = some (.tup xs)) ∧ H' wb = some (.lst ws) ∧ Paired (dP H') W ws ∧ WUp n i j W)
        ⟨c, W, ws, _, _, rfl, s3, t3, hw, pw, hU⟩ ?_ ?_⟩
      · rintro j σ H4 hj ⟨c, W, ws, v8, v9, rfl, s4, t4, hw, pw, hU⟩
        refine ⟨_, rfl, _, _, rfl, rfl, (by show (0 : Int) < 3; decide), ?_⟩
        refine ⟨_, rfl, _, _, rfl, rfl, ⟨by decide, by decide⟩, ?_⟩
        refine ⟨fun σ' H' => ∃ wv : Int, σ' = [some (.ref a), some (.int start), some (.int n), some (.int (c / 3)), some (.int way), some (.ref wb), some sv, some (.int ((0 : Int) + (i : Nat))), some (.int ((0 : Int) + (i : Nat) + 1 + (j : Nat))), some (.int wv), none] ∧ H' = H4, ?_, ?_⟩
        · refine ⟨_, rfl, rfl, _, rfl, ite2 (fun hb => ?_) (fun _ => ⟨_, rfl, rfl⟩)⟩
          have hw3 : way = 3 := by
            have := of_decide_eq_true hb
            injection this
          obtain ⟨q, o, rfl, fq, hq, ho⟩ := hsv hw3
          have hq4 := t4 _ _ hq
          have m1 : (0 : Int) + (i : Nat) ∈ o := ho.mem_iff.mpr (rangeI_mem (by (first | lia | omega)) (by (first | lia | omega)))
          have m2 : (0 : Int) + (i : Nat) + 1 + (j : Nat) ∈ o := ho.mem_iff.mpr (rangeI_mem (by (first | lia | omega)) (by (first | lia | omega)))
          refine ⟨_, rfl, _, _, rfl, rfl, _, rfl, ite2 (fun _ => ?_) (fun _ => ⟨_, rfl, rfl⟩)⟩
          refine ⟨_, rfl, .inr ⟨rfl, q, _, rfl, hq4⟩, _, rfl, q, o, _, rfl, rfl, SqT.of hq4, m1, _, rfl, .inr ⟨rfl, q, _, rfl, hq4⟩, _, rfl, q, o, _, rfl, rfl, SqT.of hq4, m2, _, _, rfl, rfl, .inr ⟨_, rfl, ?_⟩⟩
          exact ⟨_, rfl, rfl⟩
        rintro σ' H' ⟨wv, rfl, hE⟩
        rw [hE]
        clear hE
        refine ⟨fun σ' H'' => ∃ wv : Int, σ' = [some (.ref a), some (.int start), some (.int n), some (.int (c / 3)), some (.int way), some (.ref wb), some sv, some (.int ((0 : Int) + (i : Nat))), some (.int ((0 : Int) + (i : Nat) + 1 + (j : Nat))), some (.int wv), none] ∧ H'' = H4, ?_, ?_⟩
        · refine ⟨_, rfl, rfl, _, rfl, ite2 (fun hb => ?_) (fun _ => ⟨_, rfl, rfl⟩)⟩
          exact ⟨_, rfl, _, _, rfl, rfl, (by show (0 : Int) < 2; decide), _, rfl, rfl⟩
        rintro σ' H'' ⟨wv, rfl, hE⟩
        rw [hE]
        clear hE
        have hlw := Paired.length pw
        have hU6 := hU.len
        refine ⟨fun _ H' => H' = H4, ?_, ?_⟩
        · exact ⟨_, rfl, _, _, rfl, rfl, _, rfl, ite2 (fun _ => rfl) (fun _ => ⟨_, rfl, rfl, _, rfl, rfl⟩)⟩
        rintro b H5 hE
        rw [hE]
        clear hE H5
        refine ite2 (fun _ => ?_) (fun _ => ⟨_, W, ws, _, _, rfl, s4, t4, hw, pw, hU.skip⟩)
        refine ⟨_, rfl, .inl ⟨rfl, _, SqL.of hw⟩, _, rfl, _, rfl, sz2, fun t1 ht1 => ⟨_, rfl, _, rfl, sz2, fun t2 ht2 => ⟨sz2, fun l hl => ?_⟩⟩⟩
        refine ⟨_, rfl, _, _, rfl, rfl, (by show (0 : Int) < 2; decide), ?_⟩
        generalize hHc : upd (upd (upd H4 t1 (.tup [.int ((0 : Int) + (i : Nat)), .int ((0 : Int) + (i : Nat) + 1 + (j : Nat))])) t2 (.tup [.int ((0 : Int) + (i : Nat) + 1 + (j : Nat)), .int ((0 : Int) + (i : Nat))])) l (.lst [.ref t1, .ref t2]) = Hc
        have sc : Same H4 Hc := by rw [← hHc]; exact ((same_upd ht1).trans (same_upd ht2)).trans (same_upd hl)
        have hct1 : Hc t1 = some (.tup [.int ((0 : Int) + (i : Nat)), .int ((0 : Int) + (i : Nat) + 1 + (j : Nat))]) := by rw [← hHc]; exact ((same_upd ht2).trans (same_upd hl)) _ _ upd_same
        have hct2 : Hc t2 = some (.tup [.int ((0 : Int) + (i : Nat) + 1 + (j : Nat)), .int ((0 : Int) + (i : Nat))]) := by rw [← hHc]; exact (same_upd hl) _ _ upd_same
        have hcl : Hc l = some (.lst [.ref t1, .ref t2]) := by rw [← hHc]; exact upd_same
        have hcw := sc _ _ hw
        have key : ∃ (t : Addr) (b : Int × Int), atI [V.ref t1, V.ref t2] (wv % 2) = some (.ref t) ∧ Hc t = some (.tup [.int b.1, .int b.2]) ∧ (b = ((i : Int), (i : Int) + 1 + j) ∨ b = ((i : Int) + 1 + j, (i : Int))) := by
          have hcase : wv % 2 = 0 ∨ wv % 2 = 1 := by (first | lia | omega)
          rcases hcase with e | e
          · rw [e]
            refine ⟨t1, ((i : Int), (i : Int) + 1 + j), rfl, ?_, .inl rfl⟩
            rw [hct1, Int.zero_add]
          · rw [e]
            refine ⟨t2, ((i : Int) + 1 + j, (i : Int)), rfl, ?_, .inr rfl⟩
            rw [hct2, Int.zero_add]
        obtain ⟨t, b, hat, hct, hb⟩ := key
        refine ⟨l, _, _, _, rfl, rfl, SqL.of hcl, hat, wb, ws, _, rfl, rfl, hcw, small1000 (by (first | lia | omega)), ?_⟩
        have keep : ∀ b xs, H4 b = some (.tup xs) → (upd Hc wb (.lst (ws ++ [V.ref t]))) b = some (.tup xs) := fun b xs hb => by
          rw [upd_ne (ne_of (sc _ _ hb) hcw (by intro z; cases z))]
          exact sc _ _ hb
        refine ⟨_, W ++ [b], ws ++ [.ref t], _, _, rfl, same_upd' (s4.trans sc) fwb, fun b xs z => keep b xs (t4 b xs z), upd_same, ?_, hU.add (by (first | lia | omega)) hb⟩
        refine pd_append (pd_same (fun _ _ ⟨q, e, hq⟩ => ⟨q, e, keep _ _ hq⟩) pw) (.cons ⟨t, rfl, ?_⟩ .nil)
        rw [upd_ne (ne_of hct hcw (by intro z; cases z))]
        exact hct
      · rintro σ H4 ⟨c, W, ws, v8, v9, rfl, s4, t4, hw, pw, hU⟩
        exact ⟨c, W, ws, _, _, _, rfl, s4, t4, hw, pw, hU.row (by (first | lia | omega))⟩
    · rintro σ H3 ⟨c, W, ws, v7, v8, v9, rfl, s3, t3, hw, pw, hU⟩
      have hlw := Paired.length pw
      have hU6 := hU.len
      refine ⟨_, rfl, _, rfl, _, _, rfl, rfl, a, ns, _, rfl, s3.seq hS, by (first | lia | omega), _, _, rfl, rfl, ⟨by decide, by decide⟩, _, rfl, wb, _, rfl, .inl (SqL.of hw), _, _, rfl, rfl, _, _, rfl, rfl, by (first | lia | omega), ?_⟩
      obtain ⟨e, ee, e0⟩ : ∃ e, ns.getD (start + 1).toNat 0 / 4 % ((ws.length : Int) + 1) = e ∧ 0 ≤ e := ⟨_, rfl, Int.emod_nonneg _ (by (first | lia | omega))⟩
      dsimp only
      rw [ee]
      refine ⟨_, rfl, _, rfl, e, rfl, wb, ws, rfl, SqL.of hw, fun q1 hq1 => ?_⟩
      have hw1 := (same_upd (o := .lst (cutV ws (some e) none)) hq1) _ _ hw
      refine ⟨_, rfl, _, rfl, e, rfl, wb, ws, rfl, SqL.of hw1, fun q2 hq2 => ?_⟩
      refine ⟨q1, q2, _, _, rfl, rfl, (same_upd hq2) _ _ upd_same, upd_same, small (by have := cutV_length ws (some e) none; have := cutV_length ws none (some e); (first | lia | omega)), fun t ht => ?_⟩
      have f1 : H q1 = none := s3.free hq1
      have sA := same_upd' (o := .lst (cutV ws (some e) none)) s3 f1
      have f2 : H q2 = none := sA.free hq2
      have sB := same_upd' (o := .lst (cutV ws none (some e))) sA f2
      have f3 : H t = none := sB.free ht
      refine k _ t _ (W.drop e.toNat ++ W.take e.toNat) (same_upd' sB f3) f3 upd_same ?_ (good_rot hU (by (first | lia | omega)) _)
      have pp := pd_append (pd_drop e.toNat pw) (pd_take e.toNat pw)
      rw [← cut_drop ws e0, ← cut_take ws e0] at pp
      exact pd_same (dP_same (((same_upd hq1).trans (same_upd hq2)).trans (same_upd ht))) pp
end
end Bm
namespace Bm
open PySem L2
def spOrders : Sp := fun vs H Q _ => ∃ n : Int, vs = [.int n] ∧ 1 ≤ n ∧ n ≤ 6 ∧ ∀ H' p xs, Same H H' → H p = none → H' p = some (.lst xs) → Paired (dT H') (ordersM n n.toNat) xs → Q (.ref p) H'
theorem flatMap_len {α β : Type} {f : α → List β} {c : Nat} : ∀ {L : List α}, (∀ x ∈ L, (f x).length ≤ c) → (L.flatMap f).length ≤ c * L.length
  | [], _ => Nat.zero_le _
  | x :: L, h => by
    rw [List.flatMap_cons, List.length_append, List.length_cons]
    have h1 := h x List.mem_cons_self
    have h2 := flatMap_len (L := L) fun y hy => h y (List.mem_cons_of_mem _ hy)
    rw [Nat.mul_succ]
    (first | lia | omega)
theorem cands_le (n : Int) (r : List Int) : (cands n r).length ≤ n.toNat := by
  unfold cands
  have := List.length_filter_le (fun t => !decide (t ∈ r)) (rangeI n)
  rw [show (rangeI n).length = n.toNat from rangeK_len _] at this
  exact this
theorem stepO_le {n : Int} (h6 : n ≤ 6) (r : List Int) : (stepO n r).length ≤ 6 := by
  unfold stepO
  rw [List.length_map]
  have := cands_le n r
  (first | lia | omega)
theorem ordersM_len {n : Int} (h6 : n ≤ 6) : ∀ k : Nat, (ordersM n k).length ≤ 6 ^ k
  | 0 => Nat.le_refl _
  | k + 1 => by
    have h1 : (ordersM n (k + 1)).length ≤ 6 * (ordersM n k).length := flatMap_len fun r _ => stepO_le h6 r
    have h2 := ordersM_len h6 k
    rw [Nat.pow_succ]
    (first | lia | omega)
theorem ordersM_row {n : Int} : ∀ {k : Nat} (r : List Int), r ∈ ordersM n k → r.length = k
  | 0, r, h => by rw [List.mem_singleton.mp h]; rfl
  | k + 1, r, h => by
    obtain ⟨q, hq, h⟩ := List.mem_flatMap.mp h
    obtain ⟨t, _, rfl⟩ := List.mem_map.mp h
    rw [List.length_append, ordersM_row q hq]
    rfl
theorem pow6 {k : Nat} (h : k ≤ 6) : 6 ^ k ≤ 46656 := Nat.pow_le_pow_right (by decide) h
section
variable {P : Program} {w : World} {K : PySem.W.Frag} {mg : Str → Option Value} {base : Heap}
theorem scOrders : FnScope ["many", "rows", "k", "longer", "row"] ["many"] (defScope sOrders) := ⟨rfl, rfl, rfl, by decide +kernel, rfl, by decide +kernel, by decide +kernel⟩
theorem ok_orders (d : Def K mg "_law_orders" sOrders ["many"]) (B : Blt mg) : FnOk P w K mg base CX0 1 d.f d.fd ["many"] spOrders := by
  refine d.F.ok scOrders (fun vs H Q E h => ?_) (fun cdv A outer s H vs Q E hr h => ?_)
  · obtain ⟨n, rfl, _⟩ := h
    rfl
  · obtain ⟨n, rfl, h1, h6, k⟩ := h
    refine ⟨_, pss_cons (ps_set (i := 1) scOrders.nd rfl (Or.inl rfl) (pe_lst (pa_cons (pe_tup pa_nil) pa_nil)))
      (pss_cons (ps_for PassesOwn.never rfl (pi_range1 (by rfl) B.range (pa_cons (pv 0) pa_nil)) (pg_name (i := 2) scOrders.nd rfl (Or.inl rfl))
        (pss_cons (ps_set (i := 3) scOrders.nd rfl (Or.inl rfl) (pe_lst pa_nil))
        (pss_cons (ps_for PassesOwn.never rfl (pi_list (pv 1)) (pg_name (i := 4) scOrders.nd rfl (Or.inr rfl))
          (pss_one (ps_set (i := 3) scOrders.nd rfl (Or.inl rfl) (pe_op op_cat (pv 3) (pe_comp (ts := ["thing"]) (fs := [(4, "row")]) rfl (by exact .mk' rfl (by rfl) ⟨rfl, rfl, trivial⟩) (pi_range1 (by rfl) B.range (pa_cons (pv 0) pa_nil))
            (by intros; exact pg_name (i := 0) (show (["thing", "row"] : List Str).Nodup by decide +kernel) rfl (Or.inl rfl))
            (by intros; exact pts_one (pt_cmpR (op_notInL eq_int_ok dInt_inj (hu_of hr)) (pv 0) (pv 1) (by with_unfolding_all rfl)))
            (by intros; exact pe_op op_catU (pv 1) (pe_tup (pa_cons (pv 0) pa_nil))))))))
        (pss_one (ps_set (i := 1) scOrders.nd rfl (Or.inl rfl) (pv 3))))))
      (pss_one (ps_ret (pv 1)))), ?_⟩
    have small : ∀ {z : Nat}, z ≤ 1000 → z ≤ sizeLine := fun h => Nat.le_of_lt (small1000 h)
    refine ⟨Nat.zero_le _, fun t0 ht0 => ⟨sz1, fun ra hra => ?_⟩⟩
    have fra : H ra = none := (same_upd ht0).free hra
    refine ⟨_, rfl, n, rfl, by (first | lia | omega), by (first | lia | omega), for_range (n := n.toNat) (fun i σ H' => ∃ (ra : Addr) (xs : List V) (v2 v3 v4 : Option V), σ = [some (.int n), some (.ref ra), v2, v3, v4] ∧ Same H H' ∧ H ra = none ∧ H' ra = some (.lst xs) ∧ Paired (dT H') (ordersM n i) xs)
      ⟨ra, [.ref t0], _, _, _, rfl, (same_upd ht0).trans (same_upd hra), fra, upd_same, .cons ⟨t0, rfl, (same_upd hra) _ _ upd_same⟩ .nil⟩ ?_ ?_⟩
    · rintro i σ H1 hi ⟨ra, xs, v2, v3, v4, rfl, s1, fra, hra, px⟩
      have hlx := Paired.length px
      have hlen : (ordersM n i).length ≤ 46656 := Nat.le_trans (ordersM_len h6 i) (pow6 (by (first | lia | omega)))
      refine ⟨Nat.zero_le _, fun la hla => ?_⟩
      have fla : H la = none := s1.free hla
      refine ⟨_, rfl, ra, rfl, ⟨_, SqL.of ((same_upd hla) _ _ hra)⟩, for_list (K := K) (a := ra) (xs := xs) (fun j σ H' => ∃ (la : Addr) (ls : List V) (v4 : Option V), σ = [some (.int n), some (.ref ra), some (.int ((0 : Int) + (i : Nat))), some (.ref la), v4] ∧ Same H1 H' ∧ H1 la = none ∧ H' la = some (.lst ls) ∧
          Paired (dT H') (((ordersM n i).take j).flatMap (stepO n)) ls)
        ⟨la, [], _, rfl, same_upd hla, hla, upd_same, .nil⟩ (fun j σ H' _ ⟨_, _, _, _, s2, _⟩ => SqL.of (s2 _ _ hra)) ?_ ?_⟩
      · rintro j x σ H2 hj ⟨la, ls, v4, rfl, s2, fla, hla, pl⟩
        obtain ⟨row, hrow, p, rfl, hp⟩ := paired_get px hj
        have hp2 := s2 _ _ hp
        have hjl : j < (ordersM n i).length := (List.getElem?_eq_some_iff.mp hrow).1
        have hll := Paired.length pl
        have hb := flatMap_len (f := stepO n) (c := 6) (L := (ordersM n i).take j) fun r _ => stepO_le h6 r
        rw [List.length_take] at hb
        refine ⟨_, rfl, _, rfl, n, rfl, by (first | lia | omega), by (first | lia | omega), fun l hl => comp_range' (lo := 0) (m0 := n.toNat) (fun c acc H' => Same H2 H' ∧ H' l = some (.lst acc) ∧ Paired (dT H') (((rangeK c).filter fun t => !decide (t ∈ row)).map fun t => row ++ [t]) acc ∧ acc.length ≤ c)
          ⟨same_upd hl, upd_same, .nil, Nat.le_refl _⟩ (fun c acc H' _ ⟨_, z, _⟩ => z) ?_ ?_⟩
        · rintro c acc H3 hc ⟨s3, hl3, pa, hal⟩
          have hp3 := s3 _ _ hp2
          refine ⟨small1000 (by (first | lia | omega)), ⟨rfl, rfl⟩, ?_⟩
          refine ⟨_, rfl, _, rfl, p, _, _, row, rfl, .inr (SqT.of hp3), rfl, paired_ints _, _, rfl, ite2 (fun hn => ?_) (fun hn => ?_)⟩
          · refine ⟨_, rfl, _, rfl, sz1, fun t ht => ?_⟩
            refine ⟨p, t, _, _, rfl, rfl, SqT.of ((same_upd ht) _ _ hp3), upd_same, (fun z => nomatch z), ?_, fun q H4 s4 hq => ?_⟩
            · have hrl := ordersM_row _ (List.mem_of_getElem? hrow)
              rw [List.length_map, List.length_singleton, sizeLine_eq]
              (first | lia | omega)
            have s5 := (same_upd ht).trans s4
            have hl4 := s5 _ _ hl3
            refine ⟨hl4, Nx.mk hc ⟨same_upd' (s3.trans s5) hl, upd_same, ?_, by rw [List.length_append, List.length_singleton]; (first | lia | omega)⟩⟩
            rw [rangeK_succ, List.filter_append, List.map_append]
            refine pd_append (pd_same (fun _ _ ⟨b, e, hb⟩ => ⟨b, e, by rw [upd_ne (ne_of (s5 _ _ hb) hl4 (by intro z; cases z))]; exact s5 _ _ hb⟩) pa) ?_
            rw [List.filter_cons_of_pos (p := fun t => !decide (t ∈ row)) hn, List.filter_nil]
            refine .cons ⟨q, rfl, ?_⟩ .nil
            rw [upd_ne (ne_of hq hl4 (by intro z; cases z)), hq, List.map_append]
            rfl
          · refine Nx.mk hc ⟨s3, hl3, ?_, by (first | lia | omega)⟩
            rw [rangeK_succ, List.filter_append, List.filter_cons_of_neg (p := fun t => !decide (t ∈ row)) hn, List.filter_nil, List.append_nil]
            exact pa
        · rintro acc H3 ⟨s3, hl3, pa, hal⟩
          have hla3 := s3 _ _ hla
          refine ⟨la, l, _, _, rfl, rfl, hla3, hl3, by rw [sizeLine_eq]; (first | lia | omega), fun t ht => ?_⟩
          have ft : H1 t = none := (s2.trans s3).free ht
          refine ⟨t, ls ++ acc, _, rfl, same_upd' (s2.trans s3) ft, ft, upd_same, ?_⟩
          rw [List.take_add_one, hrow, List.flatMap_append]
          refine pd_append (pd_same (dT_same (s3.trans (same_upd ht))) pl) ?_
          have e : (Option.some row).toList.flatMap (stepO n) = stepO n row := by
            show [row].flatMap (stepO n) = _
            rw [List.flatMap_cons, List.flatMap_nil, List.append_nil]
          rw [e]
          exact pd_same (dT_same (same_upd ht)) pa
      · rintro σ H2 ⟨la, ls, v4, rfl, s2, fla, hla, pl⟩
        rw [List.take_of_length_le (by (first | lia | omega))] at pl
        exact ⟨_, rfl, la, ls, _, _, _, rfl, s1.trans s2, s1.free fla, hla, pl⟩
    · rintro σ H1 ⟨ra, xs, v2, v3, v4, rfl, s1, fra, hra, px⟩
      exact ⟨_, rfl, k H1 ra xs s1 fra hra px⟩
end
end Bm
namespace Bm
open PySem L2
def spIsRing (K : PySem.W.Frag) : Sp := fun vs H Q _ => ∃ (p : Addr) (r : List Int) (n : Int) (a : Addr) (W : List (Int × Int)), vs = [.ref p, .int n, .ref a] ∧ H p = some (.lst (r.map V.int)) ∧ WAt K H a W ∧ RingOk W r ∧ 3 ≤ r.length ∧ r.length ≤ 6 ∧ ∀ H', Same H H' → Q (.bl true) H'
theorem atI_at {r : List Int} {i : Nat} {x : Int} (h : r[i]? = some x) : atI (r.map V.int) ((0 : Int) + (i : Nat)) = some (.int x) := by
  rw [Int.zero_add]
  exact atI_nat (by rw [List.getElem?_map, h]; rfl)
theorem atI_back {r : List Int} {i : Nat} (h : i < r.length) : ∃ x, atI (r.map V.int) ((0 : Int) + (i : Nat) - 1) = some (.int x) ∧ ((i = 0 ∧ r[r.length - 1]? = some x) ∨ ∃ k, i = k + 1 ∧ r[k]? = some x) := by
  cases i with
  | zero =>
    have hl : r.length - 1 < r.length := by (first | lia | omega)
    refine ⟨r[r.length - 1], ?_, .inl ⟨rfl, List.getElem?_eq_getElem hl⟩⟩
    have e : r = r.take (r.length - 1) ++ [r[r.length - 1]] := by
      conv => lhs; rw [← List.take_append_drop (r.length - 1) r]
      rw [List.drop_eq_getElem_cons hl, List.drop_of_length_le (by (first | lia | omega))]
    have e2 : r.map V.int = (r.take (r.length - 1)).map V.int ++ [V.int r[r.length - 1]] := by
      conv => lhs; rw [e, List.map_append]
      rfl
    rw [e2]
    exact atI_last _ _
  | succ k =>
    have hk : k < r.length := by (first | lia | omega)
    refine ⟨r[k], ?_, .inr ⟨k, rfl, List.getElem?_eq_getElem hk⟩⟩
    rw [show (0 : Int) + ((k + 1 : Nat) : Int) - 1 = (k : Nat) by (first | lia | omega)]
    exact atI_nat (by rw [List.getElem?_map, List.getElem?_eq_getElem hk]; rfl)
section
variable {P : Program} {w : World} {K : PySem.W.Frag} {mg : Str → Option Value} {base : Heap}
theorem scIsRing : FnScope ["found", "many", "web", "k"] ["found", "many", "web"] (defScope sIsRing) := ⟨rfl, rfl, rfl, by decide +kernel, rfl, by decide +kernel, by decide +kernel⟩
theorem ok_isRing (d : Def K mg "_law_is_ring" sIsRing ["found", "many", "web"]) (B : Blt mg) (dW : Def K mg "_law_whole" sWhole ["found"]) (GW : FnOk P w K mg base CX0 1 dW.f dW.fd ["found"] spWhole) :
    FnOk P w K mg base CX0 2 d.f d.fd ["found", "many", "web"] (spIsRing K) := by
  refine d.F.ok scIsRing (fun vs H Q E h => ?_) (fun cdv A outer s H vs Q E hr h => ?_)
  · obtain ⟨p, r, n, a, W, rfl, _⟩ := h
    rfl
  · obtain ⟨p, r, n, a, W, rfl, hp, hW, hR, h3, h6, k⟩ := h
    refine ⟨_, pss_cons (ps_if (pw_or (pt_not (pt_val (pe_callB call_isi (by rfl) B.isi PyProof.Rows.boot_isinstance (pa_cons (pv 0) (pa_cons (pe_bltn (v := .ty "list") (by rfl) B.list PyProof.Rows.boot_list rfl) pa_nil)))))
        (pw_or (pt_cmpR op_lt (pe_callB call_len_seq (by rfl) B.len PySem.boot_len (pa_cons (pv 0) pa_nil)) pe_int (nomark _))
          (pw_or1 (pt_cmpR op_ne (pe_callB call_lenS (by rfl) B.len PySem.boot_len (pa_cons (pe_callTy (call_setI rfl) (by rfl) B.set PyProof.Rows.boot_set (pa_cons (pv 0) pa_nil)) pa_nil)) (pe_callB call_len_seq (by rfl) B.len PySem.boot_len (pa_cons (pv 0) pa_nil)) (nomark _))))).pt pss_never pss_nil)
      (pss_cons (ps_for PassesOwn.never rfl (pi_range1 (by rfl) B.range (pa_cons (pe_callB call_len_seq (by rfl) B.len PySem.boot_len (pa_cons (pv 0) pa_nil)) pa_nil)) (pg_name (i := 3) scIsRing.nd rfl (Or.inl rfl))
        (pss_one (ps_if (pw_or (pt_not (pt_val (pe_call GW hr (by rfl) dW.mgf dW.F.kp dW.b .nil pass0 (pa_cons (pe_ix ix_list (pv 0) (pv 3) (fun _ _ => rfl)) pa_nil))))
          (pw_or1 (pt_cmpR (op_notInL eq_dP_ok dP_inj (hu2_of hr)) (pe_tup (pa_cons (pe_ix ix_list (pv 0) (pe_op op_sub (pv 3) pe_int) (fun _ _ => rfl)) (pa_cons (pe_ix ix_list (pv 0) (pv 3) (fun _ _ => rfl)) pa_nil))) (pv 2) (by with_unfolding_all rfl)))).pt pss_never pss_nil)))
      (pss_one (ps_ret pe_bl))), ?_⟩
    have hm : ((r.map V.int).length : Int) = (r.length : Int) := by rw [List.length_map]
    refine ⟨_, rfl, .ref p, "list", true, rfl, .list_list (SqL.of hp), true, rfl, iteF ?_⟩
    refine ⟨_, rfl, p, _, rfl, .inl (SqL.of hp), _, _, rfl, rfl, _, rfl, iteN (by rw [hm]; (first | lia | omega)) ?_⟩
    refine ⟨_, rfl, p, r, rfl, SqL.of hp, hR.nodup, by (first | lia | omega), fun l S hl => ?_⟩
    have s1 := same_upd (o := .set S r.length) hl
    refine ⟨l, S, r.length, rfl, upd_same, _, rfl, p, _, rfl, .inl (SqL.of (s1 _ _ hp)), rfl, _, rfl, iteNS (by rw [hm]) ?_⟩
    refine ⟨_, rfl, p, _, rfl, .inl (SqL.of (s1 _ _ hp)), _, rfl, by rw [hm]; (first | lia | omega), by rw [hm]; (first | lia | omega), ?_⟩
    rw [hm, Int.toNat_natCast]
    refine for_range (n := r.length) (fun i σ H' => ∃ v3 : Option V, σ = [some (.ref p), some (.int n), some (.ref a), v3] ∧ Same H H') ⟨none, rfl, s1⟩ ?_ ?_
    · rintro i σ H1 hi ⟨v3, rfl, s2⟩
      have hp1 := s2 _ _ hp
      have hx : r[i]? = some r[i] := List.getElem?_eq_getElem hi
      obtain ⟨y, hy, hb⟩ := atI_back hi
      obtain ⟨ws, hw, pw⟩ := hW.same s2
      have hmem : (y, r[i]) ∈ W := by
        rcases hb with ⟨rfl, hb⟩ | ⟨j, rfl, hb⟩
        · exact hR.close _ _ hb hx
        · exact hR.step j _ _ hb hx
      refine ⟨_, rfl, _, rfl, p, _, _, _, rfl, rfl, SqL.of hp1, atI_at hx, _, rfl, true, rfl, iteF ?_⟩
      refine ⟨_, rfl, _, rfl, _, _, rfl, rfl, p, _, _, _, rfl, rfl, SqL.of hp1, hy, _, rfl, _, rfl, p, _, _, _, rfl, rfl, SqL.of hp1, atI_at hx, sz2, fun t ht => ?_⟩
      have s3 := same_upd (o := .tup [.int y, .int r[i]]) ht
      refine ⟨_, rfl, a, ws, (y, r[i]), W, rfl, .inl (s3.seq hw), ⟨t, rfl, upd_same⟩, pd_same (dP_same s3) pw, _, rfl, iteS hmem ?_⟩
      exact ⟨_, rfl, s2.trans s3⟩
    · rintro σ H1 ⟨v3, rfl, s2⟩
      exact k H1 s2
end
end Bm
namespace Bm
open PySem L2
def spIsOrder : Sp := fun vs H Q _ => ∃ (p : Addr) (o : List Int) (n : Int), vs = [.ref p, .int n] ∧ 1 ≤ n ∧ n ≤ 6 ∧ H p = some (.tup (o.map V.int)) ∧ o.Perm (rangeI n) ∧ ∀ H', Same H H' → Q (.bl true) H'
section
variable {P : Program} {w : World} {K : PySem.W.Frag} {mg : Str → Option Value} {base : Heap}
theorem all_true : ∀ {bs : List Bool}, (∀ b ∈ bs, b = true) → bs.all id = true := fun h => List.all_eq_true.mpr fun b hb => h b hb
theorem scIsOrder : FnScope ["found", "many"] ["found", "many"] (defScope sIsOrder) := ⟨rfl, rfl, rfl, by decide +kernel, rfl, by decide +kernel, by decide +kernel⟩
theorem ok_isOrder (d : Def K mg "_law_is_order" sIsOrder ["found", "many"]) (B : Blt mg) (dW : Def K mg "_law_whole" sWhole ["found"]) (GW : FnOk P w K mg base CX0 1 dW.f dW.fd ["found"] spWhole) :
    FnOk P w K mg base CX0 2 d.f d.fd ["found", "many"] spIsOrder := by
  refine d.F.ok scIsOrder (fun vs H Q E h => ?_) (fun cdv A outer s H vs Q E hr h => ?_)
  · obtain ⟨p, o, n, rfl, _⟩ := h
    rfl
  · obtain ⟨p, o, n, rfl, h1, h6, hp, ho, k⟩ := h
    refine ⟨_, pss_cons (ps_if (pw_or (pt_not (pt_val (pe_callB call_isi (by rfl) B.isi PyProof.Rows.boot_isinstance (pa_cons (pv 0) (pa_cons (pe_bltn (v := .ty "tuple") (by rfl) B.tuple PyProof.Rows.boot_tuple rfl) pa_nil)))))
        (pw_or1 (pt_cmpR op_ne (pe_callB call_len_seq (by rfl) B.len PySem.boot_len (pa_cons (pv 0) pa_nil)) (pv 1) (nomark _)))).pt pss_never pss_nil)
      (pss_one (ps_ret (pe_and (pe_callB (call_allB rfl) (by rfl) B.all PyProof.Rows.boot_all (pa_cons (pe_comp (ts := ["thing"]) (fs := []) rfl (by exact .mk' rfl (by rfl) trivial) (pi_tup (pv 0))
          (by intros; exact pg_name (i := 0) (show (["thing"] : List Str).Nodup by decide +kernel) rfl (Or.inl rfl))
          (by intros; exact pts_nil)
          (by intros; exact pe_call GW hr (by rfl) dW.mgf dW.F.kp dW.b .nil pass0 (pa_cons (pv 0) pa_nil))) pa_nil))
        (pe_one (pe_cmpR (op_eqL eq_int_ok (hu_of hr)) (pe_callB call_sorted (by rfl) B.sorted PyProof.Rows.boot_sorted (pa_cons (pv 0) pa_nil)) (pe_callTy (call_list_rng rfl) (by rfl) B.list PyProof.Rows.boot_list (pa_cons (pe_callTy call_range (by rfl) B.range PyProof.Rows.boot_range (pa_cons (pv 1) pa_nil)) pa_nil)) (nomark _)))))), ?_⟩
    have hol : o.length = n.toNat := by rw [ho.length_eq]; exact rangeK_len _
    have hm : ((o.map V.int).length : Int) = n := by rw [List.length_map]; (first | lia | omega)
    refine ⟨_, rfl, .ref p, "tuple", true, rfl, .tup_tup (SqT.of hp), true, rfl, iteF ?_⟩
    refine ⟨_, rfl, p, _, rfl, .inr (SqT.of hp), _, rfl, rfl, _, rfl, iteNS (by rw [hm]) ?_⟩
    refine ⟨_, rfl, p, rfl, ⟨_, SqT.of hp⟩, fun l hl => comp_tup' (xs := o.map V.int) (fun i acc H' => Same H H' ∧ H' l = some (.lst acc) ∧ acc = (List.replicate i true).map V.bl)
      ⟨same_upd hl, upd_same, rfl⟩ (fun i acc H' _ ⟨s1, z, _⟩ => ⟨SqT.of (s1 _ _ hp), z⟩) ?_ ?_⟩
    · rintro i x acc H1 hi hlt ⟨s1, hl1, hacc⟩
      obtain ⟨t, ht, rfl⟩ := map_get hi
      rw [List.length_map] at hlt
      refine ⟨small1000 (by rw [hacc, List.length_map, List.length_replicate]; (first | lia | omega)), ⟨rfl, rfl⟩, tYes_mk ?_⟩
      refine ⟨_, rfl, t, rfl, hl1, ?_⟩
      rw [List.length_map]
      refine Nx.mk hlt ⟨same_upd' s1 hl, upd_same, ?_⟩
      rw [hacc, List.replicate_succ', List.map_append]
      rfl
    · rintro acc H1 ⟨s1, hl1, hacc⟩
      refine ⟨l, List.replicate (o.map V.int).length true, rfl, SqL.of (by rw [← hacc]; exact hl1), ?_⟩
      rw [all_true fun b hb => (List.mem_replicate.mp hb).2]
      refine ⟨true, rfl, iteT ?_⟩
      refine ⟨_, rfl, p, o, rfl, .inr (SqT.of (s1 _ _ hp)), by (first | lia | omega), fun q ns' hq hp' hs' => ?_⟩
      have s2 := s1.trans (same_upd (o := .lst (ns'.map V.int)) hq)
      refine ⟨_, rfl, n, rfl, fun c hc => ⟨c, 0, n, rfl, upd_same, ⟨by (first | lia | omega), by (first | lia | omega), by (first | lia | omega), by (first | lia | omega)⟩, by (first | lia | omega), fun e he => ?_⟩⟩
      rw [things_eq]
      have s3 := (same_upd (o := .rng 0 n) hc).trans (same_upd (o := .lst ((rangeI n).map V.int)) he)
      refine ⟨q, e, _, _, ns', rangeI n, rfl, rfl, SqL.of (s3 _ _ upd_same), SqL.of upd_same, paired_ints _, paired_ints _, ?_⟩
      rw [decide_eq_true (PySem.W.ksm_same (hp'.trans ho) hs' (rangeK_sorted _))]
      exact k _ (s2.trans s3)
end
end Bm
namespace Bm
open PySem L2
section
variable {P : Program} {w : World} {K : PySem.W.Frag} {mg : Str → Option Value} {base : Heap}
theorem scUnb : FnScope ["web", "left", "beaten", "thing"] ["web", "left"] (defScope sUnb) := ⟨rfl, rfl, rfl, by decide +kernel, rfl, by decide +kernel, by decide +kernel⟩
theorem ok_unb (d : Def K mg "first_unbeaten" sUnb ["web", "left"]) : FnOk P w K mg base CX0 1 d.f d.fd ["web", "left"] (spUnb K) := by
  refine d.F.ok scUnb (fun vs H Q E h => ?_) (fun cdv A outer s H vs Q E hr h => ?_)
  · obtain ⟨a, W, la, left, rfl, _⟩ := h
    rfl
  · obtain ⟨a, W, la, left, rfl, ⟨xs, hx, px⟩, hW, hL, k⟩ := h
    refine ⟨_, pss_cons (ps_setC (i := 2) (ts := ["one", "other"]) (fs := [(1, "left")]) scUnb.nd rfl (Or.inl rfl) rfl (by exact .mk' rfl (by rfl) ⟨rfl, rfl, trivial⟩) (pi_list (pv 0))
        (by intros; exact pg_tup rfl (pgs_cons (pg_name (i := 0) (show (["one", "other", "left"] : List Str).Nodup by decide +kernel) rfl (Or.inl rfl)) (pgs_cons (pg_name (i := 1) (show (["one", "other", "left"] : List Str).Nodup by decide +kernel) rfl (Or.inl rfl)) pgs_nil)))
        (by intros; exact pts_one (pt_cmpR (op_inL eq_int_ok dInt_inj (hu_of hr)) (pv 0) (pv 2) (by with_unfolding_all rfl)))
        (by intros; exact pv 1))
      (pss_cons (ps_for PassesOwn.never rfl (pi_list (pv 1)) (pg_name (i := 3) scUnb.nd rfl (Or.inl rfl))
        (pss_one (ps_if (pt_cmpR (op_notInL eq_int_ok dInt_inj (hu_of hr)) (pv 3) (pv 2) (by with_unfolding_all rfl)) (pss_one (ps_ret (pv 3))) pss_nil)))
      (pss_one (ps_ret pe_non))), ?_⟩
    have hlx := Paired.length px
    refine ⟨_, rfl, a, rfl, ⟨xs, hx⟩, fun l hl => comp_list' (xs := xs) (fun i acc H' => Same H H' ∧ H' l = some (.lst acc) ∧ acc = ((W.take i).filter fun b => decide (b.1 ∈ left)).map fun b => V.int b.2)
      ⟨same_upd hl, upd_same, rfl⟩ (fun i acc H' _ ⟨s1, h1, _⟩ => ⟨s1.seq hx, h1⟩) ?_ ?_⟩
    · rintro i x acc H' hi hlt ⟨s1, h1, hacc⟩
      obtain ⟨b, hb, q, rfl, hq⟩ := paired_get px hi
      have hz : acc.length ≤ 100 := by
        rw [hacc, List.length_map]
        have := List.length_filter_le (fun b : Int × Int => decide (b.1 ∈ left)) (W.take i)
        rw [List.length_take] at this
        (first | lia | omega)
      have key := take_filter_succ (fun b : Int × Int => decide (b.1 ∈ left)) hb
      refine ⟨small1000 (by (first | lia | omega)), q, _, rfl, SqT.of (s1 _ _ hq), rfl, _, _, rfl, _, _, rfl, rfl, ⟨rfl, rfl⟩, ?_⟩
      refine ⟨_, rfl, _, rfl, la, _, b.1, left, rfl, .inl (s1.seq hL), rfl, paired_ints left, _, rfl, ite2 (fun hb' => ?_) (fun hb' => ?_)⟩
      · rw [if_pos hb'] at key
        refine ⟨_, rfl, h1, Nx.mk hlt ⟨same_upd' s1 hl, upd_same, ?_⟩⟩
        rw [key, List.map_append, hacc]
        rfl
      · rw [if_neg hb', List.append_nil] at key
        exact Nx.mk hlt ⟨s1, h1, by rw [key]; exact hacc⟩
    · rintro acc H1 ⟨s1, h1, hacc⟩
      rw [List.take_of_length_le (by (first | lia | omega))] at hacc
      have hacc' : acc = (beatenM W left).map V.int := by rw [hacc]; unfold beatenM; rw [List.map_map]; rfl
      subst hacc'
      refine ⟨_, rfl, la, rfl, ⟨_, s1.seq hL⟩, for_list (K := K) (a := la) (xs := left.map V.int) (fun i σ H' => ∃ v3, σ = [some (.ref a), some (.ref la), some (.ref l), v3] ∧ H' = H1 ∧ ∀ t ∈ left.take i, t ∈ beatenM W left)
        ⟨none, rfl, rfl, fun t z => by cases z⟩ (fun i σ H' _ ⟨_, _, e, _⟩ => by rw [e]; exact s1.seq hL) ?_ ?_⟩
      · rintro i x σ H' hi ⟨v3, rfl, rfl, hall⟩
        obtain ⟨t, ht, rfl⟩ := map_get hi
        refine ⟨_, rfl, _, rfl, l, _, t, beatenM W left, rfl, .inl (SqL.of h1), rfl, paired_ints _, _, rfl, ite2 (fun hn => ?_) (fun hn => ?_)⟩
        · have e : firstUnb W left = some t := find_at ht hn fun x hx => by
            have := hall x hx
            rw [decide_eq_true this]
            exact Bool.false_ne_true
          have z := k H' s1
          rw [e] at z
          exact ⟨_, rfl, z⟩
        · refine ⟨_, rfl, rfl, fun x hx => ?_⟩
          rcases take_succ_mem ht hx with z | rfl
          · exact hall x z
          · simpa using hn
      · rintro σ H' ⟨v3, rfl, rfl, hall⟩
        have e : firstUnb W left = none := List.find?_eq_none.mpr fun x hx => by
          have := hall x (by rw [List.take_of_length_le (by rw [List.length_map]; (first | lia | omega))]; exact hx)
          rw [decide_eq_true this]
          exact Bool.false_ne_true
        have z := k H' s1
        rw [e] at z
        exact z
end
end Bm
namespace Bm
open PySem L2
section
variable {P : Program} {w : World} {K : PySem.W.Frag} {mg : Str → Option Value} {base : Heap}
theorem scOrdered : FnScope ["many", "web", "order", "left", "thing"] ["many", "web"] (defScope sOrdered) := ⟨rfl, rfl, rfl, by decide +kernel, rfl, by decide +kernel, by decide +kernel⟩
def ordInv (n : Int) (a : Addr) (W : List (Int × Int)) (H : Hp) (od lf : Addr) (m : Nat) (σ : St) (H' : Hp) : Prop := ∃ (o : List Int) (v : Option V), σ = [some (.int n), some (.ref a), some (.ref od), some (.ref lf), v] ∧ Same H H' ∧
  H' od = some (.lst (o.map V.int)) ∧ H' lf = some (.lst ((cands n o).map V.int)) ∧ (cands n o).length = m ∧ o.length + m = n.toNat ∧ greedy n W m o = orderedM n W
theorem ok_ordered (d : Def K mg "ordered" sOrdered ["many", "web"]) (B : Blt mg) (dW : Def K mg "check_web" sCheckWeb ["many", "web"]) (GW : FnOk P w K mg base CX0 2 dW.f dW.fd ["many", "web"] (spCheckWeb K))
    (dU : Def K mg "first_unbeaten" sUnb ["web", "left"]) (GU : FnOk P w K mg base CX0 1 dU.f dU.fd ["web", "left"] (spUnb K)) : FnOk P w K mg base CX0 3 d.f d.fd ["many", "web"] (spOrdered K) := by
  refine d.F.ok scOrdered (fun vs H Q E h => ?_) (fun cdv A outer s H vs Q E hr h => ?_)
  · obtain ⟨n, a, W, rfl, _⟩ := h
    rfl
  · obtain ⟨n, a, W, rfl, h1, h6, hW, g, kN, kS⟩ := h
    refine ⟨_, pss_cons (ps_expr (pe_call GW hr (by rfl) dW.mgf dW.F.kp dW.b .nil pass0 (pa_cons (pv 0) (pa_cons (pv 1) pa_nil))))
      (pss_cons (ps_set (i := 2) scOrdered.nd rfl (Or.inl rfl) (pe_lst pa_nil))
      (pss_cons (ps_set (i := 3) scOrdered.nd rfl (Or.inl rfl) (pe_callTy (call_list_rng rfl) (by rfl) B.list PyProof.Rows.boot_list (pa_cons (pe_callTy call_range (by rfl) B.range PyProof.Rows.boot_range (pa_cons (pv 0) pa_nil)) pa_nil)))
      (pss_cons (ps_while PassesOwn.never (pt_cmpR op_gt (pe_callB call_len_seq (by rfl) B.len PySem.boot_len (pa_cons (pv 3) pa_nil)) pe_int (nomark _))
        (pss_cons (ps_set (i := 4) scOrdered.nd rfl (Or.inl rfl) (pe_call GU (hr.mono (by decide)) (by rfl) dU.mgf dU.F.kp dU.b .nil pass0 (pa_cons (pv 1) (pa_cons (pv 3) pa_nil))))
        (pss_cons (ps_if (pt_cmpR op_isN (pv 4) pe_non (nomark _)) (pss_one (ps_ret pe_non)) pss_nil)
        (pss_cons (ps_expr (pe_bm PySem.F.plainAttrs_list PySem.F.slot_list_append PySem.F.type_list_append mt_append (pv 2) (pa_cons (pv 4) pa_nil)))
        (pss_one (ps_expr (pe_bm PySem.F.plainAttrs_list PySem.F.slot_list_remove PySem.F.type_list_remove mt_removeI (pv 3) (pa_cons (pv 4) pa_nil))))))))
      (pss_one (ps_ret (pe_callTy call_tuple_of (by rfl) B.tuple PyProof.Rows.boot_tuple (pa_cons (pv 2) pa_nil))))))), ?_⟩
    refine ⟨_, rfl, _, rfl, n, a, W, rfl, h1, h6, hW, g, fun H1 s1 => ?_⟩
    refine ⟨Nat.zero_le _, fun od hod => ?_⟩
    have fod : H od = none := s1.free hod
    refine ⟨_, rfl, n, rfl, fun p hp => ⟨p, 0, n, rfl, upd_same, ⟨by (first | lia | omega), by (first | lia | omega), by (first | lia | omega), by (first | lia | omega)⟩, by (first | lia | omega), fun lf hlf => ?_⟩⟩
    rw [things_eq]
    have s2 : Same H1 (upd (upd (upd H1 od (.lst [])) p (.rng 0 n)) lf (.lst ((rangeI n).map V.int))) := ((same_upd hod).trans (same_upd hp)).trans (same_upd hlf)
    have hod2 : (upd (upd (upd H1 od (.lst [])) p (.rng 0 n)) lf (.lst ((rangeI n).map V.int))) od = some (.lst []) := ((same_upd hp).trans (same_upd hlf)) _ _ upd_same
    have flf : H lf = none := (s1.trans ((same_upd hod).trans (same_upd hp))).free hlf
    have hne : lf ≠ od := (ne_of_none (((same_upd hp)) _ _ upd_same) hlf).symm
    refine ⟨ordInv n a W H od lf, ⟨n.toNat, [], _, rfl, s1.trans s2, hod2, by rw [cands_nil]; exact upd_same, by rw [cands_nil]; exact rangeK_len _, by rw [List.length_nil]; (first | lia | omega), rfl⟩, ?_⟩
    rintro m σ H2 ⟨o, v, rfl, s3, ho, hl, hm, hlen, hg⟩
    refine ⟨_, rfl, lf, _, rfl, .inl (SqL.of hl), _, _, rfl, rfl, _, rfl, ite2 (fun hb => ?_) (fun hb => ?_)⟩
    · have hb' : (0 : Int) < (((cands n o).map V.int).length : Int) := of_decide_eq_true hb
      rw [List.length_map, hm] at hb'
      obtain ⟨m', rfl⟩ : ∃ m', m = m' + 1 := ⟨m - 1, by (first | lia | omega)⟩
      refine ⟨ordInv n a W H od lf m', fun σ' H' z => ⟨m', Nat.lt_succ_self _, z⟩, ?_⟩
      refine ⟨_, rfl, _, rfl, a, W, lf, cands n o, rfl, hW.same s3, Nat.le_trans g.len (by decide), SqL.of hl, fun H3 s4 => ?_⟩
      unfold greedy at hg
      cases e : firstUnb W (cands n o) with
      | none =>
        rw [e] at hg
        exact ⟨_, rfl, rfl, _, rfl, iteP rfl (kN hg.symm H3 (s3.trans s4))⟩
      | some t =>
        rw [e] at hg
        have ht : t ∈ cands n o := List.mem_of_find?_eq_some e
        refine ⟨_, rfl, rfl, _, rfl, iteN (fun z => by cases z) ?_⟩
        have ho3 := s4 _ _ ho
        have hl3 := s4 _ _ hl
        refine ⟨_, rfl, .inl ⟨rfl, _, SqL.of ho3⟩, _, rfl, od, _, _, rfl, rfl, ho3, by rw [List.length_map]; exact small1000 (by (first | lia | omega)), ?_⟩
        have hl4 : (upd H3 od (.lst (o.map V.int ++ [V.int t]))) lf = some (.lst ((cands n o).map V.int)) := by rw [upd_ne hne]; exact hl3
        refine ⟨_, rfl, .inl ⟨rfl, _, SqL.of hl4⟩, _, rfl, lf, cands n o, t, rfl, rfl, hl4, ht, ?_⟩
        have hc : (cands n o).eraseIdx ((cands n o).idxOf t) = cands n (o ++ [t]) := by rw [cands_snoc, List.erase_eq_eraseIdx_of_idxOf rfl]
        have hcl := cands_len ht
        refine ⟨o ++ [t], _, rfl, same_upd' (same_upd' (s3.trans s4) fod) flf, ?_, ?_, by (first | lia | omega), by rw [List.length_append, List.length_singleton]; (first | lia | omega), hg⟩
        · rw [upd_ne hne.symm, upd_same, List.map_append]
          rfl
        · rw [upd_same, hc]
    · have hb' : ¬ (0 : Int) < (((cands n o).map V.int).length : Int) := fun z => hb (decide_eq_true z)
      rw [List.length_map, hm] at hb'
      have em : m = 0 := by (first | lia | omega)
      subst em
      have hg' : orderedM n W = some o := hg.symm
      refine ⟨_, rfl, od, _, rfl, .inl ⟨SqL.of ho, fun t ht => ?_⟩⟩
      exact kS o hg' _ t (same_upd' s3 (s3.free ht)) (s3.free ht) upd_same
end
end Bm
namespace Bm
open PySem L2
section
variable {P : Program} {w : World} {K : PySem.W.Frag} {mg : Str → Option Value} {base : Heap}
theorem scBeaten : FnScope ["web", "thing"] ["web", "thing"] (defScope sBeaten) := ⟨rfl, rfl, rfl, by decide +kernel, rfl, by decide +kernel, by decide +kernel⟩
theorem ok_beaten (d : Def K mg "beaten_by" sBeaten ["web", "thing"]) : FnOk P w K mg base CX0 1 d.f d.fd ["web", "thing"] (spBeaten K) := by
  refine d.F.ok scBeaten (fun vs H Q E h => ?_) (fun cdv A outer s H vs Q E hr h => ?_)
  · obtain ⟨a, W, t, rfl, _⟩ := h
    rfl
  · obtain ⟨a, W, t, rfl, ⟨xs, hx, px⟩, hW, k⟩ := h
    refine ⟨_, pss_one (ps_ret (pe_comp (ts := ["one", "other"]) (fs := [(1, "thing")]) rfl (by exact .mk' rfl (by rfl) ⟨rfl, rfl, trivial⟩) (pi_list (pv 0))
        (by intros; exact pg_tup rfl (pgs_cons (pg_name (i := 0) (show (["one", "other", "thing"] : List Str).Nodup by decide +kernel) rfl (Or.inl rfl)) (pgs_cons (pg_name (i := 1) (show (["one", "other", "thing"] : List Str).Nodup by decide +kernel) rfl (Or.inl rfl)) pgs_nil)))
        (by intros; exact pts_one (pt_cmpR op_eq (pv 0) (pv 2) (nomark _)))
        (by intros; exact pv 1))), ?_⟩
    have hlx := Paired.length px
    refine ⟨_, rfl, a, rfl, ⟨xs, hx⟩, fun l hl => comp_list' (xs := xs) (fun i acc H' => Same H H' ∧ H' l = some (.lst acc) ∧ acc = ((W.take i).filter fun b => decide (b.1 = t)).map fun b => V.int b.2)
      ⟨same_upd hl, upd_same, rfl⟩ (fun i acc H' _ ⟨s1, h1, _⟩ => ⟨s1.seq hx, h1⟩) ?_ ?_⟩
    · rintro i x acc H' hi hlt ⟨s1, h1, hacc⟩
      obtain ⟨b, hb, q, rfl, hq⟩ := paired_get px hi
      have hz : acc.length ≤ 100 := by
        rw [hacc, List.length_map]
        have := List.length_filter_le (fun b : Int × Int => decide (b.1 = t)) (W.take i)
        rw [List.length_take] at this
        (first | lia | omega)
      have key := take_filter_succ (fun b : Int × Int => decide (b.1 = t)) hb
      refine ⟨small1000 (by (first | lia | omega)), q, _, rfl, SqT.of (s1 _ _ hq), rfl, _, _, rfl, _, _, rfl, rfl, ⟨rfl, rfl⟩, ?_⟩
      refine ⟨_, rfl, _, rfl, rfl, _, rfl, ite2 (fun hb' => ?_) (fun hb' => ?_)⟩
      · have hb2 : b.1 = t := by
          have := of_decide_eq_true hb'
          injection this
        rw [if_pos (decide_eq_true hb2)] at key
        refine ⟨_, rfl, h1, Nx.mk hlt ⟨same_upd' s1 hl, upd_same, ?_⟩⟩
        rw [key, List.map_append, hacc]
        rfl
      · have hb2 : ¬ b.1 = t := fun z => hb' (decide_eq_true (by rw [z]))
        rw [if_neg (by rw [decide_eq_false hb2]; exact Bool.false_ne_true), List.append_nil] at key
        exact Nx.mk hlt ⟨s1, h1, by rw [key]; exact hacc⟩
    · rintro acc H1 ⟨s1, h1, hacc⟩
      rw [List.take_of_length_le (by (first | lia | omega))] at hacc
      refine k H1 l s1 hl ?_
      rw [h1, hacc, List.map_map]
      rfl
end
end Bm
namespace Bm
open PySem L2
section
variable {P : Program} {w : World} {K : PySem.W.Frag} {mg : Str → Option Value} {base : Heap}
def kvsOf (R : List Int) : List (Key × V) := R.map fun v => (Sum.inl v, .bl true)
theorem kvs_none {R : List Int} {v : Int} (h : v ∉ R) : valV (kvsOf R) (Sum.inl v) = none := by
  induction R with
  | nil => rfl
  | cons b R ih =>
    show valV ((Sum.inl b, V.bl true) :: kvsOf R) (Sum.inl v) = none
    rw [valV_neg, ih (fun z => h (List.mem_cons_of_mem _ z))]
    intro e
    have e' : (Sum.inl b : Key) = Sum.inl v := e
    injection e' with e'
    exact h (by rw [← e']; exact List.mem_cons_self)
theorem kvs_some {R : List Int} {v : Int} (h : v ∈ R) : valV (kvsOf R) (Sum.inl v) = some (.bl true) := by
  induction R with
  | nil => cases h
  | cons b R ih =>
    show valV ((Sum.inl b, V.bl true) :: kvsOf R) (Sum.inl v) = some (.bl true)
    by_cases e : b = v
    · rw [valV_pos (by rw [e])]
    · rw [valV_neg (fun z => e (by have e' : (Sum.inl b : Key) = Sum.inl v := z; injection e'))]
      exact ih ((List.mem_cons.mp h).elim (fun z => absurd z.symm e) id)
theorem kvs_put {R : List Int} {v : Int} (h : v ∉ R) : putK (kvsOf R) (Sum.inl v) (.bl true) = kvsOf (R ++ [v]) := by
  rw [putK_new _ (kvs_none h)]
  unfold kvsOf
  rw [List.map_append]
  rfl
def dR (H0 : Hp) (la : Addr) : Den (List Int) := fun H ns v => ∃ p, v = .ref p ∧ H0 p = none ∧ p ≠ la ∧ H p = some (.lst (ns.map V.int))
def dF (H0 : Hp) : Den (List Int) := fun H ns v => ∃ p, v = .ref p ∧ H0 p = none ∧ H p = some (.lst (ns.map V.int))
def rfInv (n s : Int) (a : Addr) (W : List (Int × Int)) (H : Hp) (rd : Addr) (m : Nat) (σ : St) (H' : Hp) : Prop := ∃ (k : Nat) (R : List Int) (rows : List (List Int)) (ra : Addr) (xs : List V) (v4 v5 v6 : Option V),
  σ = [some (.ref a), some (.int s), some (.ref ra), some (.ref rd), v4, v5, v6] ∧ m + k = 7 ∧ Same H H' ∧ H' rd = some (.dK (kvsOf R)) ∧ H ra = none ∧ H' ra = some (.lst xs) ∧ Paired (dF H H') rows xs ∧ Lev n W s k R rows
theorem scRingFrom : FnScope ["web", "start", "rows", "reached", "longer", "row", "other"] ["web", "start"] (defScope sRingFrom) := ⟨rfl, rfl, rfl, by decide +kernel, rfl, by decide +kernel, by decide +kernel⟩
theorem ok_ringFrom (d : Def K mg "ring_from" sRingFrom ["web", "start"]) (B : Blt mg) (dB : Def K mg "beaten_by" sBeaten ["web", "thing"]) (GB : FnOk P w K mg base CX0 1 dB.f dB.fd ["web", "thing"] (spBeaten K)) :
    FnOk P w K mg base CX0 2 d.f d.fd ["web", "start"] (spRingFrom K) := by
  refine d.F.ok scRingFrom (fun vs H Q E h => ?_) (fun cdv A outer s H vs Q E hr h => ?_)
  · obtain ⟨a, W, n, s, rfl, _⟩ := h
    rfl
  · obtain ⟨a, W, n, s, rfl, hW, g, h6, hs, kN, kS⟩ := h
    refine ⟨_, pss_cons (ps_set (i := 2) scRingFrom.nd rfl (Or.inl rfl) (pe_lst (pa_cons (pe_lst (pa_cons (pv 1) pa_nil)) pa_nil)))
      (pss_cons (ps_set (i := 3) scRingFrom.nd rfl (Or.inl rfl) (pe_disp (pps_cons (pv 1) pe_bl pps_nil) rfl rfl (fun z => nomatch z) (by decide)))
      (pss_cons (ps_while PassesOwn.never (pt_cmpR op_gt (pe_callB call_len_seq (by rfl) B.len PySem.boot_len (pa_cons (pv 2) pa_nil)) pe_int (nomark _))
        (pss_cons (ps_set (i := 4) scRingFrom.nd rfl (Or.inl rfl) (pe_lst pa_nil))
        (pss_cons (ps_for PassesOwn.never rfl (pi_list (pv 2)) (pg_name (i := 5) scRingFrom.nd rfl (Or.inl rfl))
          (pss_one (ps_for PassesOwn.never rfl (pi_list (pe_call GB hr (by rfl) dB.mgf dB.F.kp dB.b .nil pass0 (pa_cons (pv 0) (pa_cons (pe_ix ix_list (pv 5) (pe_un un_neg pe_int) (fun _ _ => rfl)) pa_nil)))) (pg_name (i := 6) scRingFrom.nd rfl (Or.inl rfl))
            (pss_cons (ps_if (pt_cmpR op_eq (pv 6) (pv 1) (nomark _)) (pss_one (ps_ret (pv 5))) pss_nil)
            (pss_one (ps_if (pt_cmp (pc_dnotin (hu_of hr) (pv 6) (pv 3)))
              (pss_cons (ps_dput (hu_of hr) (pv 3) (pv 6) pe_bl rfl)
              (pss_one (ps_expr (pe_bm PySem.F.plainAttrs_list PySem.F.slot_list_append PySem.F.type_list_append mt_append (pv 4) (pa_cons (pe_op op_cat (pv 5) (pe_lst (pa_cons (pv 6) pa_nil))) pa_nil))))) pss_nil))))))
        (pss_one (ps_set (i := 2) scRingFrom.nd rfl (Or.inl rfl) (pv 4))))))
      (pss_one (ps_ret pe_non)))), ?_⟩
    have small : ∀ {z : Nat}, z ≤ 1000 → z ≤ sizeLine := fun h => Nat.le_of_lt (small1000 h)
    refine ⟨_, rfl, sz1, fun r0 hr0 => ⟨sz1, fun ra hra => ?_⟩⟩
    intro rd hrd
    refine ⟨_, rfl, upd_same, [(Sum.inl s, .bl true)], rfl, (by show 1 ≤ 15; decide), ?_⟩
    have f0 : H r0 = none := hr0
    have f1 : H ra = none := (same_upd hr0).free hra
    have frd : H rd = none := ((same_upd hr0).trans (same_upd hra)).free hrd
    have e1 : (upd (upd (upd (upd H r0 (.lst [V.int s])) ra (.lst [V.ref r0])) rd (.dK [])) rd (.dK (mergeK [] [(Sum.inl s, .bl true)]))) = upd (upd (upd H r0 (.lst [V.int s])) ra (.lst [V.ref r0])) rd (.dK (kvsOf [s])) := by rw [upd_upd]; rfl
    rw [e1]
    refine ⟨rfInv n s a W H rd, ⟨7, 0, [s], [[s]], ra, [.ref r0], _, _, _, rfl, rfl, ((same_upd hr0).trans (same_upd hra)).trans (same_upd hrd), upd_same, f1, (same_upd hrd) _ _ upd_same, .cons ⟨r0, rfl, f0, (same_upd hrd) _ _ ((same_upd hra) _ _ upd_same)⟩ .nil, Lev.start hs⟩, ?_⟩
    rintro m σ H1 ⟨k, R, rows, ra, xs, v4, v5, v6, rfl, hmk, s1, hrd1, fra, hra1, px, L⟩
    have hlx := Paired.length px
    refine ⟨_, rfl, ra, _, rfl, .inl (SqL.of hra1), _, _, rfl, rfl, _, rfl, ite2 (fun hb => ?_) (fun hb => ?_)⟩
    · have hb' : (0 : Int) < (xs.length : Int) := of_decide_eq_true hb
      have hk6 : k + 1 ≤ n.toNat := by
        cases hrw : rows with
        | nil => rw [hrw] at hlx; simp at hlx; (first | lia | omega)
        | cons row _ => exact L.bound (row := row) (by rw [hrw]; exact List.mem_cons_self)
      obtain ⟨m', rfl⟩ : ∃ m', m = m' + 1 := ⟨m - 1, by (first | lia | omega)⟩
      refine ⟨rfInv n s a W H rd m', fun σ' H' z => ⟨m', Nat.lt_succ_self _, z⟩, ?_⟩
      refine ⟨Nat.zero_le _, fun la hla => ?_⟩
      have fla : H la = none := s1.free hla
      have hne : rd ≠ la := ne_of_none hrd1 hla
      have hra2 := (same_upd (o := .lst []) hla) _ _ hra1
      have raRd : ra ≠ rd := ne_of hra1 hrd1 (by intro z; cases z)
      refine ⟨_, rfl, ra, rfl, ⟨_, SqL.of hra2⟩, for_list (K := K) (a := ra) (xs := xs) (fun i σ H' => ∃ (R' : List Int) (longer : List (List Int)) (ls : List V) (v5 v6 : Option V), σ = [some (.ref a), some (.int s), some (.ref ra), some (.ref rd), some (.ref la), v5, v6] ∧
          (∀ b u, H1 b = some u → b ≠ rd → H' b = some u) ∧ H' rd = some (.dK (kvsOf R')) ∧ H' la = some (.lst ls) ∧ Paired (dR H la H') longer ls ∧ Mid n W s k R R' longer ∧ ∀ row ∈ rows.take i, ∀ l, row[k]? = some l → ∀ v, (l, v) ∈ W → v ≠ s ∧ v ∈ R')
        ⟨R, [], [], _, _, rfl, fun b u hu _ => (same_upd hla) _ _ hu, (same_upd hla) _ _ hrd1, upd_same, .nil, Mid.start L, fun row z => by cases z⟩ (fun i σ H' _ ⟨_, _, _, _, _, _, sb, _⟩ => SqL.of (sb _ _ hra1 raRd)) ?_ ?_⟩
      · rintro i x σ H2 hi ⟨R', longer, ls, v5, v6, rfl, sb, hrd2, hla2, pl, M, hd⟩
        obtain ⟨row, hrow, p, rfl, fp, hp⟩ := paired_get px hi
        have hrowm : row ∈ rows := List.mem_of_getElem? hrow
        have rw' := L.row row hrowm
        have hp2 := sb _ _ hp (ne_of hp hrd1 (by intro z; cases z))
        have hkl : k < row.length := by rw [rw'.len]; (first | lia | omega)
        obtain ⟨l, hl⟩ : ∃ l, row[k]? = some l := ⟨row[k], List.getElem?_eq_getElem hkl⟩
        have hlast : atI (row.map V.int) (-1) = some (.int l) := by
          have e : row.map V.int = (row.take k).map V.int ++ [V.int l] := by
            have : row = row.take k ++ [l] := by
              conv => lhs; rw [← List.take_append_drop k row]
              rw [List.drop_eq_getElem_cons hkl, List.drop_of_length_le (by rw [rw'.len]; (first | lia | omega))]
              have := List.getElem?_eq_getElem hkl
              rw [hl] at this
              rw [Option.some.inj this]
            conv => lhs; rw [this, List.map_append]
            rfl
          rw [e]
          exact atI_last _ _
        have sH2 : Same H H2 := fun b u hu => sb _ _ (s1 _ _ hu) (ne_of_none hu frd)
        refine ⟨_, rfl, _, rfl, 1, rfl, p, _, _, _, rfl, rfl, SqL.of hp2, hlast, a, W, l, rfl, hW.same sH2, Nat.le_trans g.len (by decide), fun H3 ba s3 fba hba => ?_⟩
        generalize hout : (W.filter fun b => decide (b.1 = l)).map (·.2) = out at hba
        have out1 : ∀ v, v ∈ out ↔ (l, v) ∈ W := fun v => by
          rw [← hout, List.mem_map]
          constructor
          · rintro ⟨b, hb, rfl⟩
            rw [List.mem_filter] at hb
            have := of_decide_eq_true hb.2
            rw [← this]
            exact hb.1
          · intro h
            exact ⟨(l, v), List.mem_filter.mpr ⟨h, decide_eq_true rfl⟩, rfl⟩
        have baRd : ba ≠ rd := (ne_of_none hrd2 fba).symm
        have baLa : ba ≠ la := (ne_of_none hla2 fba).symm
        refine ⟨ba, rfl, ⟨_, SqL.of hba⟩, for_list (K := K) (a := ba) (xs := out.map V.int) (fun j σ H' => ∃ (R' : List Int) (longer : List (List Int)) (ls : List V) (v6 : Option V), σ = [some (.ref a), some (.int s), some (.ref ra), some (.ref rd), some (.ref la), some (.ref p), v6] ∧
            (∀ b u, H1 b = some u → b ≠ rd → H' b = some u) ∧ H' ba = some (.lst (out.map V.int)) ∧ H' rd = some (.dK (kvsOf R')) ∧ H' la = some (.lst ls) ∧ Paired (dR H la H') longer ls ∧ Mid n W s k R R' longer ∧
            (∀ row ∈ rows.take i, ∀ l, row[k]? = some l → ∀ v, (l, v) ∈ W → v ≠ s ∧ v ∈ R') ∧ ∀ v ∈ out.take j, v ≠ s ∧ v ∈ R')
          ⟨R', longer, ls, _, rfl, fun b u hu hb => s3 _ _ (sb b u hu hb), hba, s3 _ _ hrd2, s3 _ _ hla2, pd_same (fun _ _ ⟨q, e, f, n1, z⟩ => ⟨q, e, f, n1, s3 _ _ z⟩) pl, M, hd, fun v z => by cases z⟩ (fun j σ H' _ ⟨_, _, _, _, _, _, z, _⟩ => SqL.of z) ?_ ?_⟩
        · rintro j x σ H4 hj ⟨R', longer, ls, v6, rfl, sb, hba4, hrd4, hla4, pl, M, hd, hv⟩
          obtain ⟨v, hjv, rfl⟩ := map_get hj
          have hlv : (l, v) ∈ W := (out1 v).mp (List.mem_of_getElem? hjv)
          have hp4 := sb _ _ hp (ne_of hp hrd1 (by intro z; cases z))
          have sH4 : Same H H4 := fun b u hu => sb _ _ (s1 _ _ hu) (ne_of_none hu frd)
          refine ⟨_, rfl, _, rfl, rfl, _, rfl, ite2 (fun hb => ?_) (fun hb => ?_)⟩
          · have e : v = s := by
              have := of_decide_eq_true hb
              injection this
            subst e
            exact ⟨_, rfl, kS row (L.ring hrowm hl hlv) H4 p sH4 fp hp4⟩
          · have hvs : v ≠ s := fun e => hb (decide_eq_true (by rw [e]))
            refine ⟨_, rfl, _, rfl, rd, _, rfl, DGet.k (k := Sum.inl v) hrd4, _, rfl, ?_⟩
            by_cases hvR : v ∈ R'
            · rw [kvs_some hvR]
              refine iteF ?_
              refine ⟨R', longer, ls, _, rfl, sb, hba4, hrd4, hla4, pl, M, hd, fun x hx => ?_⟩
              rcases take_succ_mem hjv hx with z | rfl
              · exact hv x z
              · exact ⟨hvs, hvR⟩
            · rw [kvs_none hvR]
              refine iteT ?_
              have hsz := M.size
              refine ⟨_, rfl, _, rfl, rd, _, rfl, DPut.k (k := Sum.inl v) hrd4 (by unfold kvsOf; rw [List.length_map]; exact small1000 (by (first | lia | omega))), ?_⟩
              rw [kvs_put hvR]
              have laRd : la ≠ rd := hne.symm
              have pRd : p ≠ rd := ne_of hp hrd1 (by intro z; cases z)
              have hla5 : (upd H4 rd (.dK (kvsOf (R' ++ [v])))) la = some (.lst ls) := by rw [upd_ne laRd]; exact hla4
              have hp5 : (upd H4 rd (.dK (kvsOf (R' ++ [v])))) p = some (.lst (row.map V.int)) := by rw [upd_ne pRd]; exact hp4
              refine ⟨_, rfl, .inl ⟨rfl, _, SqL.of hla5⟩, _, rfl, _, rfl, sz1, fun q hq => ?_⟩
              have hlsl := Paired.length pl
              have hcnt := M.cnt
              have hp6 := (same_upd (o := .lst [V.int v]) hq) _ _ hp5
              refine ⟨p, q, _, _, rfl, rfl, hp6, upd_same, small (by rw [List.length_map, List.length_singleton, rw'.len]; (first | lia | omega)), fun z hz => ?_⟩
              have hla6 := (same_upd (o := .lst (row.map V.int ++ [V.int v])) hz) _ _ ((same_upd (o := .lst [V.int v]) hq) _ _ hla5)
              refine ⟨la, ls, _, rfl, rfl, hla6, small1000 (by (first | lia | omega)), ?_⟩
              have keep : ∀ b u, H4 b = some u → b ≠ rd → b ≠ la → (upd (upd (upd (upd H4 rd (.dK (kvsOf (R' ++ [v])))) q (.lst [V.int v])) z (.lst (row.map V.int ++ [V.int v]))) la (.lst (ls ++ [V.ref z]))) b = some u := fun b u hu n1 n2 => by
                rw [upd_ne n2]
                exact (same_upd hz) _ _ ((same_upd hq) _ _ (by rw [upd_ne n1]; exact hu))
              have hzl : z ≠ la := (ne_of_none ((same_upd (o := .lst [V.int v]) hq) _ _ hla5) hz).symm
              have hH5 : Same H (upd H4 rd (.dK (kvsOf (R' ++ [v])))) := same_upd' sH4 frd
              have fq : H q = none := hH5.free hq
              have fz : H z = none := (same_upd' hH5 fq).free hz
              refine ⟨R' ++ [v], longer ++ [row ++ [v]], ls ++ [.ref z], _, rfl, fun b u hu hb => keep b u (sb b u hu hb) hb (ne_of_none hu hla), keep _ _ hba4 baRd baLa, ?_, upd_same, ?_, M.add g rw' hl hlv hvR, ?_, ?_⟩
              · rw [upd_ne hne]
                exact (same_upd hz) _ _ ((same_upd hq) _ _ upd_same)
              · refine pd_append (pd_same (fun _ _ ⟨c, e, f, n1, zc⟩ => ⟨c, e, f, n1, keep _ _ zc (ne_of zc hrd4 (by intro z; cases z)) n1⟩) pl) (.cons ⟨z, rfl, fz, hzl, ?_⟩ .nil)
                rw [upd_ne hzl, upd_same, List.map_append]
                rfl
              · intro row' hr' l' hl' v' hv'
                obtain ⟨z1, z2⟩ := hd row' hr' l' hl' v' hv'
                exact ⟨z1, List.mem_append_left _ z2⟩
              · intro x hx
                rcases take_succ_mem hjv hx with z | rfl
                · obtain ⟨z1, z2⟩ := hv x z
                  exact ⟨z1, List.mem_append_left _ z2⟩
                · exact ⟨hvs, List.mem_append_right _ List.mem_cons_self⟩
        · rintro σ H4 ⟨R', longer, ls, v6, rfl, sb, hba4, hrd4, hla4, pl, M, hd, hv⟩
          refine ⟨R', longer, ls, _, _, rfl, sb, hrd4, hla4, pl, M, fun row' hr' l' hl' v' hv' => ?_⟩
          rcases take_succ_mem hrow hr' with z | rfl
          · exact hd row' z l' hl' v' hv'
          · rw [hl] at hl'
            cases hl'
            exact hv v' (by rw [List.take_of_length_le (by rw [List.length_map]; (first | lia | omega))]; exact (out1 v').mpr hv')
      · rintro σ H4 ⟨R', longer, ls, v5, v6, rfl, sb, hrd4, hla4, pl, M, hd⟩
        have sH4 : Same H H4 := fun b u hu => sb _ _ (s1 _ _ hu) (ne_of_none hu frd)
        exact ⟨_, rfl, k + 1, R', longer, la, ls, _, _, _, rfl, by (first | lia | omega), sH4, hrd4, fla, hla4, Paired.mapP pl (fun _ _ ⟨c, e, f, _, z⟩ => ⟨c, e, f, z⟩), L.next M fun row hr => hd row (by rw [List.take_of_length_le (by (first | lia | omega))]; exact hr)⟩
    · have e : rows = [] := List.eq_nil_of_length_eq_zero (by
        have hb' : ¬ (0 : Int) < (xs.length : Int) := fun z => hb (decide_eq_true z)
        (first | lia | omega))
      subst e
      exact kN L.done H1 s1
end
end Bm
namespace Bm
open PySem L2
section
variable {P : Program} {w : World} {K : PySem.W.Frag} {mg : Str → Option Value} {base : Heap}
def bestOk (n : Int) (W : List (Int × Int)) (H : Hp) (i : Nat) (bv : V) (H' : Hp) : Prop := (bv = .non ∧ ∀ s ∈ rangeK i, ∀ m, ¬ Walk W (m + 1) s s) ∨
  (∃ (p : Addr) (r : List Int), bv = .ref p ∧ H p = none ∧ H' p = some (.lst (r.map V.int)) ∧ RingOk W r ∧ (∃ s, s ∈ rangeI n ∧ Walk W r.length s s) ∧ ∀ s ∈ rangeK i, ∀ m, Walk W (m + 1) s s → r.length ≤ m + 1)
theorem rangeK_snoc {k : Nat} {s : Int} (h : s ∈ rangeK (k + 1)) : s ∈ rangeK k ∨ s = (0 : Int) + (k : Nat) := by
  rw [rangeK_succ] at h
  rcases List.mem_append.mp h with z | z
  · exact .inl z
  · exact .inr (by simpa using z)
theorem scRing : FnScope ["many", "web", "best", "start", "found"] ["many", "web"] (defScope sRing) := ⟨rfl, rfl, rfl, by decide +kernel, rfl, by decide +kernel, by decide +kernel⟩
theorem ok_ring (d : Def K mg "ring" sRing ["many", "web"]) (B : Blt mg) (dW : Def K mg "check_web" sCheckWeb ["many", "web"]) (GW : FnOk P w K mg base CX0 2 dW.f dW.fd ["many", "web"] (spCheckWeb K))
    (dF : Def K mg "ring_from" sRingFrom ["web", "start"]) (GF : FnOk P w K mg base CX0 2 dF.f dF.fd ["web", "start"] (spRingFrom K)) : FnOk P w K mg base CX0 3 d.f d.fd ["many", "web"] (spRing K) := by
  refine d.F.ok scRing (fun vs H Q E h => ?_) (fun cdv A outer s H vs Q E hr h => ?_)
  · obtain ⟨n, a, W, rfl, _⟩ := h
    rfl
  · obtain ⟨n, a, W, rfl, h1, h6, hW, g, kN, kS⟩ := h
    refine ⟨_, pss_cons (ps_expr (pe_call GW hr (by rfl) dW.mgf dW.F.kp dW.b .nil pass0 (pa_cons (pv 0) (pa_cons (pv 1) pa_nil))))
      (pss_cons (ps_set (i := 2) scRing.nd rfl (Or.inl rfl) pe_non)
      (pss_cons (ps_for PassesOwn.never rfl (pi_range1 (by rfl) B.range (pa_cons (pv 0) pa_nil)) (pg_name (i := 3) scRing.nd rfl (Or.inl rfl))
        (pss_cons (ps_cut (ps_set (i := 4) scRing.nd rfl (Or.inl rfl) (pe_call GF hr (by rfl) dF.mgf dF.F.kp dF.b .nil pass0 (pa_cons (pv 1) (pa_cons (pv 3) pa_nil)))))
        (pss_one (ps_if (pw_and (pt_cmpR op_notN (pv 4) pe_non (nomark _)) (pw_and1 (pw_or (pt_cmpR op_isN (pv 2) pe_non (nomark _)) (pw_or1 (pt_cmpR op_lt (pe_callB call_len_seq (by rfl) B.len PySem.boot_len (pa_cons (pv 4) pa_nil)) (pe_callB call_len_seq (by rfl) B.len PySem.boot_len (pa_cons (pv 2) pa_nil)) (nomark _)))).pt)).pt
          (pss_one (ps_set (i := 2) scRing.nd rfl (Or.inl rfl) (pv 4))) pss_nil))))
      (pss_one (ps_ret (pv 2))))), ?_⟩
    refine ⟨_, rfl, _, rfl, n, a, W, rfl, h1, h6, hW, g, fun H0 s0 => ?_⟩
    refine ⟨_, rfl, n, rfl, by (first | lia | omega), by (first | lia | omega), for_range (n := n.toNat) (fun i σ H' => ∃ (bv : V) (v3 v4 : Option V), σ = [some (.int n), some (.ref a), some bv, v3, v4] ∧ Same H H' ∧ bestOk n W H i bv H')
      ⟨.non, _, _, rfl, s0, .inl ⟨rfl, fun s z => by cases z⟩⟩ ?_ ?_⟩
    · rintro i σ H1 hi ⟨bv, v3, v4, rfl, s1, hbest⟩
      have hsr : (0 : Int) + (i : Nat) ∈ rangeI n := rangeI_mem (by (first | lia | omega)) (by (first | lia | omega))
      refine ⟨fun σ' H' => ∃ fv : V, σ' = [some (.int n), some (.ref a), some bv, some (.int ((0 : Int) + (i : Nat))), some fv] ∧ Same H1 H' ∧
        ((fv = .non ∧ ∀ m, ¬ Walk W (m + 1) ((0 : Int) + (i : Nat)) ((0 : Int) + (i : Nat))) ∨ ∃ (p : Addr) (r : List Int), fv = .ref p ∧ H p = none ∧ H' p = some (.lst (r.map V.int)) ∧ Found W ((0 : Int) + (i : Nat)) r), ?_, ?_⟩
      · refine ⟨_, rfl, _, rfl, a, W, n, _, rfl, hW.same s1, g, h6, hsr, fun hno H2 s2 => ?_, fun r hF H2 p s2 fp hp => ?_⟩
        · exact ⟨.non, rfl, s2, .inl ⟨rfl, hno⟩⟩
        · exact ⟨.ref p, rfl, s2, .inr ⟨p, r, rfl, s1.free fp, hp, hF⟩⟩
      · rintro σ' H2 ⟨fv, rfl, s2, hfv⟩
        have keepBest : bestOk n W H i bv H2 := by
          rcases hbest with z | ⟨p, r, e, fp, hp, z⟩
          · exact .inl z
          · exact .inr ⟨p, r, e, fp, s2 _ _ hp, z⟩
        rcases hfv with ⟨rfl, hno⟩ | ⟨p, r, rfl, fp, hp, hF⟩
        · refine ⟨_, rfl, rfl, _, rfl, iteNS rfl ?_⟩
          refine iteF ?_
          refine ⟨bv, _, _, rfl, s1.trans s2, ?_⟩
          rcases keepBest with ⟨e, z⟩ | ⟨p, r, e, fp, hp, h1, h2, z⟩
          · refine .inl ⟨e, fun s hs => ?_⟩
            rcases rangeK_snoc hs with q | rfl
            · exact z s q
            · exact hno
          · refine .inr ⟨p, r, e, fp, hp, h1, h2, fun s hs m wk => ?_⟩
            rcases rangeK_snoc hs with q | rfl
            · exact z s q m wk
            · exact absurd wk (hno m)
        · refine ⟨_, rfl, rfl, _, rfl, iteNN (fun z => by cases z) ?_⟩
          rcases keepBest with ⟨rfl, z⟩ | ⟨p', r', rfl, fp', hp', q1, q2, z⟩
          · refine ⟨_, rfl, rfl, _, rfl, iteP rfl ?_⟩
            refine iteT ?_
            refine ⟨_, rfl, .ref p, _, _, rfl, s1.trans s2, .inr ⟨p, r, rfl, fp, hp, hF.ring, ⟨_, hsr, hF.walk⟩, fun s hs m wk => ?_⟩⟩
            rcases rangeK_snoc hs with q | rfl
            · exact absurd wk (z s q m)
            · exact hF.least m wk
          · refine ⟨_, rfl, rfl, _, rfl, iteN (fun z => by cases z) ?_⟩
            refine ⟨_, rfl, p, _, rfl, .inl (SqL.of hp), _, rfl, p', _, rfl, .inl (SqL.of hp'), _, _, rfl, rfl, _, rfl, ite2 (fun hb => ?_) (fun hb => ?_)⟩
            · have hb' : ((r.map V.int).length : Int) < ((r'.map V.int).length : Int) := of_decide_eq_true hb
              rw [List.length_map, List.length_map] at hb'
              refine ⟨_, rfl, .ref p, _, _, rfl, s1.trans s2, .inr ⟨p, r, rfl, fp, hp, hF.ring, ⟨_, hsr, hF.walk⟩, fun s hs m wk => ?_⟩⟩
              rcases rangeK_snoc hs with q | rfl
              · have := z s q m wk
                (first | lia | omega)
              · exact hF.least m wk
            · have hb' : ¬ ((r.map V.int).length : Int) < ((r'.map V.int).length : Int) := fun z => hb (decide_eq_true z)
              rw [List.length_map, List.length_map] at hb'
              refine ⟨.ref p', _, _, rfl, s1.trans s2, .inr ⟨p', r', rfl, fp', hp', q1, q2, fun s hs m wk => ?_⟩⟩
              rcases rangeK_snoc hs with q | rfl
              · exact z s q m wk
              · have := hF.least m wk
                (first | lia | omega)
    · rintro σ H1 ⟨bv, v3, v4, rfl, s1, hbest⟩
      rcases hbest with ⟨rfl, z⟩ | ⟨p, r, rfl, fp, hp, q1, q2, z⟩
      · exact ⟨_, rfl, kN z H1 s1⟩
      · exact ⟨_, rfl, kS r ⟨q1, q2, z⟩ H1 p s1 fp hp⟩
end
end Bm
namespace Bm
open PySem L2
def spOut : Sp := fun vs H Q _ => ∃ now wished : Int, vs = [.int now, .int wished] ∧ ∀ H', Same H H' → Q (.bl (outB now wished)) H'
section
variable {P : Program} {w : World} {K : PySem.W.Frag} {mg : Str → Option Value} {base : Heap}
theorem sc_law_out : FnScope ["now", "wished"] ["now", "wished"] (defScope sLawOut) := ⟨rfl, rfl, rfl, by decide +kernel, rfl, by decide +kernel, by decide +kernel⟩
theorem ok_lawOut (d : Def K mg "_law_out" sLawOut ["now", "wished"]) (B : Blt mg) : FnOk P w K mg base CX0 1 d.f d.fd ["now", "wished"] spOut := by
  refine d.F.ok sc_law_out (fun vs H Q E h => ?_) (fun cdv A outer s H vs Q E hr h => ?_)
  · obtain ⟨now, wished, rfl, _⟩ := h
    rfl
  · obtain ⟨now, wished, rfl, k⟩ := h
    refine ⟨_, pss_cons (ps_if (pt_cmpR op_eq (pv 1) pe_int (nomark _)) (pss_one (ps_ret (pe_cmpR (op_notInL eq_int_ok dInt_inj (hu_of hr)) (pv 0) (pe_lst (pa_cons pe_int (pa_cons (pe_un un_neg pe_int) pa_nil))) (by with_unfolding_all rfl)))) pss_nil)
      (pss_one (ps_ret (pe_cmpR op_lt (pe_ix ix_list (pe_lst (pa_cons (pv 0) (pa_cons (pe_un un_neg (pv 0)) pa_nil))) (pe_callTy call_int1 (by rfl) B.int PyProof.Rows.boot_int (pa_cons (pe_cmpR op_lt (pv 1) pe_int (nomark _)) pa_nil)) (fun _ _ => rfl)) pe_int (nomark _)))), ?_⟩
    refine ⟨_, rfl, rfl, _, rfl, ite2 (fun hb => ?_) (fun hb => ?_)⟩
    · have e : wished = 0 := by
        have := of_decide_eq_true hb
        injection this
      refine ⟨_, rfl, 1, rfl, sz2, fun l fl => ?_⟩
      refine ⟨l, _, now, [1, -1], rfl, .inl (SqL.of upd_same), rfl, paired_ints _, ?_⟩
      have z := k _ (same_upd (o := .lst [.int 1, .int (-1)]) fl)
      have e2 : outB now wished = !decide (now ∈ ([1, -1] : List Int)) := by
        unfold outB
        rw [if_pos e]
        by_cases h1 : now = 1
        · simp [h1]
        · by_cases h2 : now = -1
          · simp [h2]
          · simp [h1, h2]
      rw [e2] at z
      exact z
    · have e : ¬ wished = 0 := fun z => hb (decide_eq_true (by rw [z]))
      refine ⟨_, rfl, _, rfl, now, rfl, sz2, fun l fl => ?_⟩
      refine ⟨_, rfl, _, _, rfl, rfl, .inr ⟨_, rfl, ?_⟩⟩
      by_cases hw : wished < 0
      · refine ⟨l, _, 1, .int (-now), rfl, (by rw [decide_eq_true hw]; rfl), SqL.of upd_same, atI_nat (j := 1) rfl, _, _, rfl, rfl, ?_⟩
        have z := k _ (same_upd (o := .lst [.int now, .int (-now)]) fl)
        unfold outB at z
        rw [if_neg e, if_pos hw] at z
        exact z
      · refine ⟨l, _, 0, .int now, rfl, (by rw [decide_eq_false hw]; rfl), SqL.of upd_same, atI_nat (j := 0) rfl, _, _, rfl, rfl, ?_⟩
        have z := k _ (same_upd (o := .lst [.int now, .int (-now)]) fl)
        unfold outB at z
        rw [if_neg e, if_neg hw] at z
        exact z
end
end Bm
namespace Bm
open PySem L2
def spWish (K : PySem.W.Frag) : Sp := fun vs H Q _ => ∃ (a : Addr) (W : List (Int × Int)) (x y : Int), vs = [.ref a, .int x, .int y] ∧ WAt K H a W ∧ ∀ H', Same H H' → Q (.int (netM W x y)) H'
section
variable {P : Program} {w : World} {K : PySem.W.Frag} {mg : Str → Option Value} {base : Heap}
theorem net_one (W : List (Int × Int)) (x y : Int) {i1 : Decidable ((x, y) ∈ W)} {i2 : Decidable ((y, x) ∈ W)} : (if @decide _ i1 = true then (1 : Int) else 0) - (if @decide _ i2 = true then 1 else 0) = netM W x y := by
  unfold netM
  by_cases h1 : (x, y) ∈ W <;> by_cases h2 : (y, x) ∈ W <;> simp [h1, h2]
theorem sc_law_wish : FnScope ["web", "one", "other"] ["web", "one", "other"] (defScope sLawWish) := ⟨rfl, rfl, rfl, by decide +kernel, rfl, by decide +kernel, by decide +kernel⟩
theorem ok_lawWish (d : Def K mg "_law_wish" sLawWish ["web", "one", "other"]) (B : Blt mg) : FnOk P w K mg base CX0 1 d.f d.fd ["web", "one", "other"] (spWish K) := by
  refine d.F.ok sc_law_wish (fun vs H Q E h => ?_) (fun cdv A outer s H vs Q E hr h => ?_)
  · obtain ⟨a, W, x, y, rfl, _⟩ := h
    rfl
  · obtain ⟨a, W, x, y, rfl, ⟨ws, hw, pw⟩, k⟩ := h
    refine ⟨_, pss_one (ps_ret (pe_op op_sub (pe_callTy call_int1 (by rfl) B.int PyProof.Rows.boot_int (pa_cons (pe_cmpR (op_inL eq_dP_ok dP_inj (hu2_of hr)) (pe_tup (pa_cons (pv 1) (pa_cons (pv 2) pa_nil))) (pv 0) (by with_unfolding_all rfl)) pa_nil)) (pe_callTy call_int1 (by rfl) B.int PyProof.Rows.boot_int (pa_cons (pe_cmpR (op_inL eq_dP_ok dP_inj (hu2_of hr)) (pe_tup (pa_cons (pv 2) (pa_cons (pv 1) pa_nil))) (pv 0) (by with_unfolding_all rfl)) pa_nil)))), ?_⟩
    refine ⟨_, rfl, _, rfl, sz2, fun t1 ft1 => ?_⟩
    have u1 := same_upd (o := .tup [.int x, .int y]) ft1
    refine ⟨_, rfl, a, ws, (x, y), W, rfl, .inl (u1.seq hw), ⟨t1, rfl, upd_same⟩, pd_same (dP_same u1) pw, .inr ⟨_, rfl, ?_⟩⟩
    refine ⟨_, rfl, _, rfl, sz2, fun t2 ft2 => ?_⟩
    have u2 := same_upd (o := .tup [.int y, .int x]) ft2
    refine ⟨_, rfl, a, ws, (y, x), W, rfl, .inl ((u1.trans u2).seq hw), ⟨t2, rfl, upd_same⟩, pd_same (dP_same (u1.trans u2)) pw, .inr ⟨_, rfl, _, _, rfl, rfl, ?_⟩⟩
    have z := k _ (u1.trans u2)
    rw [← net_one W x y] at z
    exact z
end
end Bm
namespace Bm
open PySem L2
def spTurned : Sp := fun vs H Q _ => ∃ (n : Int) (p : Addr) (xs : List V) (W : List (Int × Int)) (c : Int), vs = [.ref p, .int n, .int c] ∧ 1 ≤ n ∧ n ≤ 6 ∧ H p = some (.lst xs) ∧ Paired (dP H) W xs ∧ Good n W ∧ W.length ≤ 36 ∧
  ∀ H' q ys W', Same H H' → H' q = some (.lst ys) → Paired (dP H') W' ys → Good n W' → Q (.ref q) H'
theorem Good.sub {n : Int} {W : List (Int × Int)} (g : Good n W) (p : Int × Int → Bool) : Good n (W.filter p) :=
  ⟨fun b hb => g.rng b (List.mem_filter.mp hb).1, fun b hb => g.irr b (List.mem_filter.mp hb).1, g.nodup.filter _, fun b hb z => g.asym b (List.mem_filter.mp hb).1 (List.mem_filter.mp z).1, Nat.le_trans (List.length_filter_le _ _) g.len⟩
theorem Good.snoc {n : Int} {W : List (Int × Int)} (g : Good n W) {x y : Int} (hx : 0 ≤ x ∧ x < n) (hy : 0 ≤ y ∧ y < n) (hne : x ≠ y) (h1 : (x, y) ∉ W) (h2 : (y, x) ∉ W) (hl : W.length ≤ 39) : Good n (W ++ [(x, y)]) := by
  refine ⟨fun b hb => ?_, fun b hb => ?_, ?_, fun b hb z => ?_, by rw [List.length_append, List.length_singleton]; (first | lia | omega)⟩
  · rcases List.mem_append.mp hb with z | z
    · exact g.rng b z
    · rw [List.mem_singleton.mp z]; exact ⟨hx, hy⟩
  · rcases List.mem_append.mp hb with z | z
    · exact g.irr b z
    · rw [List.mem_singleton.mp z]; exact hne
  · rw [List.nodup_append]
    refine ⟨g.nodup, by simp, fun a ha b hb e => ?_⟩
    rw [List.mem_singleton.mp hb] at e
    exact h1 (e ▸ ha)
  · rcases List.mem_append.mp hb with w | w
    · rcases List.mem_append.mp z with z | z
      · exact g.asym b w z
      · have e := List.mem_singleton.mp z
        have e1 : b.2 = x := congrArg Prod.fst e
        have e2 : b.1 = y := congrArg Prod.snd e
        exact h2 (by rw [← e1, ← e2]; exact w)
    · have e := List.mem_singleton.mp w
      rcases List.mem_append.mp z with z | z
      · rw [e] at z; exact h2 z
      · have := List.mem_singleton.mp z
        rw [e] at this
        exact hne (congrArg Prod.snd this)
section
variable {P : Program} {w : World} {K : PySem.W.Frag} {mg : Str → Option Value} {base : Heap}
theorem sc_law_turned : FnScope ["web", "many", "cell", "one", "other", "rest"] ["web", "many", "cell"] (defScope sTurned) := ⟨rfl, rfl, rfl, by decide +kernel, rfl, by decide +kernel, by decide +kernel⟩
theorem ok_lawTurned (d : Def K mg "_law_turned" sTurned ["web", "many", "cell"]) (B : Blt mg) : FnOk P w K mg base CX0 1 d.f d.fd ["web", "many", "cell"] spTurned := by
  refine d.F.ok sc_law_turned (fun vs H Q E h => ?_) (fun cdv A outer s H vs Q E hr h => ?_)
  · obtain ⟨n, p, xs, W, c, rfl, _⟩ := h
    rfl
  · obtain ⟨n, p, xs, W, c, rfl, h1, h6, hp, px, g, hWl, k⟩ := h
    refine ⟨_, pss_cons (ps_if (pt_cmpR op_eq (pv 1) pe_int (nomark _)) (pss_one (ps_ret (pv 0))) pss_nil)
      (pss_cons (ps_set (i := 3) sc_law_turned.nd rfl (Or.inr rfl) (pe_op op_mod (pe_op op_fdiv (pv 2) pe_int) (pv 1)))
      (pss_cons (ps_set (i := 4) sc_law_turned.nd rfl (Or.inr rfl) (pe_op op_mod (pe_op op_add (pe_op op_add (pv 3) pe_int) (pe_op op_mod (pe_op op_fdiv (pv 2) pe_int) (pe_op op_sub (pv 1) pe_int))) (pv 1)))
      (pss_cons (ps_setC (i := 5) (ts := ["beat"]) (fs := [(3, "one"), (4, "other")]) sc_law_turned.nd rfl (Or.inl rfl) rfl (by exact .mk' rfl (by rfl) ⟨rfl, rfl, rfl, rfl, trivial⟩) (pi_list (pv 0))
          (by intros; exact pg_name (i := 0) (show (["beat", "one", "other"] : List Str).Nodup by decide +kernel) rfl (Or.inl rfl))
          (by intros; exact pts_one (pt_cmpR (op_neL eq_int_ok (hu_of hr)) (pe_callB call_sorted (by rfl) B.sorted PyProof.Rows.boot_sorted (pa_cons (pv 0) pa_nil)) (pe_callB call_sorted (by rfl) B.sorted PyProof.Rows.boot_sorted (pa_cons (pe_lst (pa_cons (pv 1) (pa_cons (pv 2) pa_nil))) pa_nil)) (nomark _)))
          (by intros; exact (pv 0)))
      (pss_one (ps_ret (pe_ix ix_list (pe_lst (pa_cons (pv 0) (pa_cons (pv 5) (pa_cons (pe_op op_cat (pv 5) (pe_lst (pa_cons (pe_tup (pa_cons (pv 3) (pa_cons (pv 4) pa_nil))) pa_nil))) (pa_cons (pe_op op_cat (pv 5) (pe_lst (pa_cons (pe_tup (pa_cons (pv 4) (pa_cons (pv 3) pa_nil))) pa_nil))) pa_nil))))) (pe_op op_mod (pv 2) pe_int) (fun _ _ => rfl))))))), ?_⟩
    have hlx := Paired.length px
    refine ⟨_, rfl, rfl, _, rfl, ite2 (fun hb => ⟨_, rfl, k H p xs W (Same.refl H) hp px g⟩) (fun hb => ?_)⟩
    have hn2 : 2 ≤ n := by
      have : ¬ n = 1 := fun z => hb (decide_eq_true (by rw [z]))
      (first | lia | omega)
    refine ⟨_, rfl, _, _, rfl, rfl, ⟨by decide, by decide⟩, _, rfl, _, _, rfl, rfl, by (first | lia | omega), ?_⟩
    dsimp only
    obtain ⟨one, eo, o0, o1⟩ : ∃ one, c / 4 % n = one ∧ 0 ≤ one ∧ one < n := ⟨_, rfl, Int.emod_nonneg _ (by (first | lia | omega)), Int.emod_lt_of_pos _ (by (first | lia | omega))⟩
    rw [eo]
    refine ⟨_, rfl, _, _, rfl, rfl, _, rfl, _, _, rfl, rfl, ⟨by decide, by decide⟩, _, rfl, _, _, rfl, rfl, _, _, rfl, rfl, by (first | lia | omega), _, _, rfl, rfl, _, rfl, _, _, rfl, rfl, by (first | lia | omega), ?_⟩
    dsimp only
    obtain ⟨e, ee, e0, e1⟩ : ∃ e, c / 24 % (n - 1) = e ∧ 0 ≤ e ∧ e < n - 1 := ⟨_, rfl, Int.emod_nonneg _ (by (first | lia | omega)), Int.emod_lt_of_pos _ (by (first | lia | omega))⟩
    rw [ee]
    obtain ⟨other, et, t0, t1, hne⟩ : ∃ other, (one + 1 + e) % n = other ∧ 0 ≤ other ∧ other < n ∧ one ≠ other := by
      refine ⟨_, rfl, Int.emod_nonneg _ (by (first | lia | omega)), Int.emod_lt_of_pos _ (by (first | lia | omega)), ?_⟩
      by_cases z : one + 1 + e < n
      · rw [Int.emod_eq_of_lt (by (first | lia | omega)) z]; (first | lia | omega)
      · have : (one + 1 + e) % n = one + 1 + e - n := by
          rw [← Int.sub_emod_right, Int.emod_eq_of_lt (by (first | lia | omega)) (by (first | lia | omega))]
        (first | lia | omega)
    rw [et]
    refine ⟨_, rfl, p, rfl, ⟨_, SqL.of hp⟩, fun l fl => comp_list' (xs := xs) (fun i acc H' => Same H H' ∧ H' l = some (.lst acc) ∧ ∃ R : List (Int × Int), Paired (dP H) R acc ∧ R = (W.take i).filter (fun b => !decide (b = (one, other)) && !decide (b = (other, one))))
      ⟨same_upd fl, upd_same, [], .nil, rfl⟩ (fun i acc H' _ ⟨s1, z, _⟩ => ⟨SqL.of (s1 _ _ hp), z⟩) ?_ ?_⟩
    · rintro i x acc H1 hi hlt ⟨s1, hl1, R, pR, hR⟩
      obtain ⟨b, hb', q, rfl, hq⟩ := paired_get px hi
      have hil : i < W.length := (List.getElem?_eq_some_iff.mp hb').1
      have hRl := Paired.length pR
      have hRle : R.length ≤ 40 := by
        rw [hR]
        have := List.length_filter_le (fun b : Int × Int => !decide (b = (one, other)) && !decide (b = (other, one))) (W.take i)
        rw [List.length_take] at this
        (first | lia | omega)
      have hq1 := s1 _ _ hq
      refine ⟨small1000 (by (first | lia | omega)), ⟨rfl, rfl⟩, ?_⟩
      refine ⟨_, rfl, q, [b.1, b.2], rfl, .inr (SqT.of hq1), (by show 2 < 64; decide), fun l2 n2 fl2 hp2 hs2 => ?_⟩
      have u2 := same_upd (o := .lst (n2.map V.int)) fl2
      refine ⟨_, rfl, _, rfl, sz2, fun l3 fl3 => ?_⟩
      have u3 := same_upd (o := .lst [.int one, .int other]) fl3
      refine ⟨l3, [one, other], rfl, .inl (SqL.of upd_same), (by show 2 < 64; decide), fun l4 n4 fl4 hp4 hs4 => ?_⟩
      have u4 := same_upd (o := .lst (n4.map V.int)) fl4
      have u := (u2.trans u3).trans u4
      refine ⟨l2, l4, _, _, n2, n4, rfl, rfl, SqL.of ((u3.trans u4) _ _ upd_same), SqL.of upd_same, paired_ints _, paired_ints _, _, rfl, ?_⟩
      have key := take_filter_succ (fun b : Int × Int => !decide (b = (one, other)) && !decide (b = (other, one))) hb'
      have iff : n2 = n4 ↔ (b = (one, other) ∨ b = (other, one)) := by
        constructor
        · intro e
          have pm : [b.1, b.2].Perm [one, other] := (hp2.symm.trans (e ▸ List.Perm.refl _)).trans hp4
          have m1 : b.1 ∈ [one, other] := pm.mem_iff.mp List.mem_cons_self
          have m2 : b.2 ∈ [one, other] := pm.mem_iff.mp (by simp)
          have i1 := g.irr b (List.mem_of_getElem? hb')
          simp at m1 m2
          rcases m1 with z1 | z1 <;> rcases m2 with z2 | z2
          · exact absurd (z1.trans z2.symm) i1
          · exact .inl (Prod.ext z1 z2)
          · exact .inr (Prod.ext z1 z2)
          · exact absurd (z1.trans z2.symm) i1
        · intro e
          refine PySem.W.ksm_same (hp2.trans (List.Perm.trans ?_ hp4.symm)) hs2 hs4
          rcases e with rfl | rfl
          · exact List.Perm.refl _
          · exact List.Perm.swap _ _ _
      have hl5 := u _ _ hl1
      refine ite2 (fun z => ?_) (fun z => ?_)
      · have z1 : ¬ n2 = n4 := fun w => by rw [decide_eq_true w] at z; exact absurd z Bool.false_ne_true
        have z2 : ¬ (b = (one, other) ∨ b = (other, one)) := fun w => z1 (iff.mpr w)
        rw [if_pos (by simp only [decide_eq_false (fun w => z2 (.inl w)), decide_eq_false (fun w => z2 (.inr w))]; rfl)] at key
        refine ⟨_, rfl, hl5, Nx.mk hlt ⟨same_upd' (s1.trans u) fl, upd_same, R ++ [b], pd_append pR (.cons ⟨q, rfl, hq⟩ .nil), ?_⟩⟩
        rw [key, hR]
      · have z1 : n2 = n4 := by
          by_cases w : n2 = n4
          · exact w
          · exact absurd (by rw [decide_eq_false w]; rfl) z
        have z2 := iff.mp z1
        rw [if_neg (by rcases z2 with w | w <;> simp [w]), List.append_nil] at key
        exact Nx.mk hlt ⟨s1.trans u, hl5, R, pR, by rw [key]; exact hR⟩
    rintro acc H1 ⟨s1, hl1, R, pR, hR⟩
    rw [List.take_of_length_le (by (first | lia | omega))] at hR
    have gR : Good n R := by rw [hR]; exact g.sub _
    have hRl : R.length ≤ 36 := by rw [hR]; exact Nat.le_trans (List.length_filter_le _ _) hWl
    have hRx := Paired.length pR
    have n1 : (one, other) ∉ R := fun z => by rw [hR, List.mem_filter] at z; simp at z
    have n2 : (other, one) ∉ R := fun z => by rw [hR, List.mem_filter] at z; simp at z
    have pR1 := pd_same (dP_same s1) pR
    have small : ∀ {z : Nat}, z ≤ 1000 → z ≤ sizeLine := fun h => Nat.le_of_lt (small1000 h)
    refine ⟨_, rfl, _, rfl, _, rfl, _, rfl, _, rfl, sz2, fun t1' ft1 => ⟨sz1, fun l2 fl2 => ?_⟩⟩
    have u1 := same_upd (o := .tup [.int one, .int other]) ft1
    have u2 := same_upd (o := .lst [.ref t1']) fl2
    refine ⟨l, l2, acc, _, rfl, rfl, (u1.trans u2) _ _ hl1, upd_same, small (by show _ + 1 ≤ 1000; (first | lia | omega)), fun c3 fc3 => ?_⟩
    have u3 := same_upd (o := .lst (acc ++ [.ref t1'])) fc3
    refine ⟨_, rfl, _, rfl, _, rfl, sz2, fun t2' ft2 => ⟨sz1, fun l4 fl4 => ?_⟩⟩
    have u4 := same_upd (o := .tup [.int other, .int one]) ft2
    have u5 := same_upd (o := .lst [.ref t2']) fl4
    have u13 := (u1.trans u2).trans u3
    refine ⟨l, l4, acc, _, rfl, rfl, ((u13.trans u4).trans u5) _ _ hl1, upd_same, small (by show _ + 1 ≤ 1000; (first | lia | omega)), fun c4 fc4 => ?_⟩
    have u6 := same_upd (o := .lst (acc ++ [.ref t2'])) fc4
    refine ⟨small (by show 4 ≤ 1000; decide), fun ll fll => ?_⟩
    have u7 := same_upd (o := .lst [.ref p, .ref l, .ref c3, .ref c4]) fll
    have sA := (((((u13.trans u4).trans u5).trans u6).trans u7))
    have hc3 := (((u4.trans u5).trans u6).trans u7) c3 _ upd_same
    have hc4 := u7 c4 _ upd_same
    have ht1 := ((((((u2.trans u3).trans u4).trans u5).trans u6).trans u7)) t1' _ upd_same
    have ht2 := ((u5.trans u6).trans u7) t2' _ upd_same
    have hll := upd_same (H := upd (upd (upd (upd (upd (upd H1 t1' (.tup [.int one, .int other])) l2 (.lst [.ref t1'])) c3 (.lst (acc ++ [.ref t1']))) t2' (.tup [.int other, .int one])) l4 (.lst [.ref t2'])) c4 (.lst (acc ++ [.ref t2']))) (a := ll) (o := .lst [.ref p, .ref l, .ref c3, .ref c4])
    refine ⟨_, rfl, _, _, rfl, rfl, (by show (0 : Int) < 4; decide), ?_⟩
    have m0 : 0 ≤ c % 4 := Int.emod_nonneg _ (by decide)
    have m4 : c % 4 < 4 := Int.emod_lt_of_pos _ (by decide)
    have hcase : c % 4 = 0 ∨ c % 4 = 1 ∨ c % 4 = 2 ∨ c % 4 = 3 := by (first | lia | omega)
    have pRA := pd_same (dP_same sA) pR1
    rcases hcase with e | e | e | e
    · exact ⟨ll, _, 0, .ref p, rfl, congrArg V.int e, SqL.of hll, atI_nat (j := 0) rfl, k _ p xs W (s1.trans sA) ((s1.trans sA) _ _ hp) (pd_same (dP_same (s1.trans sA)) px) g⟩
    · exact ⟨ll, _, 1, .ref l, rfl, congrArg V.int e, SqL.of hll, atI_nat (j := 1) rfl, k _ l acc R (s1.trans sA) (sA _ _ hl1) pRA gR⟩
    · exact ⟨ll, _, 2, .ref c3, rfl, congrArg V.int e, SqL.of hll, atI_nat (j := 2) rfl, k _ c3 _ (R ++ [(one, other)]) (s1.trans sA) hc3 (pd_append pRA (.cons ⟨t1', rfl, ht1⟩ .nil)) (gR.snoc ⟨o0, o1⟩ ⟨t0, t1⟩ hne n1 n2 (by (first | lia | omega)))⟩
    · exact ⟨ll, _, 3, .ref c4, rfl, congrArg V.int e, SqL.of hll, atI_nat (j := 3) rfl, k _ c4 _ (R ++ [(other, one)]) (s1.trans sA) hc4 (pd_append pRA (.cons ⟨t2', rfl, ht2⟩ .nil)) (gR.snoc ⟨t0, t1⟩ ⟨o0, o1⟩ (Ne.symm hne) n2 n1 (by (first | lia | omega)))⟩
end
end Bm
namespace Bm
open PySem L2
def spBound (K : PySem.W.Frag) : Sp := fun vs H Q _ => ∃ (n : Int) (a : Addr) (L : List (List Int)) (b : Addr) (W : List (Int × Int)), vs = [.int n, .ref a, .ref b] ∧ 1 ≤ n ∧ n ≤ 6 ∧ VAt K H a L ∧ Ords n L ∧ L.length ≤ 1000 ∧ WAt K H b W ∧ Good n W ∧
  ∀ H' p xs Bd, Same H H' → H p = none → H' p = some (.lst xs) → Paired (dP H') Bd xs → (∀ c, c ∈ Bd ↔ c ∈ boundM n L W) → Q (.ref p) H'
def Upto (i j : Nat) (b : Int × Int) : Prop := (b.1 < (i : Int) ∨ b.2 < (i : Int)) ∨ (b.1 = (i : Int) ∧ b.2 < (i : Int) + 1 + j) ∨ (b.2 = (i : Int) ∧ b.1 < (i : Int) + 1 + j)
section
variable {P : Program} {w : World} {K : PySem.W.Frag} {mg : Str → Option Value} {base : Heap}
theorem sc_law_bound : FnScope ["many", "voters", "web", "found", "one", "other", "now", "wished"] ["many", "voters", "web"] (defScope sLawBound) := ⟨rfl, rfl, rfl, by decide +kernel, rfl, by decide +kernel, by decide +kernel⟩
theorem ok_lawBound (d : Def K mg "_law_bound" sLawBound ["many", "voters", "web"]) (B : Blt mg) (dM : Def K mg "_law_lead" sLawLead ["voters", "one", "other"]) (GM : FnOk P w K mg base CX0 1 dM.f dM.fd ["voters", "one", "other"] (spAmong K))
    (dWi : Def K mg "_law_wish" sLawWish ["web", "one", "other"]) (GWi : FnOk P w K mg base CX0 1 dWi.f dWi.fd ["web", "one", "other"] (spWish K)) : FnOk P w K mg base CX0 2 d.f d.fd ["many", "voters", "web"] (spBound K) := by
  refine d.F.ok sc_law_bound (fun vs H Q E h => ?_) (fun cdv A outer s H vs Q E hr h => ?_)
  · obtain ⟨n, a, L, b, W, rfl, _⟩ := h
    rfl
  · obtain ⟨n, a, L, b, W, rfl, h1, h6, hV, hO, hL, hW, g, k⟩ := h
    refine ⟨_, pss_cons (ps_set (i := 3) sc_law_bound.nd rfl (Or.inl rfl) (pe_lst pa_nil))
      (pss_cons (ps_for PassesOwn.never rfl (pi_range1 (by rfl) B.range (pa_cons (pv 0) pa_nil)) (pg_name (i := 4) sc_law_bound.nd rfl (Or.inl rfl))
        (pss_one (ps_for PassesOwn.never rfl (pi_range2 (by rfl) B.range (pa_cons (pe_op op_add (pv 4) pe_int) (pa_cons (pv 0) pa_nil))) (pg_name (i := 5) sc_law_bound.nd rfl (Or.inl rfl))
          (pss_cons (ps_set (i := 6) sc_law_bound.nd rfl (Or.inl rfl) (pe_call GM (hr.mono (by decide)) (by rfl) dM.mgf dM.F.kp dM.b .nil pass0 (pa_cons (pv 1) (pa_cons (pv 4) (pa_cons (pv 5) pa_nil)))))
          (pss_cons (ps_set (i := 7) sc_law_bound.nd rfl (Or.inl rfl) (pe_call GWi (hr.mono (by decide)) (by rfl) dWi.mgf dWi.F.kp dWi.b .nil pass0 (pa_cons (pv 2) (pa_cons (pv 4) (pa_cons (pv 5) pa_nil)))))
          (pss_cons (ps_cut (ps_if (pt_cmpR op_eq (pv 7) pe_int (nomark _)) (pss_one (ps_set (i := 7) sc_law_bound.nd rfl (Or.inl rfl) (pe_un un_neg (pv 6)))) pss_nil))
          (pss_cons (ps_cut (ps_if (pt_cut (pw_and (pt_chain op_le op_le (pe_un un_neg pe_int) (pv 6) pe_int) (pw_and1 (pt_cmpR op_gt (pv 7) pe_int (nomark _)))).pt) (pss_one (ps_expr (pe_bm PySem.F.plainAttrs_list PySem.F.slot_list_append PySem.F.type_list_append mt_append (pv 3) (pa_cons (pe_tup (pa_cons (pv 4) (pa_cons (pv 5) pa_nil))) pa_nil)))) pss_nil))
          (pss_one (ps_if (pt_cut (pw_and (pt_chain op_le op_le (pe_un un_neg pe_int) (pv 6) pe_int) (pw_and1 (pt_cmpR op_lt (pv 7) pe_int (nomark _)))).pt) (pss_one (ps_expr (pe_bm PySem.F.plainAttrs_list PySem.F.slot_list_append PySem.F.type_list_append mt_append (pv 3) (pa_cons (pe_tup (pa_cons (pv 5) (pa_cons (pv 4) pa_nil))) pa_nil)))) pss_nil)))))))))
      (pss_one (ps_ret (pv 3)))), ?_⟩
    refine ⟨Nat.zero_le _, fun fo ffo => ?_⟩
    refine ⟨_, rfl, n, rfl, by (first | lia | omega), by (first | lia | omega), for_range (n := n.toNat) (fun i σ H' => ∃ (v4 v5 v6 v7 : Option V) (xs : List V) (Bd : List (Int × Int)), σ = [some (.int n), some (.ref a), some (.ref b), some (.ref fo), v4, v5, v6, v7] ∧ Same H H' ∧ H' fo = some (.lst xs) ∧ Paired (dP H') Bd xs ∧ (∀ c, c ∈ Bd ↔ c ∈ boundM n L W ∧ Upto i 0 c) ∧ Bd.length ≤ i * 6)
      ⟨_, _, _, _, [], [], rfl, same_upd ffo, upd_same, .nil, fun c => ⟨fun z => (by cases z), fun z => ?_⟩, Nat.le_refl _⟩ ?_ ?_⟩
    · obtain ⟨z1, z2⟩ := z
      have h := bound_mem (x := c.1) (y := c.2).mp z1
      have r1 := rangeK_mem.mp h.1
      have r2 := rangeK_mem.mp h.2.1
      unfold Upto at z2
      rcases h.2.2 with q | q <;> (first | lia | omega)
    · rintro i σ H1 hi ⟨v4, v5, v6, v7, xs, Bd, rfl, s1, hfo, pb, hmem, hlen⟩
      refine ⟨_, rfl, _, _, rfl, rfl, _, rfl, _, n, rfl, ⟨by (first | lia | omega), by (first | lia | omega), by (first | lia | omega), by (first | lia | omega)⟩, for_range (n := (n - ((0 : Int) + (i : Nat) + 1)).toNat) (fun j σ H' => ∃ (v5 v6 v7 : Option V) (xs : List V) (Bd : List (Int × Int)), σ = [some (.int n), some (.ref a), some (.ref b), some (.ref fo), some (.int ((0 : Int) + (i : Nat))), v5, v6, v7] ∧ Same H H' ∧ H' fo = some (.lst xs) ∧ Paired (dP H') Bd xs ∧ (∀ c, c ∈ Bd ↔ c ∈ boundM n L W ∧ Upto i j c) ∧ Bd.length ≤ i * 6 + j)
        ⟨_, _, _, xs, Bd, rfl, s1, hfo, pb, hmem, hlen⟩ ?_ ?_⟩
      · rintro j σ H2 hj ⟨v5, v6, v7, xs, Bd, rfl, s2, hfo, pb, hmem, hlen⟩
        have hbl := Paired.length pb
        have e1 : (0 : Int) + (i : Nat) = (i : Int) := by (first | lia | omega)
        rw [e1]
        have r1 : (i : Int) ∈ rangeI n := rangeI_mem (by (first | lia | omega)) (by (first | lia | omega))
        have r2 : (i : Int) + 1 + (j : Nat) ∈ rangeI n := rangeI_mem (by (first | lia | omega)) (by (first | lia | omega))
        refine ⟨_, rfl, _, rfl, _, rfl, a, L, _, _, rfl, hV.same s2, fun o ho => ⟨(hO o ho).mem_iff.mpr r1, (hO o ho).mem_iff.mpr r2⟩, hL, fun H3 s3 => ?_⟩
        have s23 := s2.trans s3
        refine ⟨_, rfl, _, rfl, _, rfl, b, W, _, _, rfl, hW.same s23, fun H4 s4 => ?_⟩
        have s24 := s23.trans s4
        have hfo4 := (s3.trans s4) _ _ hfo
        have pb4 := pd_same (dP_same (s3.trans s4)) pb
        generalize hnow : leadM L (i : Int) ((i : Int) + 1 + (j : Nat)) = now
        generalize hwi : netM W (i : Int) ((i : Int) + 1 + (j : Nat)) = wi
        -- the pair's bond
        have mem1 : ((i : Int), (i : Int) + 1 + (j : Nat)) ∈ boundM n L W ↔ 0 < bindZ now wi := by
          rw [bound_mem, hnow, hwi]
          exact ⟨fun z => by rcases z.2.2 with q | q <;> (first | lia | omega), fun z => ⟨r1, r2, .inl ⟨by (first | lia | omega), z⟩⟩⟩
        have mem2 : ((i : Int) + 1 + (j : Nat), (i : Int)) ∈ boundM n L W ↔ bindZ now wi < 0 := by
          rw [bound_mem, hnow, hwi]
          exact ⟨fun z => by rcases z.2.2 with q | q <;> (first | lia | omega), fun z => ⟨r2, r1, .inr ⟨by (first | lia | omega), z⟩⟩⟩
        have up : ∀ c, Upto i (j + 1) c ∧ c ∈ boundM n L W ↔ (Upto i j c ∧ c ∈ boundM n L W) ∨ (c = ((i : Int), (i : Int) + 1 + (j : Nat)) ∧ 0 < bindZ now wi) ∨ (c = ((i : Int) + 1 + (j : Nat), (i : Int)) ∧ bindZ now wi < 0) := fun c => by
          constructor
          · rintro ⟨z1, z2⟩
            by_cases q1 : c = ((i : Int), (i : Int) + 1 + (j : Nat))
            · exact .inr (.inl ⟨q1, mem1.mp (q1 ▸ z2)⟩)
            · by_cases q2 : c = ((i : Int) + 1 + (j : Nat), (i : Int))
              · exact .inr (.inr ⟨q2, mem2.mp (q2 ▸ z2)⟩)
              · refine .inl ⟨?_, z2⟩
                have w1 : ¬ (c.1 = (i : Int) ∧ c.2 = (i : Int) + 1 + (j : Nat)) := fun w => q1 (Prod.ext w.1 w.2)
                have w2 : ¬ (c.1 = (i : Int) + 1 + (j : Nat) ∧ c.2 = (i : Int)) := fun w => q2 (Prod.ext w.1 w.2)
                unfold Upto at z1 ⊢
                (first | lia | omega)
          · rintro (⟨z1, z2⟩ | ⟨rfl, z⟩ | ⟨rfl, z⟩)
            · refine ⟨?_, z2⟩
              unfold Upto at z1 ⊢
              (first | lia | omega)
            · refine ⟨.inr (.inl ⟨rfl, ?_⟩), mem1.mpr z⟩
              show (i : Int) + 1 + (j : Nat) < (i : Int) + 1 + ((j + 1 : Nat) : Int)
              (first | lia | omega)
            · refine ⟨.inr (.inr ⟨rfl, ?_⟩), mem2.mpr z⟩
              show (i : Int) + 1 + (j : Nat) < (i : Int) + 1 + ((j + 1 : Nat) : Int)
              (first | lia | omega)
        -- wished as bound
        refine ⟨fun σ' H' => σ' = [some (.int n), some (.ref a), some (.ref b), some (.ref fo), some (.int (i : Int)), some (.int ((i : Int) + 1 + (j : Nat))), some (.int now), some (.int (if wi = 0 then -now else wi))] ∧ H' = H4, ?_, ?_⟩
        · refine ⟨_, rfl, rfl, _, rfl, ite2 (fun hb => ?_) (fun hb => ?_)⟩
          · have e : wi = 0 := by
              have := of_decide_eq_true hb
              injection this
            rw [if_pos e]
            exact ⟨_, rfl, now, rfl, rfl, rfl⟩
          · have e : ¬ wi = 0 := fun z => hb (decide_eq_true (by rw [z]))
            rw [if_neg e]
            exact ⟨rfl, rfl⟩
        rintro σ' H' ⟨rfl, hE⟩
        rw [hE]
        clear hE
        generalize hz : (if wi = 0 then -now else wi) = z0
        have hbz : bindZ now wi = if -1 ≤ now ∧ now ≤ 1 then z0 else 0 := by unfold bindZ; rw [hz]
        -- first if
        have small : ∀ {z : Nat}, z ≤ 1000 → z < sizeLine := fun h => small1000 h
        refine ⟨fun σ' H' => σ' = [some (.int n), some (.ref a), some (.ref b), some (.ref fo), some (.int (i : Int)), some (.int ((i : Int) + 1 + (j : Nat))), some (.int now), some (.int z0)] ∧ Same H H' ∧ ∃ (xs1 : List V) (Bd1 : List (Int × Int)), H' fo = some (.lst xs1) ∧ Paired (dP H') Bd1 xs1 ∧
          (∀ c, c ∈ Bd1 ↔ c ∈ Bd ∨ (c = ((i : Int), (i : Int) + 1 + (j : Nat)) ∧ 0 < bindZ now wi)) ∧ Bd1.length ≤ Bd.length + (if 0 < bindZ now wi then 1 else 0), ?_, ?_⟩
        · refine ⟨fun b H' => b = decide (0 < bindZ now wi) ∧ H' = H4, ?_, ?_⟩
          · refine ⟨1, rfl, _, rfl, _, _, rfl, rfl, _, rfl, ite2 (fun q1 => ⟨_, _, rfl, rfl, _, rfl, ite2 (fun q2 => ⟨_, rfl, _, _, rfl, rfl, _, rfl, ?_, rfl⟩) (fun q2 => ⟨?_, rfl⟩)⟩) (fun q1 => ⟨false, rfl, iteF ⟨?_, rfl⟩⟩)⟩
            · rw [hbz, if_pos ⟨of_decide_eq_true q1, of_decide_eq_true q2⟩]
            · rw [hbz, if_neg (fun w => q2 (decide_eq_true w.2))]; rfl
            · rw [hbz, if_neg (fun w => q1 (decide_eq_true w.1))]; rfl
          rintro b' H' ⟨rfl, hE⟩
          rw [hE]
          clear hE
          refine ite2 (fun q => ?_) (fun q => ?_)
          · have q' : 0 < bindZ now wi := of_decide_eq_true q
            refine ⟨_, rfl, .inl ⟨rfl, _, SqL.of hfo4⟩, _, rfl, _, rfl, sz2, fun t ft => ?_⟩
            have u1 := same_upd (o := .tup [.int (i : Int), .int ((i : Int) + 1 + (j : Nat))]) ft
            have hfo5 := u1 _ _ hfo4
            refine ⟨fo, xs, _, rfl, rfl, hfo5, small (by (first | lia | omega)), ?_⟩
            refine ⟨rfl, same_upd' (s24.trans u1) ffo, xs ++ [.ref t], Bd ++ [((i : Int), (i : Int) + 1 + (j : Nat))], upd_same, ?_, fun c => ?_, by rw [if_pos q', List.length_append, List.length_singleton]; (first | lia | omega)⟩
            · refine pd_append (pd_same (fun _ _ ⟨c, e, hc⟩ => ⟨c, e, by rw [upd_ne (ne_of (u1 _ _ hc) hfo5 (by intro z; cases z))]; exact u1 _ _ hc⟩) pb4) (.cons ⟨t, rfl, ?_⟩ .nil)
              rw [upd_ne (ne_of upd_same hfo5 (by intro z; cases z)), upd_same]
              rfl
            · rw [List.mem_append, List.mem_singleton]
              exact ⟨fun z => z.imp id fun w => ⟨w, q'⟩, fun z => z.imp id fun w => w.1⟩
          · have q' : ¬ 0 < bindZ now wi := fun z => q (decide_eq_true z)
            exact ⟨rfl, s24, xs, Bd, hfo4, pb4, fun c => ⟨.inl, fun z => z.elim id fun w => absurd w.2 q'⟩, by (first | lia | omega)⟩
        rintro σ' H5 ⟨rfl, s5, xs1, Bd1, hfo5, pb5, hm1, hl1⟩
        have hbl5 := Paired.length pb5
        have hl1' : Bd1.length ≤ Bd.length + 1 := by split at hl1 <;> (first | lia | omega)
        -- second if
        refine ⟨fun b H' => b = decide (bindZ now wi < 0) ∧ H' = H5, ?_, ?_⟩
        · refine ⟨1, rfl, _, rfl, _, _, rfl, rfl, _, rfl, ite2 (fun q1 => ⟨_, _, rfl, rfl, _, rfl, ite2 (fun q2 => ⟨_, rfl, _, _, rfl, rfl, _, rfl, ?_, rfl⟩) (fun q2 => ⟨?_, rfl⟩)⟩) (fun q1 => ⟨false, rfl, iteF ⟨?_, rfl⟩⟩)⟩
          · rw [hbz, if_pos ⟨of_decide_eq_true q1, of_decide_eq_true q2⟩]
          · rw [hbz, if_neg (fun w => q2 (decide_eq_true w.2))]; rfl
          · rw [hbz, if_neg (fun w => q1 (decide_eq_true w.1))]; rfl
        rintro b' H' ⟨rfl, hE⟩
        rw [hE]
        clear hE
        refine ite2 (fun q => ?_) (fun q => ?_)
        · have q' : bindZ now wi < 0 := of_decide_eq_true q
          rw [if_neg (by (first | lia | omega))] at hl1
          refine ⟨_, rfl, .inl ⟨rfl, _, SqL.of hfo5⟩, _, rfl, _, rfl, sz2, fun t ft => ?_⟩
          have u1 := same_upd (o := .tup [.int ((i : Int) + 1 + (j : Nat)), .int (i : Int)]) ft
          have hfo6 := u1 _ _ hfo5
          refine ⟨fo, xs1, _, rfl, rfl, hfo6, small (by (first | lia | omega)), ?_⟩
          refine ⟨_, _, _, xs1 ++ [.ref t], Bd1 ++ [((i : Int) + 1 + (j : Nat), (i : Int))], rfl, same_upd' (s5.trans u1) ffo, upd_same, ?_, fun c => ?_, by rw [List.length_append, List.length_singleton]; (first | lia | omega)⟩
          · refine pd_append (pd_same (fun _ _ ⟨c, e, hc⟩ => ⟨c, e, by rw [upd_ne (ne_of (u1 _ _ hc) hfo6 (by intro z; cases z))]; exact u1 _ _ hc⟩) pb5) (.cons ⟨t, rfl, ?_⟩ .nil)
            rw [upd_ne (ne_of upd_same hfo6 (by intro z; cases z)), upd_same]
            rfl
          · rw [List.mem_append, List.mem_singleton, hm1, hmem, and_comm (a := c ∈ boundM n L W) (b := Upto i (j + 1) c), up, and_comm (a := c ∈ boundM n L W)]
            constructor
            · rintro ((z | z) | z)
              · exact .inl z
              · exact .inr (.inl z)
              · exact .inr (.inr ⟨z, q'⟩)
            · rintro (z | z | z)
              · exact .inl (.inl z)
              · exact .inl (.inr z)
              · exact .inr z.1
        · have q' : ¬ bindZ now wi < 0 := fun z => q (decide_eq_true z)
          refine ⟨_, _, _, xs1, Bd1, rfl, s5, hfo5, pb5, fun c => ?_, by (first | lia | omega)⟩
          rw [hm1, hmem, and_comm (a := c ∈ boundM n L W) (b := Upto i (j + 1) c), up, and_comm (a := c ∈ boundM n L W)]
          constructor
          · rintro (z | z)
            · exact .inl z
            · exact .inr (.inl z)
          · rintro (z | z | z)
            · exact .inl z
            · exact .inr z
            · exact absurd z.2 q'
      · rintro σ H2 ⟨v5, v6, v7, xs, Bd, rfl, s2, hfo, pb, hmem, hlen⟩
        refine ⟨_, _, _, _, xs, Bd, rfl, s2, hfo, pb, fun c => ?_, by (first | lia | omega)⟩
        rw [hmem]
        refine and_congr_right fun hc => ?_
        have h := bound_mem (x := c.1) (y := c.2).mp hc
        have q1 := rangeK_mem.mp h.1
        have q2 := rangeK_mem.mp h.2.1
        unfold Upto
        rcases h.2.2 with q | q <;> (first | lia | omega)
    · rintro σ H1 ⟨v4, v5, v6, v7, xs, Bd, rfl, s1, hfo, pb, hmem, hlen⟩
      refine ⟨_, rfl, k H1 fo xs Bd s1 ffo hfo pb fun c => ?_⟩
      rw [hmem]
      refine ⟨fun z => z.1, fun hc => ⟨hc, ?_⟩⟩
      have h := bound_mem (x := c.1) (y := c.2).mp hc
      have q1 := rangeK_mem.mp h.1
      unfold Upto
      (first | lia | omega)
end
end Bm
namespace Bm
open PySem L2
def spWished (K : PySem.W.Frag) : Sp := fun vs H Q _ => ∃ (a : Addr) (ns : List Int) (n : Int) (v : Addr) (xs : List V) (L : List (List Int)), vs = [.ref a, .int n, .ref v] ∧ SqL K H a (ns.map V.int) ∧ 1 ≤ n ∧ n ≤ 6 ∧ H v = some (.lst xs) ∧ Paired (dT H) L xs ∧ Ords n L ∧ L.length ≤ 100 ∧
  ∀ H' q ys W, Same H H' → H' q = some (.lst ys) → Paired (dP H') W ys → Good n W → Q (.ref q) H'
section
variable {P : Program} {w : World} {K : PySem.W.Frag} {mg : Str → Option Value} {base : Heap}
theorem more_at {way : Int} (h0 : 0 ≤ way) (h4 : way < 4) : ∃ c : Int, (0 ≤ c ∧ c ≤ 2) ∧ atI ([V.int 1, V.int 0, V.int 0, V.int 2] : List V) way = some (V.int c) := by
  have h : way = 0 ∨ way = 1 ∨ way = 2 ∨ way = 3 := by (first | lia | omega)
  rcases h with rfl | rfl | rfl | rfl
  · exact ⟨1, ⟨by decide, by decide⟩, atI_nat (j := 0) rfl⟩
  · exact ⟨0, ⟨by decide, by decide⟩, atI_nat (j := 1) rfl⟩
  · exact ⟨0, ⟨by decide, by decide⟩, atI_nat (j := 2) rfl⟩
  · exact ⟨2, ⟨by decide, by decide⟩, atI_nat (j := 3) rfl⟩
theorem sc_law_wished : FnScope ["script", "many", "voters", "way", "more"] ["script", "many", "voters"] (defScope sWished) := ⟨rfl, rfl, rfl, by decide +kernel, rfl, by decide +kernel, by decide +kernel⟩
theorem ok_lawWished (d : Def K mg "_law_wished" sWished ["script", "many", "voters"]) (B : Blt mg) (dC : Def K mg "_law_cell_at" sCellAt ["script", "k"]) (GC : FnOk P w K mg base CX0 1 dC.f dC.fd ["script", "k"] (spCell K))
    (dO : Def K mg "_law_order" sOrder ["cell", "many"]) (GO : FnOk P w K mg base CX0 1 dO.f dO.fd ["cell", "many"] spOrder)
    (dWb : Def K mg "_law_web" sLawWeb ["script", "start", "many"]) (GWb : FnOk P w K mg base CX0 2 dWb.f dWb.fd ["script", "start", "many"] (spLawWeb K))
    (dB : Def K mg "_law_beats" sBeats ["many", "voters"]) (GB : FnOk P w K mg base CX0 2 dB.f dB.fd ["many", "voters"] (spWebP K))
    (dTu : Def K mg "_law_turned" sTurned ["web", "many", "cell"]) (GTu : FnOk P w K mg base CX0 1 dTu.f dTu.fd ["web", "many", "cell"] spTurned) : FnOk P w K mg base CX0 3 d.f d.fd ["script", "many", "voters"] (spWished K) := by
  refine d.F.ok sc_law_wished (fun vs H Q E h => ?_) (fun cdv A outer s H vs Q E hr h => ?_)
  · obtain ⟨a, ns, n, v, xs, L, rfl, _⟩ := h
    rfl
  · obtain ⟨a, ns, n, v, xs, L, rfl, hS, h1, h6, hv, pv', hO, hL, k⟩ := h
    refine ⟨_, pss_cons (ps_set (i := 3) sc_law_wished.nd rfl (Or.inl rfl) (pe_op op_mod (pe_call GC (hr.mono (by decide)) (by rfl) dC.mgf dC.F.kp dC.b .nil pass0 (pa_cons (pv 0) (pa_cons pe_int pa_nil))) pe_int))
      (pss_cons (ps_if (pt_cmpR op_eq (pv 3) pe_int (nomark _)) (pss_one (ps_ret (pe_call GWb (hr.mono (by decide)) (by rfl) dWb.mgf dWb.F.kp dWb.b .nil pass0 (pa_cons (pv 0) (pa_cons pe_int (pa_cons (pv 1) pa_nil)))))) pss_nil)
      (pss_cons (ps_setC (i := 4) (ts := ["k"]) (fs := [(1, "many"), (0, "script")]) sc_law_wished.nd rfl (Or.inl rfl) rfl (by exact .mk' rfl (by rfl) ⟨rfl, rfl, rfl, rfl, trivial⟩) (pi_range1 (by rfl) B.range (pa_cons (pe_ix ix_list (pe_lst (pa_cons pe_int (pa_cons pe_int (pa_cons pe_int (pa_cons pe_int pa_nil))))) (pv 3) (fun _ _ => rfl)) pa_nil))
          (by intros; exact pg_name (i := 0) (show (["k", "many", "script"] : List Str).Nodup by decide +kernel) rfl (Or.inl rfl))
          (by intros; exact pts_nil)
          (by intros; exact (pe_call GO (hr.mono (by decide)) (by rfl) dO.mgf dO.F.kp dO.b .nil pass0 (pa_cons (pe_call GC (hr.mono (by decide)) (by rfl) dC.mgf dC.F.kp dC.b .nil pass0 (pa_cons (pv 2) (pa_cons (pe_op op_add pe_int (pv 0)) pa_nil))) (pa_cons (pv 1) pa_nil)))))
      (pss_one (ps_ret (pe_call GTu (hr.mono (by decide)) (by rfl) dTu.mgf dTu.F.kp dTu.b .nil pass0 (pa_cons (pe_call GB (hr.mono (by decide)) (by rfl) dB.mgf dB.F.kp dB.b .nil pass0 (pa_cons (pv 1) (pa_cons (pe_op op_cat (pv 2) (pv 4)) pa_nil))) (pa_cons (pv 1) (pa_cons (pe_call GC (hr.mono (by decide)) (by rfl) dC.mgf dC.F.kp dC.b .nil pass0 (pa_cons (pv 0) (pa_cons pe_int pa_nil))) pa_nil)))))))), ?_⟩
    refine ⟨_, rfl, a, ns, 16, rfl, hS, by decide, _, _, rfl, rfl, (by show (0 : Int) < 4; decide), ?_⟩
    dsimp only
    obtain ⟨way, ew, w0, w4⟩ : ∃ way, ns.getD (Int.toNat 16) 0 % 4 = way ∧ 0 ≤ way ∧ way < 4 := ⟨_, rfl, Int.emod_nonneg _ (by decide), Int.emod_lt_of_pos _ (by decide)⟩
    rw [ew]
    refine ⟨_, rfl, rfl, _, rfl, ite2 (fun hb => ?_) (fun hb => ?_)⟩
    · exact ⟨_, rfl, _, rfl, a, ns, 17, n, rfl, hS, by decide, h1, h6, fun H' p ys W s1 _ hp pw g => k H' p ys W s1 hp pw g⟩
    obtain ⟨cnt, ⟨c0, c2⟩, hcnt⟩ := more_at w0 w4
    refine ⟨Nat.le_of_lt (small1000 (by show 4 ≤ 1000; decide)), fun ll fll => ?_⟩
    have u0 := same_upd (o := .lst [.int 1, .int 0, .int 0, .int 2]) fll
    refine ⟨_, rfl, ll, _, way, .int cnt, rfl, rfl, SqL.of upd_same, hcnt, cnt, rfl, by (first | lia | omega), by (first | lia | omega), fun l hl => comp_range' (lo := 0) (m0 := cnt.toNat) (fun i acc H' => Same H H' ∧ H' l = some (.lst acc) ∧ ∃ M, Paired (dT H') M acc ∧ Ords n M ∧ acc.length = i)
      ⟨u0.trans (same_upd hl), upd_same, [], .nil, fun o z => absurd z (by simp), rfl⟩ (fun i acc H' _ ⟨_, z, _⟩ => z) ?_ ?_⟩
    · rintro i acc H' hi ⟨s1, hla, M, pM, hOM, hlen⟩
      refine ⟨small1000 (by (first | lia | omega)), ⟨rfl, rfl⟩, ?_⟩
      refine tYes_mk ?_
      refine ⟨_, rfl, _, rfl, _, _, rfl, rfl, a, ns, _, rfl, s1.seq hS, by (first | lia | omega), _, rfl, _, n, rfl, h1, h6, fun H2 p o s2 fp hp hperm => ⟨s2 _ _ hla, Nx.mk hi ⟨same_upd' (s1.trans s2) (u0.free hl), upd_same, M ++ [o], ?_, ords_append hOM fun o' ho' => ?_, by rw [List.length_append, List.length_singleton]; (first | lia | omega)⟩⟩⟩
      · have hpl : p ≠ l := (ne_of_none hla fp).symm
        refine pd_append (pd_same (fun b x ⟨q, e, hq⟩ => ⟨q, e, ?_⟩) pM) (.cons ⟨p, rfl, by rw [upd_ne hpl]; exact hp⟩ .nil)
        rw [upd_ne (ne_of hq hla (by intro z; cases z))]
        exact s2 _ _ hq
      · rw [List.mem_singleton.mp ho']; exact hperm
    · rintro acc H' ⟨s1, hla, M, pM, hOM, hlen⟩
      have hMl := Paired.length pM
      have hLl := Paired.length pv'
      have hO' := ords_append hO hOM
      refine ⟨_, rfl, _, rfl, _, rfl, v, l, xs, acc, rfl, rfl, s1 _ _ hv, hla, Nat.le_of_lt (small1000 (by (first | lia | omega))), fun c fc => ?_⟩
      have u1 := same_upd (o := .lst (xs ++ acc)) fc
      refine ⟨n, c, L ++ M, rfl, h1, h6, ⟨_, SqL.of upd_same, pd_same (dT_same u1) (pd_append (pd_same (dT_same s1) pv') pM)⟩, hO', by rw [List.length_append]; (first | lia | omega), fun H2 wb ws s2 fwb hwb pw => ?_⟩
      have s12 := (s1.trans u1).trans s2
      refine ⟨_, rfl, _, rfl, a, ns, 21, rfl, s12.seq hS, by decide, n, wb, ws, beatsC n (L ++ M), _, rfl, h1, h6, hwb, pw, beats_good h6 hO', ?_, fun H3 q ys W' s3 hq pq g => k H3 q ys W' (s12.trans s3) hq pq g⟩
      have := canon_len n.toNat fun i j => decide (0 < leadM (L ++ M) i j)
      have h36 : n.toNat * n.toNat ≤ 6 * 6 := Nat.mul_le_mul (by (first | lia | omega)) (by (first | lia | omega))
      exact Nat.le_trans this h36
end
end Bm
namespace Bm
open PySem L2
def rowU (p : Int → Int → Bool) (i : Int) (m : Nat) : List (Int × Int) := ((rangeK m).filter fun j => !decide (i = j) && p i j).map fun j => (i, j)
def rowsU (p : Int → Int → Bool) (n i : Nat) : List (Int × Int) := (rangeK i).flatMap fun a => rowU p a n
theorem rowsU_all (p : Int → Int → Bool) (n : Nat) : rowsU p n n = canonP n p := rfl
theorem rowsU_succ (p : Int → Int → Bool) (n i : Nat) : rowsU p n (i + 1) = rowsU p n i ++ rowU p ((0 : Int) + (i : Nat)) n := by
  unfold rowsU
  rw [rangeK_succ, List.flatMap_append]
  congr 1
  rw [List.flatMap_cons, List.flatMap_nil, List.append_nil]
theorem rowU_succ (p : Int → Int → Bool) (i : Int) (m : Nat) : rowU p i (m + 1) = rowU p i m ++ (if (!decide (i = (0 : Int) + (m : Nat)) && p i ((0 : Int) + (m : Nat))) = true then [(i, (0 : Int) + (m : Nat))] else []) := by
  unfold rowU
  rw [rangeK_succ, List.filter_append, List.map_append]
  congr 1
  by_cases h : (!decide (i = (0 : Int) + (m : Nat)) && p i ((0 : Int) + (m : Nat))) = true
  · rw [if_pos h, List.filter_cons_of_pos (p := fun j => !decide (i = j) && p i j) h]; rfl
  · rw [if_neg h, List.filter_cons_of_neg (p := fun j => !decide (i = j) && p i j) h]; rfl
theorem rowU_nil {p : Int → Int → Bool} {i : Int} {m : Nat} (h : ∀ j ∈ rangeK m, p i j = false) : rowU p i m = [] := by
  unfold rowU
  rw [List.map_eq_nil_iff, List.filter_eq_nil_iff]
  intro j hj
  rw [h j hj, Bool.and_false]
  exact Bool.false_ne_true
def outP (L : List (List Int)) (W : List (Int × Int)) (i j : Int) : Bool := decide (i < j) && outB (leadM L i j) (netM W i j)
def spRight (K : PySem.W.Frag) : Sp := fun vs H Q _ => ∃ (f : Addr) (n : Int) (v : Addr) (L : List (List Int)) (wb : Addr) (W : List (Int × Int)) (du : Addr) (ds : List V) (D : List (List Int)) (tag : Str) (q : Addr), vs = [.ref f, .int n, .ref v, .ref wb, .ref du] ∧ 1 ≤ n ∧ n ≤ 6 ∧ VAt K H v L ∧ Ords n L ∧ L.length ≤ 1000 ∧ WAt K H wb W ∧ Good n W ∧ H f = some (.tup [.str tag, .ref q]) ∧ H du = some (.lst ds) ∧ Paired (dT H) D ds ∧
  ((∃ o : List Int, D.head? = some o ∧ tag = "voter" ∧ H q = some (.tup (o.map V.int)) ∧ o.Perm (rangeI n)) ∨
    D = [] ∧ ((∃ b, (outsM n L W).head? = some b ∧ tag = "out" ∧ H q = some (.tup [.int b.1, .int b.2])) ∨ (outsM n L W = [] ∧ tag = "ring" ∧ ∃ r : List Int, H q = some (.lst (r.map V.int)) ∧ RingOk (boundM n L W) r ∧ 3 ≤ r.length ∧ r.length ≤ 6))) ∧
  ∀ H', Same H H' → Q (.bl true) H'
section
variable {P : Program} {w : World} {K : PySem.W.Frag} {mg : Str → Option Value} {base : Heap}
theorem sc_law_right : FnScope ["found", "many", "voters", "web", "due", "pairs", "one", "other"] ["found", "many", "voters", "web", "due"] (defScope sRight) := ⟨rfl, rfl, rfl, by decide +kernel, rfl, by decide +kernel, by decide +kernel⟩
theorem ok_lawRight (d : Def K mg "_law_right" sRight ["found", "many", "voters", "web", "due"]) (B : Blt mg) (dM : Def K mg "_law_lead" sLawLead ["voters", "one", "other"]) (GM : FnOk P w K mg base CX0 1 dM.f dM.fd ["voters", "one", "other"] (spAmong K))
    (dWi : Def K mg "_law_wish" sLawWish ["web", "one", "other"]) (GWi : FnOk P w K mg base CX0 1 dWi.f dWi.fd ["web", "one", "other"] (spWish K))
    (dOu : Def K mg "_law_out" sLawOut ["now", "wished"]) (GOu : FnOk P w K mg base CX0 1 dOu.f dOu.fd ["now", "wished"] spOut)
    (dBd : Def K mg "_law_bound" sLawBound ["many", "voters", "web"]) (GBd : FnOk P w K mg base CX0 2 dBd.f dBd.fd ["many", "voters", "web"] (spBound K))
    (dW : Def K mg "_law_whole" sWhole ["found"]) (GW : FnOk P w K mg base CX0 1 dW.f dW.fd ["found"] spWhole)
    (dIO : Def K mg "_law_is_order" sIsOrder ["found", "many"]) (GIO : FnOk P w K mg base CX0 2 dIO.f dIO.fd ["found", "many"] spIsOrder)
    (dIR : Def K mg "_law_is_ring" sIsRing ["found", "many", "web"]) (GIR : FnOk P w K mg base CX0 2 dIR.f dIR.fd ["found", "many", "web"] (spIsRing K)) : FnOk P w K mg base CX0 3 d.f d.fd ["found", "many", "voters", "web", "due"] (spRight K) := by
  refine d.F.ok sc_law_right (fun vs H Q E h => ?_) (fun cdv A outer s H vs Q E hr h => ?_)
  · obtain ⟨f, n, v, L, wb, W, du, ds, D, tag, q, rfl, _⟩ := h
    rfl
  · obtain ⟨f, n, v, L, wb, W, du, ds, D, tag, q, rfl, h1, h6, hV, hO, hL, hW, g, hf, hdu, pds, hcase, k⟩ := h
    refine ⟨_, pss_cons (ps_if (pw_or (pt_not (pt_val (pe_callB call_isi (by rfl) B.isi PyProof.Rows.boot_isinstance (pa_cons (pv 0) (pa_cons (pe_bltn (v := .ty "tuple") (by rfl) B.tuple PyProof.Rows.boot_tuple rfl) pa_nil))))) (pw_or1 (pt_cmpR op_ne (pe_callB call_len_seq (by rfl) B.len PySem.boot_len (pa_cons (pv 0) pa_nil)) pe_int (nomark _)))).pt pss_never pss_nil)
      (pss_cons (ps_if (pt_cmpR op_gt (pe_callB call_len_seq (by rfl) B.len PySem.boot_len (pa_cons (pv 4) pa_nil)) pe_int (nomark _)) (pss_one (ps_ret (pe_and (pe_cmpR op_eq (pe_ix ix_tup (pv 0) pe_int (fun _ _ => rfl)) pe_str (nomark _)) (pe_and (pe_call GIO (hr.mono (by decide)) (by rfl) dIO.mgf dIO.F.kp dIO.b .nil pass0 (pa_cons (pe_ix ix_tup (pv 0) pe_int (fun _ _ => rfl)) (pa_cons (pv 1) pa_nil))) (pe_one (pe_cmpR (op_eqT eq_int_ok (hu_of hr)) (pe_ix ix_tup (pv 0) pe_int (fun _ _ => rfl)) (pe_ix ix_list (pv 4) pe_int (fun _ _ => rfl)) (nomark _))))))) pss_nil)
      (pss_cons (ps_set (i := 5) sc_law_right.nd rfl (Or.inl rfl) (pe_lst pa_nil))
      (pss_cons (ps_for PassesOwn.never rfl (pi_range1 (by rfl) B.range (pa_cons (pv 1) pa_nil)) (pg_name (i := 6) sc_law_right.nd rfl (Or.inl rfl))
        (pss_one (ps_for PassesOwn.never rfl (pi_range2 (by rfl) B.range (pa_cons (pe_op op_add (pv 6) pe_int) (pa_cons (pv 1) pa_nil))) (pg_name (i := 7) sc_law_right.nd rfl (Or.inl rfl))
          (pss_one (ps_if (pt_val (pe_call GOu (hr.mono (by decide)) (by rfl) dOu.mgf dOu.F.kp dOu.b .nil pass0 (pa_cons (pe_call GM (hr.mono (by decide)) (by rfl) dM.mgf dM.F.kp dM.b .nil pass0 (pa_cons (pv 2) (pa_cons (pv 6) (pa_cons (pv 7) pa_nil)))) (pa_cons (pe_call GWi (hr.mono (by decide)) (by rfl) dWi.mgf dWi.F.kp dWi.b .nil pass0 (pa_cons (pv 3) (pa_cons (pv 6) (pa_cons (pv 7) pa_nil)))) pa_nil)))) (pss_one (ps_expr (pe_bm PySem.F.plainAttrs_list PySem.F.slot_list_append PySem.F.type_list_append mt_append (pv 5) (pa_cons (pe_tup (pa_cons (pv 6) (pa_cons (pv 7) pa_nil))) pa_nil)))) pss_nil)))))
      (pss_cons (ps_if (pt_cmpR op_gt (pe_callB call_len_seq (by rfl) B.len PySem.boot_len (pa_cons (pv 5) pa_nil)) pe_int (nomark _)) (pss_cons (ps_if (pw_or (pt_cmpR op_ne (pe_ix ix_tup (pv 0) pe_int (fun _ _ => rfl)) pe_str (nomark _)) (pw_or (pt_not (pt_val (pe_callB call_isi (by rfl) B.isi PyProof.Rows.boot_isinstance (pa_cons (pe_ix ix_tup (pv 0) pe_int (fun _ _ => rfl)) (pa_cons (pe_bltn (v := .ty "tuple") (by rfl) B.tuple PyProof.Rows.boot_tuple rfl) pa_nil))))) (pw_or1 (pt_cmpR (op_neT eq_int_ok (hu_of hr)) (pe_ix ix_tup (pv 0) pe_int (fun _ _ => rfl)) (pe_ix ix_list (pv 5) pe_int (fun _ _ => rfl)) (nomark _))))).pt pss_never pss_nil)
        (pss_one (ps_ret (pe_and (pe_call GW (hr.mono (by decide)) (by rfl) dW.mgf dW.F.kp dW.b .nil pass0 (pa_cons (pe_ix ix_tup (pe_ix ix_tup (pv 0) pe_int (fun _ _ => rfl)) pe_int (fun _ _ => rfl)) pa_nil)) (pe_one (pe_call GW (hr.mono (by decide)) (by rfl) dW.mgf dW.F.kp dW.b .nil pass0 (pa_cons (pe_ix ix_tup (pe_ix ix_tup (pv 0) pe_int (fun _ _ => rfl)) pe_int (fun _ _ => rfl)) pa_nil))))))) pss_nil)
      (pss_one (ps_ret (pe_and (pe_cmpR op_eq (pe_ix ix_tup (pv 0) pe_int (fun _ _ => rfl)) pe_str (nomark _)) (pe_one (pe_call GIR (hr.mono (by decide)) (by rfl) dIR.mgf dIR.F.kp dIR.b .nil pass0 (pa_cons (pe_ix ix_tup (pv 0) pe_int (fun _ _ => rfl)) (pa_cons (pv 1) (pa_cons (pe_call GBd (hr.mono (by decide)) (by rfl) dBd.mgf dBd.F.kp dBd.b .nil pass0 (pa_cons (pv 1) (pa_cons (pv 2) (pa_cons (pv 3) pa_nil)))) pa_nil)))))))))))), ?_⟩
    refine ⟨_, rfl, .ref f, "tuple", true, rfl, .tup_tup (SqT.of hf), true, rfl, iteF ?_⟩
    refine ⟨_, rfl, f, _, rfl, .inr (SqT.of hf), rfl, _, rfl, iteNS rfl ?_⟩
    refine ⟨_, rfl, du, ds, rfl, .inl (SqL.of hdu), _, _, rfl, rfl, _, rfl, ?_⟩
    have hdl := Paired.length pds
    rcases hcase with ⟨o, hd, rfl, hq, ho⟩ | ⟨rfl, hcase⟩
    · obtain ⟨D', rfl⟩ : ∃ D', D = o :: D' := by
        cases D with
        | nil => cases hd
        | cons x D' => cases hd; exact ⟨D', rfl⟩
      obtain ⟨x, hx, p0, rfl, hp0⟩ : ∃ x, ds[0]? = some x ∧ dT H o x := by
        cases pds with
        | cons h t => exact ⟨_, rfl, h⟩
      refine iteP (by rw [List.length_cons] at hdl; (first | lia | omega)) ?_
      refine ⟨_, rfl, f, _, 0, _, rfl, rfl, SqT.of hf, atI_nat (j := 0) rfl, rfl, _, rfl, iteP rfl ?_⟩
      refine ⟨_, rfl, f, _, 1, .ref q, rfl, rfl, SqT.of hf, atI_nat (j := 1) rfl, _, rfl, q, o, n, rfl, h1, h6, hq, ho, fun H1 s1 => ⟨true, rfl, iteT ?_⟩⟩
      refine ⟨_, rfl, f, _, 1, .ref q, rfl, rfl, SqT.of (s1 _ _ hf), atI_nat (j := 1) rfl, _, rfl, du, ds, 0, .ref p0, rfl, rfl, SqL.of (s1 _ _ hdu), atI_nat (j := 0) hx, q, p0, _, _, o, o, rfl, rfl, SqT.of (s1 _ _ hq), SqT.of (s1 _ _ hp0), paired_ints _, paired_ints _, ?_⟩
      rw [decide_eq_true rfl]
      exact k H1 s1
    refine iteN (by simp at hdl; (first | lia | omega)) ?_
    refine ⟨Nat.zero_le _, fun fo ffo => ?_⟩
    refine ⟨_, rfl, n, rfl, by (first | lia | omega), by (first | lia | omega), for_range (n := n.toNat) (fun i σ H' => ∃ (v6 v7 : Option V) (xs : List V), σ = [some (.ref f), some (.int n), some (.ref v), some (.ref wb), some (.ref du), some (.ref fo), v6, v7] ∧ Same H H' ∧ H' fo = some (.lst xs) ∧ Paired (dP H') (rowsU (outP L W) n.toNat i) xs ∧ xs.length ≤ i * 6)
      ⟨_, _, [], rfl, same_upd ffo, upd_same, .nil, Nat.zero_le _⟩ ?_ ?_⟩
    · rintro i σ H1 hi ⟨v6, v7, xs, rfl, s1, hfo, pb, hlen⟩
      have e1 : (0 : Int) + (i : Nat) = (i : Int) := by (first | lia | omega)
      refine ⟨_, rfl, _, _, rfl, rfl, _, rfl, _, n, rfl, ⟨by (first | lia | omega), by (first | lia | omega), by (first | lia | omega), by (first | lia | omega)⟩, for_range (n := (n - ((0 : Int) + (i : Nat) + 1)).toNat) (fun j σ H' => ∃ (v7 : Option V) (xs : List V), σ = [some (.ref f), some (.int n), some (.ref v), some (.ref wb), some (.ref du), some (.ref fo), some (.int ((0 : Int) + (i : Nat))), v7] ∧ Same H H' ∧ H' fo = some (.lst xs) ∧ Paired (dP H') (rowsU (outP L W) n.toNat i ++ rowU (outP L W) ((0 : Int) + (i : Nat)) (i + 1 + j)) xs ∧ xs.length ≤ i * 6 + j)
        ⟨_, xs, rfl, s1, hfo, ?_, hlen⟩ ?_ ?_⟩
      · rw [rowU_nil (fun j hj => ?_), List.append_nil]
        · exact pb
        · have := rangeK_mem.mp hj
          unfold outP
          rw [decide_eq_false (by (first | lia | omega)), Bool.false_and]
      · rintro j σ H2 hj ⟨v7, xs, rfl, s2, hfo, pb, hlen⟩
        rw [e1] at pb
        rw [e1]
        have r1 : (i : Int) ∈ rangeI n := rangeI_mem (by (first | lia | omega)) (by (first | lia | omega))
        have r2 : (i : Int) + 1 + (j : Nat) ∈ rangeI n := rangeI_mem (by (first | lia | omega)) (by (first | lia | omega))
        refine ⟨_, rfl, _, rfl, _, rfl, v, L, _, _, rfl, hV.same s2, fun o ho => ⟨(hO o ho).mem_iff.mpr r1, (hO o ho).mem_iff.mpr r2⟩, hL, fun H3 s3 => ?_⟩
        have s23 := s2.trans s3
        refine ⟨_, rfl, _, rfl, _, rfl, wb, W, _, _, rfl, hW.same s23, fun H4 s4 => ?_⟩
        refine ⟨_, _, rfl, fun H5 s5 => ?_⟩
        have s35 := (s3.trans s4).trans s5
        have s25 := s2.trans s35
        have hfo5 := s35 _ _ hfo
        have pb5 := pd_same (dP_same s35) pb
        have e2 : (0 : Int) + ((i + 1 + j : Nat) : Int) = (i : Int) + 1 + (j : Nat) := by (first | lia | omega)
        have key := rowU_succ (outP L W) (i : Int) (i + 1 + j)
        rw [e2] at key
        have eo : (!decide ((i : Int) = (i : Int) + 1 + (j : Nat)) && outP L W (i : Int) ((i : Int) + 1 + (j : Nat))) = outB (leadM L (i : Int) ((i : Int) + 1 + (j : Nat))) (netM W (i : Int) ((i : Int) + 1 + (j : Nat))) := by
          unfold outP
          rw [decide_eq_false (by (first | lia | omega)), decide_eq_true (by (first | lia | omega)), Bool.not_false, Bool.true_and, Bool.true_and]
        rw [eo] at key
        refine ⟨_, rfl, ite2 (fun hb => ?_) (fun hb => ?_)⟩
        · rw [if_pos hb] at key
          refine ⟨_, rfl, .inl ⟨rfl, _, SqL.of hfo5⟩, _, rfl, _, rfl, sz2, fun t ft => ?_⟩
          have u1 := same_upd (o := .tup [.int (i : Int), .int ((i : Int) + 1 + (j : Nat))]) ft
          have hfo6 := u1 _ _ hfo5
          refine ⟨fo, xs, _, rfl, rfl, hfo6, small1000 (by (first | lia | omega)), ?_⟩
          refine ⟨_, xs ++ [.ref t], rfl, same_upd' (s25.trans u1) ffo, upd_same, ?_, by rw [List.length_append, List.length_singleton]; (first | lia | omega)⟩
          rw [show i + 1 + (j + 1) = i + 1 + j + 1 from rfl, key, ← List.append_assoc]
          refine pd_append (pd_same (fun _ _ ⟨c, e, hc⟩ => ⟨c, e, by rw [upd_ne (ne_of (u1 _ _ hc) hfo6 (by intro z; cases z))]; exact u1 _ _ hc⟩) pb5) (.cons ⟨t, rfl, ?_⟩ .nil)
          rw [upd_ne (ne_of upd_same hfo6 (by intro z; cases z)), upd_same]
          rfl
        · rw [if_neg hb, List.append_nil] at key
          refine ⟨_, xs, rfl, s25, hfo5, ?_, by (first | lia | omega)⟩
          rw [show i + 1 + (j + 1) = i + 1 + j + 1 from rfl, key]
          exact pb5
      · rintro σ H2 ⟨v7, xs, rfl, s2, hfo, pb, hlen⟩
        refine ⟨_, _, xs, rfl, s2, hfo, ?_, by (first | lia | omega)⟩
        rw [rowsU_succ]
        rw [show i + 1 + (n - ((0 : Int) + (i : Nat) + 1)).toNat = n.toNat by (first | lia | omega)] at pb
        exact pb
    · rintro σ H1 ⟨v6, v7, xs, rfl, s1, hfo, pb, hlen⟩
      rw [rowsU_all] at pb
      have pb' : Paired (dP H1) (outsM n L W) xs := pb
      clear pb
      have hxl := Paired.length pb'
      refine ⟨_, rfl, fo, xs, rfl, .inl (SqL.of hfo), _, _, rfl, rfl, _, rfl, ?_⟩
      have hf1 := s1 _ _ hf
      rcases hcase with ⟨b, hb, rfl, hq⟩ | ⟨h0, rfl, r, hq, hring, hr3, hr6⟩
      · have hq1 := s1 _ _ hq
        obtain ⟨x, hx, t, rfl, ht⟩ : ∃ x, xs[0]? = some x ∧ dP H1 b x := by
          generalize outsM n L W = O at hb pb'
          cases pb' with
          | nil => cases hb
          | cons h t => cases hb; exact ⟨_, rfl, h⟩
        refine iteP (by have := (List.getElem?_eq_some_iff.mp hx).1; (first | lia | omega)) ?_
        refine ⟨_, rfl, f, _, 0, _, rfl, rfl, SqT.of hf1, atI_nat (j := 0) rfl, rfl, _, rfl, iteNS rfl ?_⟩
        refine ⟨_, rfl, f, _, 1, .ref q, rfl, rfl, SqT.of hf1, atI_nat (j := 1) rfl, .ref q, "tuple", true, rfl, .tup_tup (SqT.of hq1), true, rfl, iteF ?_⟩
        refine ⟨_, rfl, f, _, 1, .ref q, rfl, rfl, SqT.of hf1, atI_nat (j := 1) rfl, _, rfl, fo, xs, 0, .ref t, rfl, rfl, SqL.of hfo, atI_nat (j := 0) hx, q, t, _, _, [b.1, b.2], [b.1, b.2], rfl, rfl, SqT.of hq1, SqT.of ht, paired_ints [b.1, b.2], paired_ints _, _, rfl, iteNS rfl ?_⟩
        refine ⟨_, rfl, f, _, 1, .ref q, rfl, rfl, SqT.of hf1, atI_nat (j := 1) rfl, q, _, 0, .int b.1, rfl, rfl, SqT.of hq1, atI_nat (j := 0) rfl, b.1, rfl, true, rfl, iteT ?_⟩
        exact ⟨_, rfl, f, _, 1, .ref q, rfl, rfl, SqT.of hf1, atI_nat (j := 1) rfl, q, _, 1, .int b.2, rfl, rfl, SqT.of hq1, atI_nat (j := 1) rfl, b.2, rfl, k H1 s1⟩
      · have hq1 := s1 _ _ hq
        refine iteN (by rw [h0] at hxl; simp at hxl; (first | lia | omega)) ?_
        refine ⟨_, rfl, f, _, 0, _, rfl, rfl, SqT.of hf1, atI_nat (j := 0) rfl, rfl, _, rfl, iteP rfl ?_⟩
        refine ⟨_, rfl, f, _, 1, .ref q, rfl, rfl, SqT.of hf1, atI_nat (j := 1) rfl, _, rfl, _, rfl, _, rfl, _, rfl, n, v, L, wb, W, rfl, h1, h6, hV.same s1, hO, hL, hW.same s1, g, fun H2 p ys Bd s2 fp hp pB hm => ?_⟩
        exact ⟨q, r, n, p, Bd, rfl, s2 _ _ hq1, ⟨ys, SqL.of hp, pB⟩, ring_congr (fun c hc => (hm c).mpr hc) hring, hr3, hr6, fun H3 s3 => k H3 ((s1.trans s2).trans s3)⟩
end
end Bm
namespace Bm
open PySem L2
def spLaw (K : PySem.W.Frag) : Sp := fun vs H Q _ => ∃ (a : Addr) (ns : List Int), vs = [.ref a] ∧ SqL K H a (ns.map V.int) ∧ ns.length ≤ 63 ∧ ∀ H', Q (.bl true) H'
theorem ordersM_perm {n : Int} {o : List Int} (h : o ∈ ordersM n n.toNat) : o.Perm (rangeI n) := by
  have hlen := ordersM_row o h
  rw [ordersM_eq] at h
  have hall := ext_full (by rw [cands_nil]; exact rangeK_len _) h
  have : (rangeI n).length = n.toNat := rangeK_len _
  exact perm_of_sub (rangeI_nodup n) hall (by (first | lia | omega))
def spOneMore (K : PySem.W.Frag) : Sp := fun vs H Q _ => ∃ (n : Int) (a : Addr) (L : List (List Int)) (b : Addr) (W : List (Int × Int)), vs = [.int n, .ref a, .ref b] ∧ 1 ≤ n ∧ n ≤ 6 ∧ VAt K H a L ∧ Ords n L ∧ L.length ≤ 1000 ∧ WAt K H b W ∧ Good n W ∧
  (∀ c, (outsM n L W).head? = some c → ∀ H' f q, Same H H' → H' f = some (.tup [.str "out", .ref q]) → H' q = some (.tup [.int c.1, .int c.2]) → Q (.ref f) H') ∧
  (outsM n L W = [] → ∀ o, orderedM n (boundM n L W) = some o → ∀ H' f q, Same H H' → H' f = some (.tup [.str "voter", .ref q]) → H' q = some (.tup (o.map V.int)) → Q (.ref f) H') ∧
  (outsM n L W = [] → orderedM n (boundM n L W) = none → ∀ r, RingOk (boundM n L W) r → ∀ H' f q, Same H H' → H q = none → H' f = some (.tup [.str "ring", .ref q]) → H' q = some (.lst (r.map V.int)) → Q (.ref f) H')
theorem take1_snoc {α : Type} (p : α → Bool) {l : List α} {i : Nat} {v : α} (h : l[i]? = some v) (hn : ((l.take i).filter p).take 1 = []) : ((l.take (i + 1)).filter p).take 1 = if p v = true then [v] else [] := by
  rw [take_filter_succ p h]
  have e : (l.take i).filter p = [] := by
    cases z : (l.take i).filter p with
    | nil => rfl
    | cons x y => rw [z] at hn; simp at hn
  rw [e, List.nil_append]
  split <;> rfl
theorem take1_stay {α : Type} (p : α → Bool) {l : List α} {i : Nat} {v : α} (h : l[i]? = some v) (hn : ((l.take i).filter p).take 1 ≠ []) : ((l.take (i + 1)).filter p).take 1 = ((l.take i).filter p).take 1 := by
  rw [take_filter_succ p h]
  cases z : (l.take i).filter p with
  | nil => rw [z] at hn; exact absurd rfl hn
  | cons x y => rfl
def Told (n : Int) (L : List (List Int)) (W : List (Int × Int)) (D : List (List Int)) (H0 H : Hp) (tag : Str) (q : Addr) : Prop :=
  (∃ o : List Int, D.head? = some o ∧ tag = "voter" ∧ H q = some (.tup (o.map V.int)) ∧ o.Perm (rangeI n)) ∨
    D = [] ∧ ((∃ b, (outsM n L W).head? = some b ∧ tag = "out" ∧ H q = some (.tup [.int b.1, .int b.2])) ∨ (outsM n L W = [] ∧ tag = "ring" ∧ ∃ r : List Int, (H q = some (.lst (r.map V.int)) ∧ RingOk (boundM n L W) r ∧ 3 ≤ r.length ∧ r.length ≤ 6) ∧ H0 q = none))
theorem Told.right {n : Int} {L : List (List Int)} {W : List (Int × Int)} {D : List (List Int)} {H0 H : Hp} {tag : Str} {q : Addr} (h : Told n L W D H0 H tag q) :
    (∃ o : List Int, D.head? = some o ∧ tag = "voter" ∧ H q = some (.tup (o.map V.int)) ∧ o.Perm (rangeI n)) ∨
    D = [] ∧ ((∃ b, (outsM n L W).head? = some b ∧ tag = "out" ∧ H q = some (.tup [.int b.1, .int b.2])) ∨ (outsM n L W = [] ∧ tag = "ring" ∧ ∃ r : List Int, H q = some (.lst (r.map V.int)) ∧ RingOk (boundM n L W) r ∧ 3 ≤ r.length ∧ r.length ≤ 6)) := by
  rcases h with h | ⟨h1, h | ⟨h2, h3, r, h4, _⟩⟩
  · exact .inl h
  · exact .inr ⟨h1, .inl h⟩
  · exact .inr ⟨h1, .inr ⟨h2, h3, r, h4⟩⟩
section
variable {P : Program} {w : World} {K : PySem.W.Frag} {mg : Str → Option Value} {base : Heap}
theorem sc_law : FnScope ["script", "many", "voters", "web", "goal", "due", "voter", "handed", "turn", "found"] ["script"] (defScope sLaw) := ⟨rfl, rfl, rfl, by decide +kernel, rfl, by decide +kernel, by decide +kernel⟩
theorem ok_law (d : Def K mg "law" sLaw ["script"]) (B : Blt mg) (dC : Def K mg "_law_cell_at" sCellAt ["script", "k"]) (GC : FnOk P w K mg base CX0 1 dC.f dC.fd ["script", "k"] (spCell K))
    (dV : Def K mg "_law_voters" sVoters ["script", "start", "many", "most"]) (GV : FnOk P w K mg base CX0 2 dV.f dV.fd ["script", "start", "many", "most"] (spLawVoters K))
    (dWd : Def K mg "_law_wished" sWished ["script", "many", "voters"]) (GWd : FnOk P w K mg base CX0 3 dWd.f dWd.fd ["script", "many", "voters"] (spWished K))
    (dOs : Def K mg "_law_orders" sOrders ["many"]) (GOs : FnOk P w K mg base CX0 1 dOs.f dOs.fd ["many"] spOrders)
    (dB : Def K mg "_law_beats" sBeats ["many", "voters"]) (GB : FnOk P w K mg base CX0 2 dB.f dB.fd ["many", "voters"] (spWebP K))
    (dOm : Def K mg "one_more" sOneMore ["many", "voters", "web"]) (GOm : FnOk P w K mg base CX0 5 dOm.f dOm.fd ["many", "voters", "web"] (spOneMore K))
    (dRi : Def K mg "_law_right" sRight ["found", "many", "voters", "web", "due"]) (GRi : FnOk P w K mg base CX0 3 dRi.f dRi.fd ["found", "many", "voters", "web", "due"] (spRight K)) : FnOk P w K mg base CX0 6 d.f d.fd ["script"] (spLaw K) := by
  refine d.F.ok sc_law (fun vs H Q E h => ?_) (fun cdv A outer s H vs Q E hr h => ?_)
  · obtain ⟨a, ns, rfl, _⟩ := h
    rfl
  · obtain ⟨a, ns, rfl, hS, hlen, k⟩ := h
    refine ⟨_, pss_cons (ps_set (i := 1) sc_law.nd rfl (Or.inl rfl) (pe_op op_add pe_int (pe_op op_mod (pe_call GC (hr.mono (by decide)) (by rfl) dC.mgf dC.F.kp dC.b .nil pass0 (pa_cons (pv 0) (pa_cons pe_int pa_nil))) pe_int)))
      (pss_cons (ps_cut (ps_if (pt_cmpR op_eq (pe_op op_mod (pe_op op_fdiv (pe_call GC (hr.mono (by decide)) (by rfl) dC.mgf dC.F.kp dC.b .nil pass0 (pa_cons (pv 0) (pa_cons pe_int pa_nil))) pe_int) pe_int) pe_int (nomark _)) (pss_one (ps_set (i := 1) sc_law.nd rfl (Or.inl rfl) pe_int)) pss_nil))
      (pss_cons (ps_set (i := 2) sc_law.nd rfl (Or.inl rfl) (pe_call GV (hr.mono (by decide)) (by rfl) dV.mgf dV.F.kp dV.b .nil pass0 (pa_cons (pv 0) (pa_cons pe_int (pa_cons (pv 1) (pa_cons pe_int pa_nil))))))
      (pss_cons (ps_set (i := 3) sc_law.nd rfl (Or.inl rfl) (pe_call GWd (hr.mono (by decide)) (by rfl) dWd.mgf dWd.F.kp dWd.b .nil pass0 (pa_cons (pv 0) (pa_cons (pv 1) (pa_cons (pv 2) pa_nil)))))
      (pss_cons (ps_set (i := 4) sc_law.nd rfl (Or.inl rfl) (pe_callB call_sortedP (by rfl) B.sorted PyProof.Rows.boot_sorted (pa_cons (pv 3) pa_nil)))
      (pss_cons (ps_set (i := 5) sc_law.nd rfl (Or.inl rfl) (pe_lst pa_nil))
      (pss_cons (ps_for PassesOwn.never rfl (pi_list (pe_call GOs (hr.mono (by decide)) (by rfl) dOs.mgf dOs.F.kp dOs.b .nil pass0 (pa_cons (pv 1) pa_nil))) (pg_name (i := 6) sc_law.nd rfl (Or.inl rfl))
        (pss_one (ps_if (pt_cut (pw_and (pt_cmpR op_eq (pe_callB call_len_seq (by rfl) B.len PySem.boot_len (pa_cons (pv 5) pa_nil)) pe_int (nomark _)) (pw_and1 (pt_cmpR (op_eqL eq_dP_ok (hu2_of hr)) (pe_call GB (hr.mono (by decide)) (by rfl) dB.mgf dB.F.kp dB.b .nil pass0 (pa_cons (pv 1) (pa_cons (pe_op op_cat (pv 2) (pe_lst (pa_cons (pv 6) pa_nil))) pa_nil))) (pv 4) (nomark _)))).pt) (pss_one (ps_expr (pe_bm PySem.F.plainAttrs_list PySem.F.slot_list_append PySem.F.type_list_append mt_append (pv 5) (pa_cons (pv 6) pa_nil)))) pss_nil)))
      (pss_cons (ps_set (i := 7) sc_law.nd rfl (Or.inl rfl) (pe_lst (pa_cons (pe_callTy call_list_of (by rfl) B.list PyProof.Rows.boot_list (pa_cons (pv 2) pa_nil)) (pa_cons (pe_callTy call_list_of (by rfl) B.list PyProof.Rows.boot_list (pa_cons (pv 3) pa_nil)) pa_nil))))
      (pss_cons (ps_for PassesOwn.never rfl (pi_range1 (by rfl) B.range (pa_cons pe_int pa_nil)) (pg_name (i := 8) sc_law.nd rfl (Or.inl rfl))
        (pss_cons (ps_cut (ps_set (i := 9) sc_law.nd rfl (Or.inl rfl) (pe_call GOm hr (by rfl) dOm.mgf dOm.F.kp dOm.b .nil pass0 (pa_cons (pv 1) (pa_cons (pe_ix ix_list (pv 7) pe_int (fun _ _ => rfl)) (pa_cons (pe_ix ix_list (pv 7) pe_int (fun _ _ => rfl)) pa_nil))))))
        (pss_cons (ps_if (pw_or (pt_not (pt_val (pe_call GRi (hr.mono (by decide)) (by rfl) dRi.mgf dRi.F.kp dRi.b .nil pass0 (pa_cons (pv 9) (pa_cons (pv 1) (pa_cons (pv 2) (pa_cons (pv 3) (pa_cons (pv 5) pa_nil)))))))) (pw_or1 (pt_cmpR (op_neL (eq_lst_ok eq_dT_ok dT_inj) (hu3_of hr)) (pv 7) (pe_lst (pa_cons (pv 2) (pa_cons (pv 3) pa_nil))) (nomark _)))).pt pss_never pss_nil)
        (pss_one (ps_if (pt_cmpR op_eq (pe_ix ix_tup (pv 9) pe_int (fun _ _ => rfl)) pe_str (nomark _)) (pss_one (ps_expr (pe_bm0 PySem.F.plainAttrs_list PySem.F.slot_list_clear PySem.F.type_list_clear mt_clear (pe_ix ix_tup (pv 9) pe_int (fun _ _ => rfl))))) pss_nil)))))
      (pss_one (ps_ret pe_bl)))))))))), ?_⟩
    refine ⟨_, rfl, a, ns, 0, rfl, hS, by decide, _, _, rfl, rfl, (by show (0 : Int) < 5; decide), _, _, rfl, rfl, ?_⟩
    obtain ⟨n0, en, g1, g5⟩ : ∃ n, 1 + ns.getD (0 : Int).toNat 0 % 5 = n ∧ 1 ≤ n ∧ n ≤ 5 := ⟨_, rfl, by have := Int.emod_nonneg (ns.getD (0 : Int).toNat 0) (by decide : (5 : Int) ≠ 0); (first | lia | omega), by have := Int.emod_lt_of_pos (ns.getD (0 : Int).toNat 0) (by decide : (0 : Int) < 5); (first | lia | omega)⟩
    dsimp only
    rw [en]
    refine ⟨fun σ' H' => ∃ n : Int, (1 ≤ n ∧ n ≤ 6) ∧ σ' = [some (.ref a), some (.int n), none, none, none, none, none, none, none, none] ∧ H' = H, ?_, ?_⟩
    · refine ⟨_, rfl, a, ns, 0, rfl, hS, by decide, _, _, rfl, rfl, ⟨by decide, by decide⟩, _, _, rfl, rfl, (by show (0 : Int) < 8; decide), rfl, _, rfl, ite2 (fun _ => ?_) (fun _ => ?_)⟩
      · exact ⟨6, ⟨by decide, by decide⟩, rfl, rfl⟩
      · exact ⟨n0, ⟨by (first | lia | omega), by (first | lia | omega)⟩, rfl, rfl⟩
    rintro σ' H' ⟨n, ⟨h1, h6⟩, rfl, hE⟩
    rw [hE]
    clear hE
    -- voters, web
    refine ⟨_, rfl, _, rfl, a, ns, 1, n, 8, rfl, hS, by decide, h1, h6, by decide, by decide, fun H1 vp vs L s1 fvp hvp pvs hO hL => ?_⟩
    refine ⟨_, rfl, _, rfl, _, rfl, a, ns, n, vp, vs, L, rfl, s1.seq hS, h1, h6, hvp, pvs, hO, hL, fun H2 wb ws W s2 hwb pw g => ?_⟩
    have hWl := g.len
    -- goal, due
    refine ⟨_, rfl, wb, ws, W, rfl, SqL.of hwb, pw, g.nodup, by (first | lia | omega), fun ge gs G fge hpG hsG pG => ?_⟩
    have eG : G = webC n W := webC_of g (fun x => hpG.mem_iff) (pw_lex hsG)
    have t1 := same_upd (o := .lst gs) fge
    have hvp2 := (s2.trans t1) _ _ hvp
    have hwb2 := t1 _ _ hwb
    have pvs2 := pd_same (dT_same (s2.trans t1)) pvs
    have pw2 := pd_same (dP_same t1) pw
    have pG3 := pd_same (dP_same t1) pG
    have hge : (upd H2 ge (.lst gs)) ge = some (.lst gs) := upd_same
    generalize upd H2 ge (.lst gs) = H3 at hvp2 hwb2 pvs2 pw2 hge pG3 ⊢
    refine ⟨Nat.zero_le _, fun du fdu => ?_⟩
    have t2 := same_upd (o := .lst []) fdu
    -- the orders
    refine ⟨_, rfl, n, rfl, h1, h6, fun H4 ro xs s4 fro hro px => ?_⟩
    have hlx := Paired.length px
    have hvl := Paired.length pvs2
    have hdu0 := s4 _ _ (upd_same (H := H3) (a := du) (o := .lst []))
    have hne : ro ≠ du := (ne_of_none (upd_same (H := H3) (a := du) (o := .lst [])) fro).symm
    generalize hp : (fun o : List Int => decide (beatsC n (L ++ [o]) = webC n W)) = p
    refine ⟨ro, rfl, ⟨_, SqL.of hro⟩, for_list (K := K) (a := ro) (xs := xs) (fun i σ H' => ∃ (v6 : Option V) (ds : List V), σ = [some (.ref a), some (.int n), some (.ref vp), some (.ref wb), some (.ref ge), some (.ref du), v6, none, none, none] ∧ Same H3 H' ∧ H' ro = some (.lst xs) ∧ Paired (dT H') (ordersM n n.toNat) xs ∧ H' du = some (.lst ds) ∧ Paired (dT H') ((((ordersM n n.toNat).take i).filter p).take 1) ds)
      ⟨_, [], rfl, t2.trans s4, hro, px, hdu0, .nil⟩ (fun i σ H' _ ⟨_, _, _, _, z, _⟩ => SqL.of z) ?_ ?_⟩
    · rintro i x σ H5 hi ⟨v6, ds, rfl, s5, hro5, px5, hdu5, pd5⟩
      obtain ⟨o, ho, q, rfl, hq⟩ := paired_get px5 hi
      have hperm := ordersM_perm (List.mem_of_getElem? ho)
      have hdl := Paired.length pd5
      have hdl1 : ((((ordersM n n.toNat).take i).filter p).take 1).length ≤ 1 := by rw [List.length_take]; (first | lia | omega)
      have hO' : Ords n (L ++ [o]) := ords_append hO fun o' ho' => by rw [List.mem_singleton.mp ho']; exact hperm
      refine ⟨fun b H' => b = (decide (ds.length = 0) && p o) ∧ Same H5 H', ?_, ?_⟩
      · refine ⟨_, rfl, du, ds, rfl, .inl (SqL.of hdu5), rfl, _, rfl, ite2 (fun q1 => ?_) (fun q1 => ?_)⟩
        · have q1' : ds.length = 0 := by
            have := of_decide_eq_true q1
            injection this with z
            (first | lia | omega)
          refine ⟨_, rfl, _, rfl, _, rfl, sz1, fun l1 fl1 => ?_⟩
          have u1 := same_upd (o := .lst [.ref q]) fl1
          refine ⟨vp, l1, vs, _, rfl, rfl, (s5.trans u1) _ _ hvp2, upd_same, Nat.le_of_lt (small1000 (by show _ + 1 ≤ 1000; (first | lia | omega))), fun c fc => ?_⟩
          have u2 := same_upd (o := .lst (vs ++ [.ref q])) fc
          have u12 := u1.trans u2
          refine ⟨n, c, L ++ [o], rfl, h1, h6, ⟨_, SqL.of upd_same, pd_append (pd_same (dT_same (s5.trans u12)) pvs2) (.cons ⟨q, rfl, u12 _ _ hq⟩ .nil)⟩, hO', by rw [List.length_append, List.length_singleton]; (first | lia | omega), fun H6 bb bs s6 fbb hbb pbb => ?_⟩
          have s56 := u12.trans s6
          refine ⟨_, rfl, bb, ge, bs, gs, _, G, rfl, rfl, SqL.of hbb, SqL.of ((s5.trans s56) _ _ hge), pbb, pd_same (dP_same (s5.trans s56)) pG3, _, rfl, ?_, s56⟩
          rw [decide_eq_true q1', Bool.true_and, ← hp, eG]
        · have q1' : ¬ ds.length = 0 := fun z => q1 (decide_eq_true (by rw [z]; rfl))
          refine ⟨?_, Same.refl _⟩
          rw [decide_eq_false q1', Bool.false_and]
      rintro b' H6 ⟨rfl, s6⟩
      have s36 := s5.trans s6
      have hro6 := s6 _ _ hro5
      have px6 := pd_same (dT_same s6) px5
      have hdu6 := s6 _ _ hdu5
      have pd6 := pd_same (dT_same s6) pd5
      refine ite2 (fun hb => ?_) (fun hb => ?_)
      · rw [Bool.and_eq_true, decide_eq_true_eq] at hb
        have hD0 : (((ordersM n n.toNat).take i).filter p).take 1 = [] := List.length_eq_zero_iff.mp (by (first | lia | omega))
        have key := take1_snoc p ho hD0
        rw [if_pos hb.2] at key
        have hds : ds = [] := List.length_eq_zero_iff.mp hb.1
        refine ⟨_, rfl, .inl ⟨rfl, _, SqL.of hdu6⟩, _, rfl, du, ds, _, rfl, rfl, hdu6, small1000 (by (first | lia | omega)), ?_⟩
        refine ⟨_, ds ++ [.ref q], rfl, same_upd' s36 fdu, by rw [upd_ne hne]; exact hro6, ?_, upd_same, ?_⟩
        · exact pd_same (fun _ _ ⟨c, e, hc⟩ => ⟨c, e, by rw [upd_ne (ne_of hc hdu6 (by intro z; cases z))]; exact hc⟩) px6
        · rw [key, hds]
          refine .cons ⟨q, rfl, ?_⟩ .nil
          rw [upd_ne (ne_of (s6 _ _ hq) hdu6 (by intro z; cases z))]
          exact s6 _ _ hq
      · refine ⟨_, ds, rfl, s36, hro6, px6, hdu6, ?_⟩
        by_cases hD0 : (((ordersM n n.toNat).take i).filter p).take 1 = []
        · have hz : ds.length = 0 := by rw [hD0] at hdl; simpa using hdl.symm
          rw [decide_eq_true hz, Bool.true_and] at hb
          rw [take1_snoc p ho hD0, if_neg hb]
          rw [hD0] at pd6
          exact pd6
        · rw [take1_stay p ho hD0]
          exact pd6
    rintro σ H5 ⟨v6, ds, rfl, s5, hro5, px5, hdu5, pd5⟩
    rw [List.take_of_length_le (l := ordersM n n.toNat) (by (first | lia | omega))] at pd5
    have eD : (ordersM n n.toNat).filter p = doM n L W := by rw [← hp]; rfl
    rw [eD] at pd5
    clear px5 hro5
    have hvp5 := s5 _ _ hvp2
    have hwb5 := s5 _ _ hwb2
    have pvs5 := pd_same (dT_same s5) pvs2
    have pw5 := pd_same (dP_same s5) pw2
    -- handed
    refine ⟨_, rfl, vp, vs, rfl, .inl (SqL.of hvp5), fun c0 f0 => ⟨_, rfl, wb, ws, rfl, .inl (SqL.of ((same_upd f0) _ _ hwb5)), fun c1 f1 => ⟨sz2, fun cc fcc => ?_⟩⟩⟩
    have w1 := same_upd (o := .lst ws) f1
    have w2 := same_upd (o := .lst [.ref c0, .ref c1]) fcc
    have sC := ((same_upd (o := .lst vs) f0).trans w1).trans w2
    have hc0 := (w1.trans w2) c0 (.lst vs) upd_same
    have hc1 := w2 c1 (.lst ws) upd_same
    have hcc : (upd (upd (upd H5 c0 (.lst vs)) c1 (.lst ws)) cc (.lst [.ref c0, .ref c1])) cc = some (.lst [.ref c0, .ref c1]) := upd_same
    have hvpC := sC _ _ hvp5
    have hwbC := sC _ _ hwb5
    have pvsC := pd_same (dT_same sC) pvs5
    have pwC := pd_same (dP_same sC) pw5
    have hduC := sC _ _ hdu5
    have pdC := pd_same (dT_same sC) pd5
    generalize upd (upd (upd H5 c0 (.lst vs)) c1 (.lst ws)) cc (.lst [.ref c0, .ref c1]) = HC at hc0 hc1 hcc hvpC hwbC pvsC pwC hduC pdC ⊢
    generalize hDD : (doM n L W).take 1 = D at pdC
    refine ⟨2, rfl, by decide, by decide, for_range (n := 2) (fun i σ H' => ∃ v6 v8 v9 : Option V, σ = [some (.ref a), some (.int n), some (.ref vp), some (.ref wb), some (.ref ge), some (.ref du), v6, some (.ref cc), v8, v9] ∧ Same HC H') ⟨_, _, _, rfl, Same.refl _⟩ ?_ ?_⟩
    · rintro i σ HB hi ⟨v6, v8, v9, rfl, sB⟩
      have gb := bound_good (n := n) h6 L W
      have hperms : ∀ o ∈ ordersM n n.toNat, o.Perm (rangeI n) := fun o ho => ordersM_perm ho
      refine ⟨fun σ' H' => ∃ (f q : Addr) (tag : Str), σ' = [some (.ref a), some (.int n), some (.ref vp), some (.ref wb), some (.ref ge), some (.ref du), v6, some (.ref cc), some (.int ((0 : Int) + (i : Nat))), some (.ref f)] ∧ Same HB H' ∧ H' f = some (.tup [.str tag, .ref q]) ∧ Told n L W D HC H' tag q, ?_, ?_⟩
      · refine ⟨_, rfl, _, rfl, cc, _, 0, .ref c0, rfl, rfl, SqL.of (sB _ _ hcc), atI_nat (j := 0) rfl, _, rfl, cc, _, 1, .ref c1, rfl, rfl, SqL.of (sB _ _ hcc), atI_nat (j := 1) rfl, n, c0, L, c1, W, rfl, h1, h6, ⟨vs, SqL.of (sB _ _ hc0), pd_same (dT_same sB) pvsC⟩, hO, by (first | lia | omega), ⟨ws, SqL.of (sB _ _ hc1), pd_same (dP_same sB) pwC⟩, g, fun c hc H' f q s' hf hq => ?_, fun h0 o ho H' f q s' hf hq => ?_, fun h0 hno r hr' H' f q s' fq hf hq => ?_⟩
        · refine ⟨f, q, _, rfl, s', hf, .inr ⟨?_, .inl ⟨c, hc, rfl, hq⟩⟩⟩
          rw [← hDD, do_out hO g hperms (fun z => by rw [z] at hc; cases hc)]
          rfl
        · refine ⟨f, q, _, rfl, s', hf, .inl ?_⟩
          rcases ordered_ok gb with ⟨o', e', z1, z2, z3⟩ | ⟨e', _⟩
          · rw [ho] at e'
            cases e'
            refine ⟨o, ?_, rfl, hq, z1⟩
            rw [← hDD, do_in hO g hperms h0]
            rw [List.head?_take, if_neg (by decide)]
            exact z2
          · rw [ho] at e'; cases e'
        · refine ⟨f, q, _, rfl, s', hf, .inr ⟨?_, .inr ⟨h0, rfl, r, ⟨hq, hr', hr'.three gb, ?_⟩, sB.free fq⟩⟩⟩
          · rcases ordered_ok gb with ⟨o', e', _⟩ | ⟨_, z1, _⟩
            · rw [hno] at e'; cases e'
            · rw [← hDD, do_in hO g hperms h0, z1]
              rfl
          · have := hr'.len gb
            (first | lia | omega)
      rintro σ' H6 ⟨f, q, tag, rfl, s6, hf, hT⟩
      have sC6 := sB.trans s6
      refine ⟨_, rfl, _, rfl, _, rfl, _, rfl, _, rfl, f, n, vp, L, wb, W, du, ds, D, tag, q, rfl, h1, h6, ⟨vs, SqL.of (sC6 _ _ hvpC), pd_same (dT_same sC6) pvsC⟩, hO, by (first | lia | omega), ⟨ws, SqL.of (sC6 _ _ hwbC), pd_same (dP_same sC6) pwC⟩, g, hf, sC6 _ _ hduC, pd_same (dT_same sC6) pdC, hT.right, fun H7 s7 => ⟨true, rfl, iteF ?_⟩⟩
      refine ⟨_, rfl, _, rfl, _, rfl, sz2, fun u fu => ?_⟩
      have sG := same_upd (o := .lst [.ref vp, .ref wb]) fu
      have sCG := (sC6.trans s7).trans sG
      refine ⟨cc, u, _, _, [L, W.map toL], [L, W.map toL], rfl, rfl, SqL.of (sCG _ _ hcc), SqL.of upd_same, .cons ⟨c0, vs, rfl, sCG _ _ hc0, pd_same (dT_same sCG) pvsC⟩ (.cons ⟨c1, ws, rfl, sCG _ _ hc1, pd_ofL (pd_same (dP_same sCG) pwC)⟩ .nil),
        .cons ⟨vp, vs, rfl, sCG _ _ hvpC, pd_same (dT_same sCG) pvsC⟩ (.cons ⟨wb, ws, rfl, sCG _ _ hwbC, pd_ofL (pd_same (dP_same sCG) pwC)⟩ .nil), _, rfl, iteS rfl ?_⟩
      have s6G := s7.trans sG
      have hfG := s6G _ _ hf
      refine ⟨_, rfl, f, _, 0, .str tag, rfl, rfl, SqT.of hfG, atI_nat (j := 0) rfl, rfl, _, rfl, ite2 (fun hb => ?_) (fun hb => ?_)⟩
      · have et : tag = "ring" := by
          have := of_decide_eq_true hb
          injection this
        rcases hT with ⟨o, _, e, _⟩ | ⟨_, ⟨b, _, e, _⟩ | ⟨_, _, r, ⟨hq, _⟩, fq⟩⟩
        · rw [et] at e; exact absurd e (by decide)
        · rw [et] at e; exact absurd e (by decide)
        · have hqG := s6G _ _ hq
          refine ⟨_, rfl, f, _, 1, .ref q, rfl, rfl, SqT.of hfG, atI_nat (j := 1) rfl, .inl ⟨rfl, _, SqL.of hqG⟩, q, _, rfl, rfl, hqG, ?_⟩
          exact ⟨_, _, _, rfl, same_upd' sCG fq⟩
      · exact ⟨_, _, _, rfl, sCG⟩
    · rintro σ HB _
      exact k HB
end
end Bm
namespace Bm
open PySem L2
def spOrRing (K : PySem.W.Frag) : Sp := fun vs H Q _ => ∃ (n : Int) (a : Addr) (W : List (Int × Int)), vs = [.int n, .ref a] ∧ 1 ≤ n ∧ n ≤ 6 ∧ WAt K H a W ∧ Good n W ∧
  (∀ o, orderedM n W = some o → ∀ H' f q, Same H H' → H' f = some (.tup [.str "voter", .ref q]) → H' q = some (.tup (o.map V.int)) → Q (.ref f) H') ∧
  (orderedM n W = none → ∀ r, RingOk W r → ∀ H' f q, Same H H' → H q = none → H' f = some (.tup [.str "ring", .ref q]) → H' q = some (.lst (r.map V.int)) → Q (.ref f) H')
section
variable {P : Program} {w : World} {K : PySem.W.Frag} {mg : Str → Option Value} {base : Heap}
theorem sc_order_or_ring : FnScope ["many", "binding", "order"] ["many", "binding"] (defScope sOrderOrRing) := ⟨rfl, rfl, rfl, by decide +kernel, rfl, by decide +kernel, by decide +kernel⟩
theorem ok_orderOrRing (d : Def K mg "order_or_ring" sOrderOrRing ["many", "binding"]) (dOd : Def K mg "ordered" sOrdered ["many", "web"]) (GOd : FnOk P w K mg base CX0 3 dOd.f dOd.fd ["many", "web"] (spOrdered K))
    (dR : Def K mg "ring" sRing ["many", "web"]) (GR : FnOk P w K mg base CX0 3 dR.f dR.fd ["many", "web"] (spRing K)) : FnOk P w K mg base CX0 4 d.f d.fd ["many", "binding"] (spOrRing K) := by
  refine d.F.ok sc_order_or_ring (fun vs H Q E h => ?_) (fun cdv A outer s H vs Q E hr h => ?_)
  · obtain ⟨n, a, W, rfl, _⟩ := h
    rfl
  · obtain ⟨n, a, W, rfl, h1, h6, hW, g, kV, kR⟩ := h
    refine ⟨_, pss_cons (ps_set (i := 2) sc_order_or_ring.nd rfl (Or.inl rfl) (pe_call GOd hr (by rfl) dOd.mgf dOd.F.kp dOd.b .nil pass0 (pa_cons (pv 0) (pa_cons (pv 1) pa_nil))))
      (pss_cons (ps_if (pt_cmpR op_isN (pv 2) pe_non (nomark _)) (pss_one (ps_ret (pe_tup (pa_cons pe_str (pa_cons (pe_call GR hr (by rfl) dR.mgf dR.F.kp dR.b .nil pass0 (pa_cons (pv 0) (pa_cons (pv 1) pa_nil))) pa_nil))))) pss_nil)
      (pss_one (ps_ret (pe_tup (pa_cons pe_str (pa_cons (pv 2) pa_nil)))))), ?_⟩
    refine ⟨_, rfl, _, rfl, n, a, W, rfl, h1, h6, hW, g, fun e H1 s1 => ?_, fun o e H1 p s1 fp hp => ?_⟩
    · refine ⟨_, rfl, rfl, _, rfl, iteP rfl ?_⟩
      refine ⟨_, rfl, _, rfl, n, a, W, rfl, h1, h6, hW.same s1, g, fun z => ?_, fun r lr H2 q s2 fq hq => ?_⟩
      · rcases ordered_ok g with ⟨o, e', _⟩ | ⟨_, _, x, m, hx, hw⟩
        · rw [e] at e'; cases e'
        · exact absurd hw (z x hx m)
      · exact ⟨sz2, fun f ff => kR e r lr.ring _ f q ((s1.trans s2).trans (same_upd ff)) (s1.free fq) upd_same ((same_upd ff) _ _ hq)⟩
    · refine ⟨_, rfl, rfl, _, rfl, iteN (fun z => by cases z) ?_⟩
      exact ⟨_, rfl, sz2, fun f ff => kV o e _ f p (s1.trans (same_upd ff)) upd_same ((same_upd ff) _ _ hp)⟩
theorem sc_one_more : FnScope ["many", "voters", "web", "binding", "one", "other", "now", "wish", "ahead_will_do", "behind_will_do"] ["many", "voters", "web"] (defScope sOneMore) := ⟨rfl, rfl, rfl, by decide +kernel, rfl, by decide +kernel, by decide +kernel⟩
theorem ok_oneMore (d : Def K mg "one_more" sOneMore ["many", "voters", "web"]) (dV : Def K mg "check_voters" sCheckVoters ["many", "voters"]) (GV : FnOk P w K mg base CX0 2 dV.f dV.fd ["many", "voters"] (spVoters K))
    (dW : Def K mg "check_web" sCheckWeb ["many", "web"]) (GW : FnOk P w K mg base CX0 2 dW.f dW.fd ["many", "web"] (spCheckWeb K))
    (dP' : Def K mg "pairs_of" sPairsOf ["many"]) (GP : FnOk P w K mg base CX0 1 dP'.f dP'.fd ["many"] spPairs)
    (dA : Def K mg "lead_among" sLeadAmong ["voters", "one", "other"]) (GA : FnOk P w K mg base CX0 1 dA.f dA.fd ["voters", "one", "other"] (spAmong K))
    (dWi : Def K mg "wish_of" sWishOf ["web", "one", "other"]) (GWi : FnOk P w K mg base CX0 1 dWi.f dWi.fd ["web", "one", "other"] (spWishG K))
    (dS : Def K mg "sign_of" sSignOf ["number"]) (GS : FnOk P w K mg base CX0 1 dS.f dS.fd ["number"] spSign)
    (dOr : Def K mg "order_or_ring" sOrderOrRing ["many", "binding"]) (GOr : FnOk P w K mg base CX0 4 dOr.f dOr.fd ["many", "binding"] (spOrRing K)) : FnOk P w K mg base CX0 5 d.f d.fd ["many", "voters", "web"] (spOneMore K) := by
  refine d.F.ok sc_one_more (fun vs H Q E h => ?_) (fun cdv A outer s H vs Q E hr h => ?_)
  · obtain ⟨n, a, L, b, W, rfl, _⟩ := h
    rfl
  · obtain ⟨n, a, L, b, W, rfl, h1, h6, hV, hO, hL, hW, g, kO, kV, kR⟩ := h
    refine ⟨_, pss_cons (ps_expr (pe_call GV (hr.mono (by decide)) (by rfl) dV.mgf dV.F.kp dV.b .nil pass0 (pa_cons (pv 0) (pa_cons (pv 1) pa_nil))))
      (pss_cons (ps_expr (pe_call GW (hr.mono (by decide)) (by rfl) dW.mgf dW.F.kp dW.b .nil pass0 (pa_cons (pv 0) (pa_cons (pv 2) pa_nil))))
      (pss_cons (ps_set (i := 3) sc_one_more.nd rfl (Or.inl rfl) (pe_lst pa_nil))
      (pss_cons (ps_for PassesOwn.never rfl (pi_list (pe_call GP (hr.mono (by decide)) (by rfl) dP'.mgf dP'.F.kp dP'.b .nil pass0 (pa_cons (pv 0) pa_nil))) (pg_tup rfl (pgs_cons (pg_name (i := 4) sc_one_more.nd rfl (Or.inl rfl)) (pgs_cons (pg_name (i := 5) sc_one_more.nd rfl (Or.inl rfl)) pgs_nil)))
        (pss_cons (ps_set (i := 6) sc_one_more.nd rfl (Or.inl rfl) (pe_call GA (hr.mono (by decide)) (by rfl) dA.mgf dA.F.kp dA.b .nil pass0 (pa_cons (pv 1) (pa_cons (pv 4) (pa_cons (pv 5) pa_nil)))))
        (pss_cons (ps_set (i := 7) sc_one_more.nd rfl (Or.inl rfl) (pe_call GWi (hr.mono (by decide)) (by rfl) dWi.mgf dWi.F.kp dWi.b .nil pass0 (pa_cons (pv 2) (pa_cons (pv 4) (pa_cons (pv 5) pa_nil)))))
        (pss_cons (ps_set (i := 8) sc_one_more.nd rfl (Or.inl rfl) (pe_cmpR op_eq (pe_call GS (hr.mono (by decide)) (by rfl) dS.mgf dS.F.kp dS.b .nil pass0 (pa_cons (pe_op op_add (pv 6) pe_int) pa_nil)) (pv 7) (nomark _)))
        (pss_cons (ps_set (i := 9) sc_one_more.nd rfl (Or.inl rfl) (pe_cmpR op_eq (pe_call GS (hr.mono (by decide)) (by rfl) dS.mgf dS.F.kp dS.b .nil pass0 (pa_cons (pe_op op_sub (pv 6) pe_int) pa_nil)) (pv 7) (nomark _)))
        (pss_cons (ps_if (pt_cut (pw_and (pt_not (pt_val (pv 8))) (pw_and1 (pt_not (pt_val (pv 9))))).pt) (pss_one (ps_ret (pe_tup (pa_cons pe_str (pa_cons (pe_tup (pa_cons (pv 4) (pa_cons (pv 5) pa_nil))) pa_nil))))) pss_nil)
        (pss_cons (ps_cut (ps_if (pt_not (pt_val (pv 9))) (pss_one (ps_expr (pe_bm PySem.F.plainAttrs_list PySem.F.slot_list_append PySem.F.type_list_append mt_append (pv 3) (pa_cons (pe_tup (pa_cons (pv 4) (pa_cons (pv 5) pa_nil))) pa_nil)))) pss_nil))
        (pss_one (ps_if (pt_not (pt_val (pv 8))) (pss_one (ps_expr (pe_bm PySem.F.plainAttrs_list PySem.F.slot_list_append PySem.F.type_list_append mt_append (pv 3) (pa_cons (pe_tup (pa_cons (pv 5) (pa_cons (pv 4) pa_nil))) pa_nil)))) pss_nil)))))))))
      (pss_one (ps_ret (pe_call GOr hr (by rfl) dOr.mgf dOr.F.kp dOr.b .nil pass0 (pa_cons (pv 0) (pa_cons (pv 3) pa_nil)))))))), ?_⟩
    refine ⟨_, rfl, _, rfl, n, a, L, rfl, h1, h6, hV, hO, fun H0 s0 => ?_⟩
    refine ⟨_, rfl, _, rfl, n, b, W, rfl, h1, h6, hW.same s0, g, fun H1 s1 => ?_⟩
    have s01 := s0.trans s1
    refine ⟨Nat.zero_le _, fun bi fbi => ?_⟩
    have s2 := s01.trans (same_upd (o := .lst []) fbi)
    have fbi0 : H bi = none := s01.free fbi
    have hbi2 : (upd H1 bi (.lst [])) bi = some (.lst []) := upd_same
    generalize upd H1 bi (.lst []) = H2 at s2 hbi2 ⊢
    refine ⟨_, rfl, n, rfl, by (first | lia | omega), h6, fun H3 pa xs s3 fpa hpa px => ?_⟩
    have hlx := Paired.length px
    have hpl := pairs_len h6
    have npb : pa ≠ bi := fun e => by rw [e, hbi2] at fpa; cases fpa
    refine ⟨pa, rfl, ⟨_, SqL.of hpa⟩, for_list (K := K) (a := pa) (xs := xs) (fun i σ H' => ∃ (v4 v5 v6 v7 v8 v9 : Option V) (bs : List V), σ = [some (.int n), some (.ref a), some (.ref b), some (.ref bi), v4, v5, v6, v7, v8, v9] ∧ Same H H' ∧ H' pa = some (.lst xs) ∧ Paired (dP H') (pairsM n) xs ∧
        H' bi = some (.lst bs) ∧ Paired (dP H') (bindsM L W ((pairsM n).take i)) bs ∧ ∀ c ∈ (pairsM n).take i, outB (leadM L c.1 c.2) (netM W c.1 c.2) = false)
      ⟨_, _, _, _, _, _, [], rfl, s2.trans s3, hpa, px, s3 _ _ hbi2, .nil, fun c hc => (by cases hc)⟩ (fun i σ H' _ ⟨_, _, _, _, _, _, _, _, _, z, _⟩ => SqL.of z) ?_ ?_⟩
    · rintro i x σ H4 hi ⟨v4, v5, v6, v7, v8, v9, bs, rfl, s4, hpa4, px4, hbi4, pb4, hno⟩
      obtain ⟨c, hc, q, rfl, hq⟩ := paired_get px4 hi
      have hcm : c ∈ pairsM n := List.mem_of_getElem? hc
      obtain ⟨c1, c2⟩ := c
      have hm := pairs_mem.mp hcm
      have hbl : bs.length ≤ 36 := by
        have z1 := Paired.length pb4
        have z2 := binds_len L W ((pairsM n).take i)
        rw [List.length_take] at z2
        (first | lia | omega)
      refine ⟨q, _, rfl, SqT.of hq, rfl, _, _, rfl, _, _, rfl, rfl, ?_⟩
      refine ⟨_, rfl, _, rfl, _, rfl, a, L, c1, c2, rfl, hV.same s4, fun o ho => ⟨(hO o ho).mem_iff.mpr hm.1, (hO o ho).mem_iff.mpr hm.2.1⟩, hL, fun H5 s5 => ?_⟩
      refine ⟨_, rfl, _, rfl, _, rfl, b, W, c1, c2, rfl, hW.same (s4.trans s5), fun z => g.asym _ z, fun H6 s6 => ?_⟩
      have t46 := s5.trans s6
      have s06 := s4.trans t46
      have hpa6 := t46 _ _ hpa4
      have px6 := pd_same (dP_same t46) px4
      have hbi6 := t46 _ _ hbi4
      have pb6 := pd_same (dP_same t46) pb4
      have hwi3 : netM W c1 c2 = 1 ∨ netM W c1 c2 = -1 ∨ netM W c1 c2 = 0 := by
        rcases net_range g c1 c2 with ⟨z, _⟩ | ⟨z, _⟩ | ⟨z, _⟩
        · exact .inl z
        · exact .inr (.inl z)
        · exact .inr (.inr z)
      have hwd := will_do (now := leadM L c1 c2) hwi3
      have bstep : bindsM L W ((pairsM n).take (i + 1)) = bindsM L W ((pairsM n).take i) ++ ((if 0 < bindZ (leadM L c1 c2) (netM W c1 c2) then [(c1, c2)] else []) ++ (if bindZ (leadM L c1 c2) (netM W c1 c2) < 0 then [(c2, c1)] else [])) := by
        rw [List.take_add_one, hc]
        unfold bindsM
        rw [List.flatMap_append]
        congr 1
        show [(c1, c2)].flatMap (bindL L W) = _
        rw [List.flatMap_cons, List.flatMap_nil, List.append_nil]
        rfl
      have head : outB (leadM L c1 c2) (netM W c1 c2) = true → (outsM n L W).head? = some (c1, c2) := fun z => by
        rw [outs_filter]
        exact head_filter hc z hno
      have hno' : outB (leadM L c1 c2) (netM W c1 c2) = false → ∀ c ∈ (pairsM n).take (i + 1), outB (leadM L c.1 c.2) (netM W c.1 c.2) = false := fun z c hcc => by
        rcases take_succ_mem hc hcc with y | rfl
        · exact hno c y
        · exact z
      generalize leadM L c1 c2 = now at hwd bstep head hno' ⊢
      generalize netM W c1 c2 = wi at hwd bstep head hno' ⊢
      refine ⟨_, rfl, _, _, rfl, rfl, _, rfl, _, rfl, rfl, ?_⟩
      refine ⟨_, rfl, _, _, rfl, rfl, _, rfl, _, rfl, rfl, ?_⟩
      rw [decV, decV]
      refine ⟨fun b' H' => b' = outB now wi ∧ H' = H6, ?_, ?_⟩
      · refine ⟨_, rfl, _, rfl, ite2 (fun z1 => ⟨_, rfl, _, rfl, ?_, rfl⟩) (fun z1 => ⟨?_, rfl⟩)⟩
        · have y1 : ¬ sgI (now + 1) = wi := by simpa using z1
          have x1 := fun z => y1 (hwd.1.mpr z)
          by_cases y2 : sgI (now - 1) = wi
          · rw [decide_eq_true y2]
            exact (hwd.2.mp y2).1.symm
          · have x2 := fun z => y2 (hwd.2.mpr z)
            rw [decide_eq_false y2]
            cases ho : outB now wi with
            | true => rfl
            | false =>
              have w1 : bindZ now wi < 0 := Classical.byContradiction fun w => x1 ⟨ho, w⟩
              have w2 : 0 < bindZ now wi := Classical.byContradiction fun w => x2 ⟨ho, w⟩
              (first | lia | omega)
        · have y1 : sgI (now + 1) = wi := by simpa using z1
          exact (hwd.1.mp y1).1.symm
      rintro b' H' ⟨rfl, hE⟩
      rw [hE]
      clear hE
      refine ite2 (fun hout => ?_) (fun hout => ?_)
      · refine ⟨_, rfl, _, rfl, sz2, fun t1 ft1 => ⟨sz2, fun t2 ft2 => ?_⟩⟩
        exact kO (c1, c2) (head hout) _ t2 t1 ((s06.trans (same_upd ft1)).trans (same_upd ft2)) upd_same ((same_upd ft2) _ _ upd_same)
      have hout' : outB now wi = false := by simpa using hout
      have e1 : (sgI (now + 1) = wi) ↔ ¬ bindZ now wi < 0 := ⟨fun z => (hwd.1.mp z).2, fun z => hwd.1.mpr ⟨hout', z⟩⟩
      have e2 : (sgI (now - 1) = wi) ↔ ¬ 0 < bindZ now wi := ⟨fun z => (hwd.2.mp z).2, fun z => hwd.2.mpr ⟨hout', z⟩⟩
      have hno2 := hno' hout'
      -- the first that binds
      refine ⟨fun σ' H' => σ' = [some (.int n), some (.ref a), some (.ref b), some (.ref bi), some (.int c1), some (.int c2), some (.int now), some (.int wi), some (.bl (decide (sgI (now + 1) = wi))), some (.bl (decide (sgI (now - 1) = wi)))] ∧ Same H H' ∧ H' pa = some (.lst xs) ∧ Paired (dP H') (pairsM n) xs ∧
        ∃ bs1, H' bi = some (.lst bs1) ∧ Paired (dP H') (bindsM L W ((pairsM n).take i) ++ (if 0 < bindZ now wi then [(c1, c2)] else [])) bs1 ∧ bs1.length ≤ 37, ?_, ?_⟩
      · refine ⟨_, rfl, _, rfl, ite2 (fun z => ?_) (fun z => ?_)⟩
        · have z' : 0 < bindZ now wi := Classical.byContradiction fun w => absurd (e2.mpr w) (by simpa using z)
          rw [if_pos z']
          refine ⟨_, rfl, .inl ⟨rfl, _, SqL.of hbi6⟩, _, rfl, _, rfl, sz2, fun t ft => ?_⟩
          have u := same_upd (o := .tup [.int c1, .int c2]) ft
          have hbi7 := u _ _ hbi6
          refine ⟨bi, bs, _, rfl, rfl, hbi7, small1000 (by (first | lia | omega)), ?_⟩
          refine ⟨rfl, same_upd' (s06.trans u) fbi0, by rw [upd_ne npb]; exact u _ _ hpa6, pd_same (fun _ _ ⟨c, e, hc⟩ => ⟨c, e, by rw [upd_ne (ne_of (u _ _ hc) hbi7 (by intro z; cases z))]; exact u _ _ hc⟩) px6, bs ++ [.ref t], upd_same, ?_, by rw [List.length_append, List.length_singleton]; (first | lia | omega)⟩
          refine pd_append (pd_same (fun _ _ ⟨c, e, hc⟩ => ⟨c, e, by rw [upd_ne (ne_of (u _ _ hc) hbi7 (by intro z; cases z))]; exact u _ _ hc⟩) pb6) (.cons ⟨t, rfl, ?_⟩ .nil)
          rw [upd_ne (ne_of upd_same hbi7 (by intro z; cases z)), upd_same]
          rfl
        · have z' : ¬ 0 < bindZ now wi := fun w => absurd w (e2.mp (by simpa using z))
          rw [if_neg z', List.append_nil]
          exact ⟨rfl, s06, hpa6, px6, bs, hbi6, pb6, by (first | lia | omega)⟩
      rintro σ' H7 ⟨rfl, s7, hpa7, px7, bs1, hbi7, pb7, hbl7⟩
      -- the second
      refine ⟨_, rfl, _, rfl, ite2 (fun z => ?_) (fun z => ?_)⟩
      · have z' : bindZ now wi < 0 := Classical.byContradiction fun w => absurd (e1.mpr w) (by simpa using z)
        rw [if_pos z'] at bstep
        refine ⟨_, rfl, .inl ⟨rfl, _, SqL.of hbi7⟩, _, rfl, _, rfl, sz2, fun t ft => ?_⟩
        have u := same_upd (o := .tup [.int c2, .int c1]) ft
        have hbi8 := u _ _ hbi7
        refine ⟨bi, bs1, _, rfl, rfl, hbi8, small1000 (by (first | lia | omega)), ?_⟩
        refine ⟨_, _, _, _, _, _, bs1 ++ [.ref t], rfl, same_upd' (s7.trans u) fbi0, by rw [upd_ne npb]; exact u _ _ hpa7, pd_same (fun _ _ ⟨c, e, hc⟩ => ⟨c, e, by rw [upd_ne (ne_of (u _ _ hc) hbi8 (by intro z; cases z))]; exact u _ _ hc⟩) px7, upd_same, ?_, hno2⟩
        rw [bstep, ← List.append_assoc]
        refine pd_append (pd_same (fun _ _ ⟨c, e, hc⟩ => ⟨c, e, by rw [upd_ne (ne_of (u _ _ hc) hbi8 (by intro z; cases z))]; exact u _ _ hc⟩) pb7) (.cons ⟨t, rfl, ?_⟩ .nil)
        rw [upd_ne (ne_of upd_same hbi8 (by intro z; cases z)), upd_same]
        rfl
      · have z' : ¬ bindZ now wi < 0 := fun w => absurd w (e1.mp (by simpa using z))
        rw [if_neg z', List.append_nil] at bstep
        refine ⟨_, _, _, _, _, _, bs1, rfl, s7, hpa7, px7, hbi7, ?_, hno2⟩
        rw [bstep]
        exact pb7
    · rintro σ H4 ⟨v4, v5, v6, v7, v8, v9, bs, rfl, s4, hpa4, px4, hbi4, pb4, hno⟩
      rw [List.take_of_length_le (by (first | lia | omega))] at pb4 hno
      have hnil : outsM n L W = [] := by
        rw [outs_filter]
        exact List.filter_eq_nil_iff.mpr fun c hc => by rw [hno c hc]; exact Bool.false_ne_true
      refine ⟨_, rfl, _, rfl, n, bi, _, rfl, h1, h6, ⟨bs, SqL.of hbi4, pb4⟩, binds_good h6 L W, fun o e H5 f q s5 hf hq => ?_, fun e r hr' H5 f q s5 fq hf hq => ?_⟩
      · exact kV hnil o (by rw [← e]; exact (ordered_congr fun _ => binds_mem).symm) H5 f q (s4.trans s5) hf hq
      · exact kR hnil (by rw [← e]; exact (ordered_congr fun _ => binds_mem).symm) r (ring_congr (fun _ => binds_mem.mp) hr') H5 f q (s4.trans s5) (s4.free fq) hf hq
end
end Bm
namespace Bm
open PySem L2
def mkDef {K : PySem.W.Frag} {h : Heap} {mg : Str → Option Value} (X : K.In h) (G : h.Ns mainGlobals mg) {x : Str} {st : Stmt} {ps : List Str} {f : Addr} {oc : Value} {od an : Option Addr} {osl : Array (Option Value)} {kV doc pm cdv ct : Value}
    (a : PySem.W.nsIn K mainGlobals x = some (some (.ref f))) (l : K.lookup f = some ⟨oc, od, .func (PySem.W.fnOf x x (defArgs st) (defBody st) (defScope st) .none kV doc pm an cdv ct), osl⟩) (c : PySem.W.codeIn K cdv x = true) (k : PySem.W.keepIn K (.ref f) = true)
    (hb : ∀ (kV doc pm : Value) (an : Option Addr) (cdv ct : Value) (us : List Value), us.length = ps.length → bindArgs (PySem.W.fnOf x x (defArgs st) (defBody st) (defScope st) .none kV doc pm an cdv ct) ⟨us, []⟩ = pure (ps.zip us)) : Def K mg x st ps :=
  ⟨f, _, fun_mk (st := st) l c k, PySem.W.mg_of X G a, (fun_mk (st := st) l c k).binds hb⟩
theorem all_mk {l : PySem.W.OpenLaw} {w : World} {K : PySem.W.Frag} {h : Heap} {mg : Str → Option Value} {fa f1 f2 f3 f4 f5 f6 f7 f8 f9 f10 f11 f12 f13 f14 f15 f16 f17 f18 f19 f20 f21 f22 f23 f24 f25 f26 f27 f28 f29 f30 f31 : Addr} (X : K.In h) (G : h.Ns mainGlobals mg) (hfa : mg "law" = some (.ref fa))
    {od1 an1 od2 an2 od3 an3 od4 an4 od5 an5 od6 an6 od7 an7 od8 an8 od9 an9 od10 an10 od11 an11 od12 an12 od13 an13 od14 an14 od15 an15 od16 an16 od17 an17 od18 an18 od19 an19 od20 an20 od21 an21 od22 an22 od23 an23 od24 an24 od25 an25 od26 an26 od27 an27 od28 an28 od29 an29 od30 an30 od31 an31 : Option Addr} {sl1 sl2 sl3 sl4 sl5 sl6 sl7 sl8 sl9 sl10 sl11 sl12 sl13 sl14 sl15 sl16 sl17 sl18 sl19 sl20 sl21 sl22 sl23 sl24 sl25 sl26 sl27 sl28 sl29 sl30 sl31 : Array (Option Value)} {oc1 kV1 dc1 pm1 cd1 ct1 oc2 kV2 dc2 pm2 cd2 ct2 oc3 kV3 dc3 pm3 cd3 ct3 oc4 kV4 dc4 pm4 cd4 ct4 oc5 kV5 dc5 pm5 cd5 ct5 oc6 kV6 dc6 pm6 cd6 ct6 oc7 kV7 dc7 pm7 cd7 ct7 oc8 kV8 dc8 pm8 cd8 ct8 oc9 kV9 dc9 pm9 cd9 ct9 oc10 kV10 dc10 pm10 cd10 ct10 oc11 kV11 dc11 pm11 cd11 ct11 oc12 kV12 dc12 pm12 cd12 ct12 oc13 kV13 dc13 pm13 cd13 ct13 oc14 kV14 dc14 pm14 cd14 ct14 oc15 kV15 dc15 pm15 cd15 ct15 oc16 kV16 dc16 pm16 cd16 ct16 oc17 kV17 dc17 pm17 cd17 ct17 oc18 kV18 dc18 pm18 cd18 ct18 oc19 kV19 dc19 pm19 cd19 ct19 oc20 kV20 dc20 pm20 cd20 ct20 oc21 kV21 dc21 pm21 cd21 ct21 oc22 kV22 dc22 pm22 cd22 ct22 oc23 kV23 dc23 pm23 cd23 ct23 oc24 kV24 dc24 pm24 cd24 ct24 oc25 kV25 dc25 pm25 cd25 ct25 oc26 kV26 dc26 pm26 cd26 ct26 oc27 kV27 dc27 pm27 cd27 ct27 oc28 kV28 dc28 pm28 cd28 ct28 oc29 kV29 dc29 pm29 cd29 ct29 oc30 kV30 dc30 pm30 cd30 ct30 oc31 kV31 dc31 pm31 cd31 ct31 : Value} {tM : Tok}
    (a1 : PySem.W.nsIn K mainGlobals "check_count" = some (some (.ref f1))) (l1 : K.lookup f1 = some ⟨oc1, od1, .func (PySem.W.fnOf "check_count" "check_count" (defArgs sCheckCount) (defBody sCheckCount) (defScope sCheckCount) .none kV1 dc1 pm1 an1 cd1 ct1), sl1⟩) (c1 : PySem.W.codeIn K cd1 "check_count" = true) (k1 : PySem.W.keepIn K (.ref f1) = true)
    (a2 : PySem.W.nsIn K mainGlobals "check_voters" = some (some (.ref f2))) (l2 : K.lookup f2 = some ⟨oc2, od2, .func (PySem.W.fnOf "check_voters" "check_voters" (defArgs sCheckVoters) (defBody sCheckVoters) (defScope sCheckVoters) .none kV2 dc2 pm2 an2 cd2 ct2), sl2⟩) (c2 : PySem.W.codeIn K cd2 "check_voters" = true) (k2 : PySem.W.keepIn K (.ref f2) = true)
    (a3 : PySem.W.nsIn K mainGlobals "check_web" = some (some (.ref f3))) (l3 : K.lookup f3 = some ⟨oc3, od3, .func (PySem.W.fnOf "check_web" "check_web" (defArgs sCheckWeb) (defBody sCheckWeb) (defScope sCheckWeb) .none kV3 dc3 pm3 an3 cd3 ct3), sl3⟩) (c3 : PySem.W.codeIn K cd3 "check_web" = true) (k3 : PySem.W.keepIn K (.ref f3) = true)
    (a4 : PySem.W.nsIn K mainGlobals "lead_among" = some (some (.ref f4))) (l4 : K.lookup f4 = some ⟨oc4, od4, .func (PySem.W.fnOf "lead_among" "lead_among" (defArgs sLeadAmong) (defBody sLeadAmong) (defScope sLeadAmong) .none kV4 dc4 pm4 an4 cd4 ct4), sl4⟩) (c4 : PySem.W.codeIn K cd4 "lead_among" = true) (k4 : PySem.W.keepIn K (.ref f4) = true)
    (a5 : PySem.W.nsIn K mainGlobals "pairs_of" = some (some (.ref f5))) (l5 : K.lookup f5 = some ⟨oc5, od5, .func (PySem.W.fnOf "pairs_of" "pairs_of" (defArgs sPairsOf) (defBody sPairsOf) (defScope sPairsOf) .none kV5 dc5 pm5 an5 cd5 ct5), sl5⟩) (c5 : PySem.W.codeIn K cd5 "pairs_of" = true) (k5 : PySem.W.keepIn K (.ref f5) = true)
    (a6 : PySem.W.nsIn K mainGlobals "wish_of" = some (some (.ref f6))) (l6 : K.lookup f6 = some ⟨oc6, od6, .func (PySem.W.fnOf "wish_of" "wish_of" (defArgs sWishOf) (defBody sWishOf) (defScope sWishOf) .none kV6 dc6 pm6 an6 cd6 ct6), sl6⟩) (c6 : PySem.W.codeIn K cd6 "wish_of" = true) (k6 : PySem.W.keepIn K (.ref f6) = true)
    (a7 : PySem.W.nsIn K mainGlobals "ring" = some (some (.ref f7))) (l7 : K.lookup f7 = some ⟨oc7, od7, .func (PySem.W.fnOf "ring" "ring" (defArgs sRing) (defBody sRing) (defScope sRing) .none kV7 dc7 pm7 an7 cd7 ct7), sl7⟩) (c7 : PySem.W.codeIn K cd7 "ring" = true) (k7 : PySem.W.keepIn K (.ref f7) = true)
    (a8 : PySem.W.nsIn K mainGlobals "ring_from" = some (some (.ref f8))) (l8 : K.lookup f8 = some ⟨oc8, od8, .func (PySem.W.fnOf "ring_from" "ring_from" (defArgs sRingFrom) (defBody sRingFrom) (defScope sRingFrom) .none kV8 dc8 pm8 an8 cd8 ct8), sl8⟩) (c8 : PySem.W.codeIn K cd8 "ring_from" = true) (k8 : PySem.W.keepIn K (.ref f8) = true)
    (a9 : PySem.W.nsIn K mainGlobals "beaten_by" = some (some (.ref f9))) (l9 : K.lookup f9 = some ⟨oc9, od9, .func (PySem.W.fnOf "beaten_by" "beaten_by" (defArgs sBeaten) (defBody sBeaten) (defScope sBeaten) .none kV9 dc9 pm9 an9 cd9 ct9), sl9⟩) (c9 : PySem.W.codeIn K cd9 "beaten_by" = true) (k9 : PySem.W.keepIn K (.ref f9) = true)
    (a10 : PySem.W.nsIn K mainGlobals "ordered" = some (some (.ref f10))) (l10 : K.lookup f10 = some ⟨oc10, od10, .func (PySem.W.fnOf "ordered" "ordered" (defArgs sOrdered) (defBody sOrdered) (defScope sOrdered) .none kV10 dc10 pm10 an10 cd10 ct10), sl10⟩) (c10 : PySem.W.codeIn K cd10 "ordered" = true) (k10 : PySem.W.keepIn K (.ref f10) = true)
    (a11 : PySem.W.nsIn K mainGlobals "first_unbeaten" = some (some (.ref f11))) (l11 : K.lookup f11 = some ⟨oc11, od11, .func (PySem.W.fnOf "first_unbeaten" "first_unbeaten" (defArgs sUnb) (defBody sUnb) (defScope sUnb) .none kV11 dc11 pm11 an11 cd11 ct11), sl11⟩) (c11 : PySem.W.codeIn K cd11 "first_unbeaten" = true) (k11 : PySem.W.keepIn K (.ref f11) = true)
    (a12 : PySem.W.nsIn K mainGlobals "one_more" = some (some (.ref f12))) (l12 : K.lookup f12 = some ⟨oc12, od12, .func (PySem.W.fnOf "one_more" "one_more" (defArgs sOneMore) (defBody sOneMore) (defScope sOneMore) .none kV12 dc12 pm12 an12 cd12 ct12), sl12⟩) (c12 : PySem.W.codeIn K cd12 "one_more" = true) (k12 : PySem.W.keepIn K (.ref f12) = true)
    (a13 : PySem.W.nsIn K mainGlobals "order_or_ring" = some (some (.ref f13))) (l13 : K.lookup f13 = some ⟨oc13, od13, .func (PySem.W.fnOf "order_or_ring" "order_or_ring" (defArgs sOrderOrRing) (defBody sOrderOrRing) (defScope sOrderOrRing) .none kV13 dc13 pm13 an13 cd13 ct13), sl13⟩) (c13 : PySem.W.codeIn K cd13 "order_or_ring" = true) (k13 : PySem.W.keepIn K (.ref f13) = true)
    (a14 : PySem.W.nsIn K mainGlobals "sign_of" = some (some (.ref f14))) (l14 : K.lookup f14 = some ⟨oc14, od14, .func (PySem.W.fnOf "sign_of" "sign_of" (defArgs sSignOf) (defBody sSignOf) (defScope sSignOf) .none kV14 dc14 pm14 an14 cd14 ct14), sl14⟩) (c14 : PySem.W.codeIn K cd14 "sign_of" = true) (k14 : PySem.W.keepIn K (.ref f14) = true)
    (a15 : PySem.W.nsIn K mainGlobals "_law_cell_at" = some (some (.ref f15))) (l15 : K.lookup f15 = some ⟨oc15, od15, .func (PySem.W.fnOf "_law_cell_at" "_law_cell_at" (defArgs sCellAt) (defBody sCellAt) (defScope sCellAt) .none kV15 dc15 pm15 an15 cd15 ct15), sl15⟩) (c15 : PySem.W.codeIn K cd15 "_law_cell_at" = true) (k15 : PySem.W.keepIn K (.ref f15) = true)
    (a16 : PySem.W.nsIn K mainGlobals "_law_whole" = some (some (.ref f16))) (l16 : K.lookup f16 = some ⟨oc16, od16, .func (PySem.W.fnOf "_law_whole" "_law_whole" (defArgs sWhole) (defBody sWhole) (defScope sWhole) .none kV16 dc16 pm16 an16 cd16 ct16), sl16⟩) (c16 : PySem.W.codeIn K cd16 "_law_whole" = true) (k16 : PySem.W.keepIn K (.ref f16) = true)
    (a17 : PySem.W.nsIn K mainGlobals "_law_order" = some (some (.ref f17))) (l17 : K.lookup f17 = some ⟨oc17, od17, .func (PySem.W.fnOf "_law_order" "_law_order" (defArgs sOrder) (defBody sOrder) (defScope sOrder) .none kV17 dc17 pm17 an17 cd17 ct17), sl17⟩) (c17 : PySem.W.codeIn K cd17 "_law_order" = true) (k17 : PySem.W.keepIn K (.ref f17) = true)
    (a18 : PySem.W.nsIn K mainGlobals "_law_voters" = some (some (.ref f18))) (l18 : K.lookup f18 = some ⟨oc18, od18, .func (PySem.W.fnOf "_law_voters" "_law_voters" (defArgs sVoters) (defBody sVoters) (defScope sVoters) .none kV18 dc18 pm18 an18 cd18 ct18), sl18⟩) (c18 : PySem.W.codeIn K cd18 "_law_voters" = true) (k18 : PySem.W.keepIn K (.ref f18) = true)
    (a19 : PySem.W.nsIn K mainGlobals "_law_lead" = some (some (.ref f19))) (l19 : K.lookup f19 = some ⟨oc19, od19, .func (PySem.W.fnOf "_law_lead" "_law_lead" (defArgs sLawLead) (defBody sLawLead) (defScope sLawLead) .none kV19 dc19 pm19 an19 cd19 ct19), sl19⟩) (c19 : PySem.W.codeIn K cd19 "_law_lead" = true) (k19 : PySem.W.keepIn K (.ref f19) = true)
    (a20 : PySem.W.nsIn K mainGlobals "_law_beats" = some (some (.ref f20))) (l20 : K.lookup f20 = some ⟨oc20, od20, .func (PySem.W.fnOf "_law_beats" "_law_beats" (defArgs sBeats) (defBody sBeats) (defScope sBeats) .none kV20 dc20 pm20 an20 cd20 ct20), sl20⟩) (c20 : PySem.W.codeIn K cd20 "_law_beats" = true) (k20 : PySem.W.keepIn K (.ref f20) = true)
    (a21 : PySem.W.nsIn K mainGlobals "_law_web" = some (some (.ref f21))) (l21 : K.lookup f21 = some ⟨oc21, od21, .func (PySem.W.fnOf "_law_web" "_law_web" (defArgs sLawWeb) (defBody sLawWeb) (defScope sLawWeb) .none kV21 dc21 pm21 an21 cd21 ct21), sl21⟩) (c21 : PySem.W.codeIn K cd21 "_law_web" = true) (k21 : PySem.W.keepIn K (.ref f21) = true)
    (a22 : PySem.W.nsIn K mainGlobals "_law_orders" = some (some (.ref f22))) (l22 : K.lookup f22 = some ⟨oc22, od22, .func (PySem.W.fnOf "_law_orders" "_law_orders" (defArgs sOrders) (defBody sOrders) (defScope sOrders) .none kV22 dc22 pm22 an22 cd22 ct22), sl22⟩) (c22 : PySem.W.codeIn K cd22 "_law_orders" = true) (k22 : PySem.W.keepIn K (.ref f22) = true)
    (a23 : PySem.W.nsIn K mainGlobals "_law_is_ring" = some (some (.ref f23))) (l23 : K.lookup f23 = some ⟨oc23, od23, .func (PySem.W.fnOf "_law_is_ring" "_law_is_ring" (defArgs sIsRing) (defBody sIsRing) (defScope sIsRing) .none kV23 dc23 pm23 an23 cd23 ct23), sl23⟩) (c23 : PySem.W.codeIn K cd23 "_law_is_ring" = true) (k23 : PySem.W.keepIn K (.ref f23) = true)
    (a24 : PySem.W.nsIn K mainGlobals "_law_is_order" = some (some (.ref f24))) (l24 : K.lookup f24 = some ⟨oc24, od24, .func (PySem.W.fnOf "_law_is_order" "_law_is_order" (defArgs sIsOrder) (defBody sIsOrder) (defScope sIsOrder) .none kV24 dc24 pm24 an24 cd24 ct24), sl24⟩) (c24 : PySem.W.codeIn K cd24 "_law_is_order" = true) (k24 : PySem.W.keepIn K (.ref f24) = true)
    (a25 : PySem.W.nsIn K mainGlobals "_law_out" = some (some (.ref f25))) (l25 : K.lookup f25 = some ⟨oc25, od25, .func (PySem.W.fnOf "_law_out" "_law_out" (defArgs sLawOut) (defBody sLawOut) (defScope sLawOut) .none kV25 dc25 pm25 an25 cd25 ct25), sl25⟩) (c25 : PySem.W.codeIn K cd25 "_law_out" = true) (k25 : PySem.W.keepIn K (.ref f25) = true)
    (a26 : PySem.W.nsIn K mainGlobals "_law_wish" = some (some (.ref f26))) (l26 : K.lookup f26 = some ⟨oc26, od26, .func (PySem.W.fnOf "_law_wish" "_law_wish" (defArgs sLawWish) (defBody sLawWish) (defScope sLawWish) .none kV26 dc26 pm26 an26 cd26 ct26), sl26⟩) (c26 : PySem.W.codeIn K cd26 "_law_wish" = true) (k26 : PySem.W.keepIn K (.ref f26) = true)
    (a27 : PySem.W.nsIn K mainGlobals "_law_bound" = some (some (.ref f27))) (l27 : K.lookup f27 = some ⟨oc27, od27, .func (PySem.W.fnOf "_law_bound" "_law_bound" (defArgs sLawBound) (defBody sLawBound) (defScope sLawBound) .none kV27 dc27 pm27 an27 cd27 ct27), sl27⟩) (c27 : PySem.W.codeIn K cd27 "_law_bound" = true) (k27 : PySem.W.keepIn K (.ref f27) = true)
    (a28 : PySem.W.nsIn K mainGlobals "_law_turned" = some (some (.ref f28))) (l28 : K.lookup f28 = some ⟨oc28, od28, .func (PySem.W.fnOf "_law_turned" "_law_turned" (defArgs sTurned) (defBody sTurned) (defScope sTurned) .none kV28 dc28 pm28 an28 cd28 ct28), sl28⟩) (c28 : PySem.W.codeIn K cd28 "_law_turned" = true) (k28 : PySem.W.keepIn K (.ref f28) = true)
    (a29 : PySem.W.nsIn K mainGlobals "_law_wished" = some (some (.ref f29))) (l29 : K.lookup f29 = some ⟨oc29, od29, .func (PySem.W.fnOf "_law_wished" "_law_wished" (defArgs sWished) (defBody sWished) (defScope sWished) .none kV29 dc29 pm29 an29 cd29 ct29), sl29⟩) (c29 : PySem.W.codeIn K cd29 "_law_wished" = true) (k29 : PySem.W.keepIn K (.ref f29) = true)
    (a30 : PySem.W.nsIn K mainGlobals "_law_right" = some (some (.ref f30))) (l30 : K.lookup f30 = some ⟨oc30, od30, .func (PySem.W.fnOf "_law_right" "_law_right" (defArgs sRight) (defBody sRight) (defScope sRight) .none kV30 dc30 pm30 an30 cd30 ct30), sl30⟩) (c30 : PySem.W.codeIn K cd30 "_law_right" = true) (k30 : PySem.W.keepIn K (.ref f30) = true)
    (a31 : PySem.W.nsIn K mainGlobals "law" = some (some (.ref f31))) (l31 : K.lookup f31 = some ⟨oc31, od31, .func (PySem.W.fnOf "law" "law" (defArgs sLaw) (defBody sLaw) (defScope sLaw) .none kV31 dc31 pm31 an31 cd31 ct31), sl31⟩) (c31 : PySem.W.codeIn K cd31 "law" = true) (k31 : PySem.W.keepIn K (.ref f31) = true)
    (m1 : PySem.W.nsIn K mainGlobals "MOST_THINGS" = some (some (.int 6 tM)))
    (z1 : PySem.W.nsIn K mainGlobals "range" = some none)
    (z2 : PySem.W.nsIn K mainGlobals "len" = some none)
    (z3 : PySem.W.nsIn K mainGlobals "list" = some none)
    (z4 : PySem.W.nsIn K mainGlobals "sorted" = some none)
    (z5 : PySem.W.nsIn K mainGlobals "tuple" = some none)
    (z6 : PySem.W.nsIn K mainGlobals "isinstance" = some none)
    (z7 : PySem.W.nsIn K mainGlobals "int" = some none)
    (z8 : PySem.W.nsIn K mainGlobals "bool" = some none)
    (z9 : PySem.W.nsIn K mainGlobals "all" = some none)
    (z10 : PySem.W.nsIn K mainGlobals "set" = some none)
    (z11 : PySem.W.nsIn K mainGlobals "reversed" = some none)
    (z12 : PySem.W.nsIn K mainGlobals "str" = some none)
    : ∃ fd : FuncData, (∀ (s : Shared) (v : Value), BindsTo s fd ⟨[v], []⟩ [("script", v)]) ∧ ∀ base : Heap, K.In base → base.Ns mainGlobals mg → FnOk l.prog w K mg base CX0 6 fa fd ["script"] (spLaw K) := by
  have e := hfa.symm.trans (PySem.W.mg_of X G a31)
  cases e
  let d1 : Def K mg "check_count" sCheckCount ["many"] := mkDef X G a1 l1 c1 k1 fun _ _ _ _ _ _ us hl => match us, hl with | [_], _ => rfl
  let d2 : Def K mg "check_voters" sCheckVoters ["many", "voters"] := mkDef X G a2 l2 c2 k2 fun _ _ _ _ _ _ us hl => match us, hl with | [_, _], _ => rfl
  let d3 : Def K mg "check_web" sCheckWeb ["many", "web"] := mkDef X G a3 l3 c3 k3 fun _ _ _ _ _ _ us hl => match us, hl with | [_, _], _ => rfl
  let d4 : Def K mg "lead_among" sLeadAmong ["voters", "one", "other"] := mkDef X G a4 l4 c4 k4 fun _ _ _ _ _ _ us hl => match us, hl with | [_, _, _], _ => rfl
  let d5 : Def K mg "pairs_of" sPairsOf ["many"] := mkDef X G a5 l5 c5 k5 fun _ _ _ _ _ _ us hl => match us, hl with | [_], _ => rfl
  let d6 : Def K mg "wish_of" sWishOf ["web", "one", "other"] := mkDef X G a6 l6 c6 k6 fun _ _ _ _ _ _ us hl => match us, hl with | [_, _, _], _ => rfl
  let d7 : Def K mg "ring" sRing ["many", "web"] := mkDef X G a7 l7 c7 k7 fun _ _ _ _ _ _ us hl => match us, hl with | [_, _], _ => rfl
  let d8 : Def K mg "ring_from" sRingFrom ["web", "start"] := mkDef X G a8 l8 c8 k8 fun _ _ _ _ _ _ us hl => match us, hl with | [_, _], _ => rfl
  let d9 : Def K mg "beaten_by" sBeaten ["web", "thing"] := mkDef X G a9 l9 c9 k9 fun _ _ _ _ _ _ us hl => match us, hl with | [_, _], _ => rfl
  let d10 : Def K mg "ordered" sOrdered ["many", "web"] := mkDef X G a10 l10 c10 k10 fun _ _ _ _ _ _ us hl => match us, hl with | [_, _], _ => rfl
  let d11 : Def K mg "first_unbeaten" sUnb ["web", "left"] := mkDef X G a11 l11 c11 k11 fun _ _ _ _ _ _ us hl => match us, hl with | [_, _], _ => rfl
  let d12 : Def K mg "one_more" sOneMore ["many", "voters", "web"] := mkDef X G a12 l12 c12 k12 fun _ _ _ _ _ _ us hl => match us, hl with | [_, _, _], _ => rfl
  let d13 : Def K mg "order_or_ring" sOrderOrRing ["many", "binding"] := mkDef X G a13 l13 c13 k13 fun _ _ _ _ _ _ us hl => match us, hl with | [_, _], _ => rfl
  let d14 : Def K mg "sign_of" sSignOf ["number"] := mkDef X G a14 l14 c14 k14 fun _ _ _ _ _ _ us hl => match us, hl with | [_], _ => rfl
  let d15 : Def K mg "_law_cell_at" sCellAt ["script", "k"] := mkDef X G a15 l15 c15 k15 fun _ _ _ _ _ _ us hl => match us, hl with | [_, _], _ => rfl
  let d16 : Def K mg "_law_whole" sWhole ["found"] := mkDef X G a16 l16 c16 k16 fun _ _ _ _ _ _ us hl => match us, hl with | [_], _ => rfl
  let d17 : Def K mg "_law_order" sOrder ["cell", "many"] := mkDef X G a17 l17 c17 k17 fun _ _ _ _ _ _ us hl => match us, hl with | [_, _], _ => rfl
  let d18 : Def K mg "_law_voters" sVoters ["script", "start", "many", "most"] := mkDef X G a18 l18 c18 k18 fun _ _ _ _ _ _ us hl => match us, hl with | [_, _, _, _], _ => rfl
  let d19 : Def K mg "_law_lead" sLawLead ["voters", "one", "other"] := mkDef X G a19 l19 c19 k19 fun _ _ _ _ _ _ us hl => match us, hl with | [_, _, _], _ => rfl
  let d20 : Def K mg "_law_beats" sBeats ["many", "voters"] := mkDef X G a20 l20 c20 k20 fun _ _ _ _ _ _ us hl => match us, hl with | [_, _], _ => rfl
  let d21 : Def K mg "_law_web" sLawWeb ["script", "start", "many"] := mkDef X G a21 l21 c21 k21 fun _ _ _ _ _ _ us hl => match us, hl with | [_, _, _], _ => rfl
  let d22 : Def K mg "_law_orders" sOrders ["many"] := mkDef X G a22 l22 c22 k22 fun _ _ _ _ _ _ us hl => match us, hl with | [_], _ => rfl
  let d23 : Def K mg "_law_is_ring" sIsRing ["found", "many", "web"] := mkDef X G a23 l23 c23 k23 fun _ _ _ _ _ _ us hl => match us, hl with | [_, _, _], _ => rfl
  let d24 : Def K mg "_law_is_order" sIsOrder ["found", "many"] := mkDef X G a24 l24 c24 k24 fun _ _ _ _ _ _ us hl => match us, hl with | [_, _], _ => rfl
  let d25 : Def K mg "_law_out" sLawOut ["now", "wished"] := mkDef X G a25 l25 c25 k25 fun _ _ _ _ _ _ us hl => match us, hl with | [_, _], _ => rfl
  let d26 : Def K mg "_law_wish" sLawWish ["web", "one", "other"] := mkDef X G a26 l26 c26 k26 fun _ _ _ _ _ _ us hl => match us, hl with | [_, _, _], _ => rfl
  let d27 : Def K mg "_law_bound" sLawBound ["many", "voters", "web"] := mkDef X G a27 l27 c27 k27 fun _ _ _ _ _ _ us hl => match us, hl with | [_, _, _], _ => rfl
  let d28 : Def K mg "_law_turned" sTurned ["web", "many", "cell"] := mkDef X G a28 l28 c28 k28 fun _ _ _ _ _ _ us hl => match us, hl with | [_, _, _], _ => rfl
  let d29 : Def K mg "_law_wished" sWished ["script", "many", "voters"] := mkDef X G a29 l29 c29 k29 fun _ _ _ _ _ _ us hl => match us, hl with | [_, _, _], _ => rfl
  let d30 : Def K mg "_law_right" sRight ["found", "many", "voters", "web", "due"] := mkDef X G a30 l30 c30 k30 fun _ _ _ _ _ _ us hl => match us, hl with | [_, _, _, _, _], _ => rfl
  let d31 : Def K mg "law" sLaw ["script"] := mkDef X G a31 l31 c31 k31 fun _ _ _ _ _ _ us hl => match us, hl with | [_], _ => rfl
  have y1 := PySem.W.mg_none_of X G z1
  have y2 := PySem.W.mg_none_of X G z2
  have y3 := PySem.W.mg_none_of X G z3
  have y4 := PySem.W.mg_none_of X G z4
  have y5 := PySem.W.mg_none_of X G z5
  have y6 := PySem.W.mg_none_of X G z6
  have y7 := PySem.W.mg_none_of X G z7
  have y8 := PySem.W.mg_none_of X G z8
  have y9 := PySem.W.mg_none_of X G z9
  have y10 := PySem.W.mg_none_of X G z10
  have y11 := PySem.W.mg_none_of X G z11
  have y12 := PySem.W.mg_none_of X G z12
  have x1 := PySem.W.mg_of X G m1
  have B : Blt mg := ⟨y1, y2, y3, y4, y5, y6, y7, y8, y9, y10, y11, y12⟩
  have Gb : Glob mg := ⟨tM, x1⟩
  refine ⟨d31.fd, fun s v => .of_eq rfl, fun base _ _ => ?_⟩
  have G1 := ok_count (P := l.prog) (w := w) (base := base) d1 Gb
  have G2 := ok_checkVoters d2 B d1 G1
  have G3 := ok_checkWeb d3 d1 G1
  have G4 := ok_among (P := l.prog) (w := w) (base := base) d4 B
  have G5 := ok_pairsOf (P := l.prog) (w := w) (base := base) d5 B
  have G6 := ok_wishOf (P := l.prog) (w := w) (base := base) d6
  have G9 := ok_beaten (P := l.prog) (w := w) (base := base) d9
  have G8 := ok_ringFrom d8 B d9 G9
  have G7 := ok_ring d7 B d3 G3 d8 G8
  have G11 := ok_unb (P := l.prog) (w := w) (base := base) d11
  have G10 := ok_ordered d10 B d3 G3 d11 G11
  have G13 := ok_orderOrRing d13 d10 G10 d7 G7
  have G14 := ok_signOf (P := l.prog) (w := w) (base := base) d14
  have G12 := ok_oneMore d12 d2 G2 d3 G3 d5 G5 d4 G4 d6 G6 d14 G14 d13 G13
  have G15 := ok_cell (P := l.prog) (w := w) (base := base) d15 B
  have G16 := ok_whole (P := l.prog) (w := w) (base := base) d16 B
  have G17 := ok_order (P := l.prog) (w := w) (base := base) d17 B
  have G18 := ok_lawVoters d18 B d15 G15 d17 G17
  have G19 := ok_lawLead (P := l.prog) (w := w) (base := base) d19 B
  have G20 := ok_beats d20 B d19 G19
  have G21 := ok_lawWeb d21 B d15 G15 d17 G17
  have G22 := ok_orders (P := l.prog) (w := w) (base := base) d22 B
  have G23 := ok_isRing d23 B d16 G16
  have G24 := ok_isOrder d24 B d16 G16
  have G25 := ok_lawOut (P := l.prog) (w := w) (base := base) d25 B
  have G26 := ok_lawWish (P := l.prog) (w := w) (base := base) d26 B
  have G27 := ok_lawBound d27 B d19 G19 d26 G26
  have G28 := ok_lawTurned (P := l.prog) (w := w) (base := base) d28 B
  have G29 := ok_lawWished d29 B d15 G15 d17 G17 d21 G21 d20 (G20.imp spWebP_of) d28 G28
  have G30 := ok_lawRight d30 B d19 G19 d26 G26 d25 G25 d27 G27 d16 G16 d24 G24 d23 G23
  exact ok_law d31 B d15 G15 d18 G18 d29 G29 d22 G22 d20 (G20.imp spWebP_of) d12 G12 d30 G30
theorem walk {l : PySem.W.OpenLaw} {q : Program} {loose : List Str} {XP : (Str → Option Value) → Heap → Prop} {YP : World → Heap → Prop} {d : DefRec} {K : Params → PySem.W.Frag} (hn : l.most = some 63) (hdf : d.params.defaults = [])
    (hY : ∀ (w : World) (h : Heap), YP w h → (K w.params).In h)
    (F : ∀ (w : World) (mg : Str → Option Value) (fa : Addr) (h : Heap), (K w.params).In h → h.Ns mainGlobals mg → mg d.name = some (.ref fa) →
      ∃ fd : FuncData, (∀ (s : Shared) (u : Value), BindsTo s fd ⟨[u], []⟩ [("script", u)]) ∧ ∀ base : Heap, (K w.params).In base → base.Ns mainGlobals mg → FnOk l.prog w (K w.params) mg base CX0 6 fa fd ["script"] (spLaw (K w.params))) :
    PySem.W.WalkO q loose XP YP l.row.toRowW d [] (fun f vs => PySem.call f vs) :=
  L2.walk_of (n := 63) (k := 6) (x := "script") (CX := fun _ => CX0) (sp := fun w => spLaw (K w.params)) hn (by decide) hdf ⟨rfl, by decide, by decide⟩ hY F (fun _ _ a ns hl _ hS => ⟨a, ns, rfl, hS, hl, fun _ => rfl⟩) fun _ _ _ _ _ z => z
end Bm
open PySem PySem.W PyProof.Rows
set_option maxRecDepth 100000 in
set_option maxHeartbeats 0 in
theorem PySem.Challenge.cw_beatmakers_k05_whole_one_voter_more_holds : PySem.Challenge.rw_beatmakers_k05_whole_one_voter_more.Holds := by
  w_on; o_law; k_head; (case hw => w_witness2)
  k_fill
  refine Bm.walk (l := PySem.Challenge.rw_beatmakers_k05_whole_one_voter_more) rfl rfl (fun w h Y => PySem.W.kIn_of Y) ?F
  case F =>
    intro w mg fa h KX G hmg
    refine' Bm.all_mk KX G hmg ?a1 ?l1 ?c1 ?k1 ?a2 ?l2 ?c2 ?k2 ?a3 ?l3 ?c3 ?k3 ?a4 ?l4 ?c4 ?k4 ?a5 ?l5 ?c5 ?k5 ?a6 ?l6 ?c6 ?k6 ?a7 ?l7 ?c7 ?k7 ?a8 ?l8 ?c8 ?k8 ?a9 ?l9 ?c9 ?k9 ?a10 ?l10 ?c10 ?k10 ?a11 ?l11 ?c11 ?k11 ?a12 ?l12 ?c12 ?k12 ?a13 ?l13 ?c13 ?k13 ?a14 ?l14 ?c14 ?k14 ?a15 ?l15 ?c15 ?k15 ?a16 ?l16 ?c16 ?k16 ?a17 ?l17 ?c17 ?k17 ?a18 ?l18 ?c18 ?k18 ?a19 ?l19 ?c19 ?k19 ?a20 ?l20 ?c20 ?k20 ?a21 ?l21 ?c21 ?k21 ?a22 ?l22 ?c22 ?k22 ?a23 ?l23 ?c23 ?k23 ?a24 ?l24 ?c24 ?k24 ?a25 ?l25 ?c25 ?k25 ?a26 ?l26 ?c26 ?k26 ?a27 ?l27 ?c27 ?k27 ?a28 ?l28 ?c28 ?k28 ?a29 ?l29 ?c29 ?k29 ?a30 ?l30 ?c30 ?k30 ?a31 ?l31 ?c31 ?k31 ?m1 ?z1 ?z2 ?z3 ?z4 ?z5 ?z6 ?z7 ?z8 ?z9 ?z10 ?z11 ?z12
    (case a1 => k_is); (case l1 => k_is); (case c1 => k_is); (case k1 => k_is)
    (case a2 => k_is); (case l2 => k_is); (case c2 => k_is); (case k2 => k_is)
    (case a3 => k_is); (case l3 => k_is); (case c3 => k_is); (case k3 => k_is)
    (case a4 => k_is); (case l4 => k_is); (case c4 => k_is); (case k4 => k_is)
    (case a5 => k_is); (case l5 => k_is); (case c5 => k_is); (case k5 => k_is)
    (case a6 => k_is); (case l6 => k_is); (case c6 => k_is); (case k6 => k_is)
    (case a7 => k_is); (case l7 => k_is); (case c7 => k_is); (case k7 => k_is)
    (case a8 => k_is); (case l8 => k_is); (case c8 => k_is); (case k8 => k_is)
    (case a9 => k_is); (case l9 => k_is); (case c9 => k_is); (case k9 => k_is)
    (case a10 => k_is); (case l10 => k_is); (case c10 => k_is); (case k10 => k_is)
    (case a11 => k_is); (case l11 => k_is); (case c11 => k_is); (case k11 => k_is)
    (case a12 => k_is); (case l12 => k_is); (case c12 => k_is); (case k12 => k_is)
    (case a13 => k_is); (case l13 => k_is); (case c13 => k_is); (case k13 => k_is)
    (case a14 => k_is); (case l14 => k_is); (case c14 => k_is); (case k14 => k_is)
    (case a15 => k_is); (case l15 => k_is); (case c15 => k_is); (case k15 => k_is)
    (case a16 => k_is); (case l16 => k_is); (case c16 => k_is); (case k16 => k_is)
    (case a17 => k_is); (case l17 => k_is); (case c17 => k_is); (case k17 => k_is)
    (case a18 => k_is); (case l18 => k_is); (case c18 => k_is); (case k18 => k_is)
    (case a19 => k_is); (case l19 => k_is); (case c19 => k_is); (case k19 => k_is)
    (case a20 => k_is); (case l20 => k_is); (case c20 => k_is); (case k20 => k_is)
    (case a21 => k_is); (case l21 => k_is); (case c21 => k_is); (case k21 => k_is)
    (case a22 => k_is); (case l22 => k_is); (case c22 => k_is); (case k22 => k_is)
    (case a23 => k_is); (case l23 => k_is); (case c23 => k_is); (case k23 => k_is)
    (case a24 => k_is); (case l24 => k_is); (case c24 => k_is); (case k24 => k_is)
    (case a25 => k_is); (case l25 => k_is); (case c25 => k_is); (case k25 => k_is)
    (case a26 => k_is); (case l26 => k_is); (case c26 => k_is); (case k26 => k_is)
    (case a27 => k_is); (case l27 => k_is); (case c27 => k_is); (case k27 => k_is)
    (case a28 => k_is); (case l28 => k_is); (case c28 => k_is); (case k28 => k_is)
    (case a29 => k_is); (case l29 => k_is); (case c29 => k_is); (case k29 => k_is)
    (case a30 => k_is); (case l30 => k_is); (case c30 => k_is); (case k30 => k_is)
    (case a31 => k_is); (case l31 => k_is); (case c31 => k_is); (case k31 => k_is)
    (case m1 => k_is); (case z1 => k_is); (case z2 => k_is); (case z3 => k_is)
    (case z4 => k_is); (case z5 => k_is); (case z6 => k_is); (case z7 => k_is)
    (case z8 => k_is); (case z9 => k_is); (case z10 => k_is); (case z11 => k_is)
    (case z12 => k_is)
