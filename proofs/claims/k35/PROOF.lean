import PyProof.Rows.All
import Wide.All
import OpenK.AllK
import Wide.FinOn
import Lean
import PyProof.EqAt
import PyProof.EqKinds
import PyProof.TupleCall
import PySem.Challenge.RW_nearnames_k35_come_to
set_option Elab.async false
set_option linter.all false
set_option maxRecDepth 100000
namespace L2
open PySem PySem.Spec PyProof.Rows
abbrev Key := Sum Int Str
def keyIs : Key → Value → Bool
  | .inl k, v => Value.isInt k v
  | .inr x, v => Value.isStrOf x v
def keyH (w : World) : Key → Int
  | .inl k => hashInt k
  | .inr x => hashStr w x
theorem keyIs_shape : ∀ {k : Key} {v : Value}, keyIs k v = true → (∃ i t, k = Sum.inl i ∧ v = Value.int i t) ∨ (∃ x t, k = Sum.inr x ∧ v = Value.str x t)
  | .inl i, v, h => by
    obtain ⟨t, e⟩ := Value.isInt_shape (k := i) (v := v) h
    exact .inl ⟨i, t, rfl, e⟩
  | .inr x, v, h => by
    obtain ⟨t, e⟩ := Value.isStrOf_shape (x := x) (v := v) h
    exact .inr ⟨x, t, rfl, e⟩
theorem keyIs_int (i : Int) (t : Tok) : keyIs (.inl i) (.int i t) = true := by simp [keyIs, Value.isInt]
theorem keyIs_str (x : Str) (t : Tok) : keyIs (.inr x) (.str x t) = true := by simp [keyIs, Value.isStrOf]
theorem key_ll (a b : Int) : decide ((Sum.inl a : Key) = Sum.inl b) = (a == b) := by
  by_cases e : a = b
  · subst e; simp
  · have h : ¬ (Sum.inl a : Key) = Sum.inl b := fun q => e (Sum.inl.inj q)
    rw [decide_eq_false h]
    exact (beq_eq_false_iff_ne.mpr e).symm
theorem key_rr (a b : Str) : decide ((Sum.inr a : Key) = Sum.inr b) = decide (a = b) := by
  by_cases e : a = b
  · subst e; simp
  · have h : ¬ (Sum.inr a : Key) = Sum.inr b := fun q => e (Sum.inr.inj q)
    rw [decide_eq_false h, decide_eq_false e]
theorem key_lr (a : Int) (b : Str) : decide ((Sum.inl a : Key) = Sum.inr b) = false := decide_eq_false (fun q => nomatch q)
theorem key_rl (a : Str) (b : Int) : decide ((Sum.inr a : Key) = Sum.inl b) = false := decide_eq_false (fun q => nomatch q)
def mixKind (prog : Program) (w : World) : PySem.KeyKind prog w Key where
  is := keyIs
  hash := keyH w
  inj := fun v a b ha hb => by
    rcases keyIs_shape ha with ⟨i, t, rfl, rfl⟩ | ⟨x, t, rfl, rfl⟩
    · rcases keyIs_shape hb with ⟨j, u, rfl, e⟩ | ⟨y, u, rfl, e⟩
      · injection e with e1 _; rw [e1]
      · exact nomatch e
    · rcases keyIs_shape hb with ⟨j, u, rfl, e⟩ | ⟨y, u, rfl, e⟩
      · exact nomatch e
      · injection e with e1 _; rw [e1]
  byValue := fun k v h => by
    rcases keyIs_shape h with ⟨i, t, rfl, rfl⟩ | ⟨x, t, rfl, rfl⟩ <;> rfl
  pyHash := fun hv h => by
    rcases keyIs_shape hv with ⟨i, t, rfl, rfl⟩ | ⟨x, t, rfl, rfl⟩
    · exact wpAny_pyHash_int h
    · exact wpAny_pyHash_str h
  eqBool := fun hu hv h => by
    rcases keyIs_shape hu with ⟨i, t, rfl, rfl⟩ | ⟨x, t, rfl, rfl⟩
    · rcases keyIs_shape hv with ⟨j, u, rfl, rfl⟩ | ⟨y, u, rfl, rfl⟩
      · rw [key_ll] at h; exact wpAny_eqBool_int h
      · rw [key_lr] at h; exact SeqAt.EqAt.int_str i t y u _ _ _ _ h
    · rcases keyIs_shape hv with ⟨j, u, rfl, rfl⟩ | ⟨y, u, rfl, rfl⟩
      · rw [key_rl] at h; exact SeqAt.EqAt.str_int x t j u _ _ _ _ h
      · rw [key_rr] at h; exact wpAny_eqBool_str h
  «strs» := fun k x t v h => by
    rcases keyIs_shape h with ⟨i, u, rfl, e⟩ | ⟨y, u, rfl, e⟩
    · exact nomatch e
    · injection e with e1 _
      subst e1
      cases v <;> rfl
theorem mixKind_int (prog : Program) (w : World) (i : Int) (t : Tok) : (mixKind prog w).is (.inl i) (.int i t) = true := keyIs_int i t
theorem mixKind_str (prog : Program) (w : World) (x : Str) (t : Tok) : (mixKind prog w).is (.inr x) (.str x t) = true := keyIs_str x t
end L2
namespace L2
open PySem PySem.Spec PyProof.Rows
inductive V where
  | non | bl (b : Bool) | int (i : Int) | str (x : Str) | byt (b : Array UInt8) | flt (b : UInt64) | ref (a : Addr) | ty (n : String)
  deriving DecidableEq
def RelV : V → Value → Prop
  | .non, u => u = Value.none
  | .bl b, u => u = Value.bool b
  | .int i, u => ∃ t, u = Value.int i t
  | .str x, u => ∃ t, u = Value.str x t
  | .byt b, u => ∃ t, u = Value.bytes b t
  | .flt b, u => ∃ t, u = Value.float b t
  | .ref a, u => u = Value.ref a
  | .ty n, u => u = Value.type n
abbrev Vals : List V → List Value → Prop := Paired RelV
theorem Vals.length {xs : List V} {us : List Value} (r : Vals xs us) : xs.length = us.length := Paired.length r
theorem Vals.get : ∀ {xs : List V} {us : List Value} {i : Nat} {x : V}, Vals xs us → xs[i]? = some x → ∃ u, us[i]? = some u ∧ RelV x u
  | _, _, _, _, .nil, e => by simp at e
  | _, _, 0, _, .cons r _, e => by simp at e; subst e; exact ⟨_, rfl, r⟩
  | _, _, i + 1, x, .cons _ t, e => by
    obtain ⟨u, h1, h2⟩ := Vals.get (i := i) (x := x) t (by simpa using e)
    exact ⟨u, by simpa using h1, h2⟩
theorem Vals.set {x : V} {u : Value} (r : RelV x u) : ∀ {xs : List V} {us : List Value} (i : Nat), Vals xs us → Vals (xs.set i x) (us.set i u)
  | _, _, _, .nil => .nil
  | _, _, 0, .cons _ t => .cons r t
  | _, _, i + 1, .cons q t => .cons q (Vals.set r i t)
theorem Vals.append : ∀ {xs ys : List V} {us ws : List Value}, Vals xs us → Vals ys ws → Vals (xs ++ ys) (us ++ ws)
  | _, _, _, _, .nil, s => s
  | _, _, _, _, .cons r t, s => .cons r (Vals.append t s)
theorem Vals.take : ∀ {xs : List V} {us : List Value} (n : Nat), Vals xs us → Vals (xs.take n) (us.take n)
  | _, _, 0, _ => .nil
  | _, _, _ + 1, .nil => .nil
  | _, _, n + 1, .cons r t => .cons r (Vals.take n t)
theorem Vals.drop : ∀ {xs : List V} {us : List Value} (n : Nat), Vals xs us → Vals (xs.drop n) (us.drop n)
  | _, _, 0, r => r
  | _, _, _ + 1, .nil => .nil
  | _, _, n + 1, .cons _ t => Vals.drop n t
theorem Vals.none_of : ∀ {xs : List V} {us : List Value} {i : Nat}, Vals xs us → xs[i]? = none → us[i]? = none := fun {xs us i} r e => by
  have h1 := r.length
  have h2 : xs.length ≤ i := List.getElem?_eq_none_iff.mp e
  exact List.getElem?_eq_none_iff.mpr (by omega)
def RelO : Option V → Option Value → Prop
  | some v, some u => RelV v u
  | none, none => True
  | _, _ => False
def KV {κ : Type} : List (κ × V) → List (κ × Value) → Prop := Paired fun (p : κ × V) (q : κ × Value) => p.1 = q.1 ∧ RelV p.2 q.2
def kV : Key → V
  | .inl i => .int i
  | .inr x => .str x
inductive HO where
  | lst (xs : List V)
  | tup (xs : List V)
  | dK (kvs : List (Key × V)) | dT (kvs : List (List Key × V))
  | set (S : Int → Bool) (n : Nat)
  | ins (C dx : Addr) (fs : List (Str × V))
  | own (x : Addr)
  | xd (fs : List (Str × V))
  | met (f x : Addr)
  | rng (lo hi : Int)
  | frz (o : Obj) (u : HO)
  | tbl (ps : Array Value)
  | ext (φ : Heap → Prop)
abbrev Hp := Addr → Option HO
def upd (H : Hp) (a : Addr) (o : HO) : Hp := fun b => if b = a then some o else H b
theorem upd_same {H : Hp} {a : Addr} {o : HO} : upd H a o a = some o := by unfold upd; rw [if_pos rfl]
theorem upd_ne {H : Hp} {a b : Addr} {o : HO} (h : b ≠ a) : upd H a o b = H b := by unfold upd; rw [if_neg h]
theorem ne_of {H : Hp} {a b : Addr} {o u : HO} (h : H a = some o) (h' : H b = some u) (d : o ≠ u) : a ≠ b := by
  intro e; subst e; rw [h] at h'; exact d (Option.some.inj h')
theorem ne_of_none {H : Hp} {a b : Addr} {o : HO} (h : H a = some o) (h' : H b = none) : a ≠ b := by
  intro e; subst e; rw [h] at h'; cases h'
section
variable (P : Program) (w : World)
def ObjOk (H : Hp) (h : Heap) (a : Addr) : HO → Prop
  | .lst xs => xs.length ≤ sizeLine ∧ ∃ (its : List Value) (n : Nat), Vals xs its ∧ h.get? a = some { cls := .type "list", data := .seq its.toArray n }
  | .tup xs => xs.length ≤ sizeLine ∧ ∃ its : List Value, Vals xs its ∧ IsTup h a its.toArray
  | .dK kvs => kvs.length ≤ sizeLine ∧ (a == sysModules) = false ∧ ∃ vs, KV kvs vs ∧ h.DictOf (mixKind P w) a vs
  | .dT kvs => kvs.length ≤ sizeLine ∧ (a == sysModules) = false ∧ ∃ xs : List (List Key × Addr × Value),
      Paired (fun (p : List Key × V) (q : List Key × Addr × Value) => p.1 = q.1 ∧ H q.2.1 = some (.tup (p.1.map kV)) ∧ RelV p.2 q.2.2) kvs xs ∧
      ∃ o es ep, h.get? a = some o ∧ o.ExactDict ∧ o.data = .dict es ep ∧ es.toList = xs.map (entryOfKey (tupleKind (mixKind P w))) ∧ (xs.map (·.1)).Nodup
  | .set S n => h.SetOf (intKind P w) a S n
  | .ins C dx fs => H dx = some (.own a) ∧ fs.length ≤ 1000 ∧ dx ≠ a ∧ h.get? a = some (PySem.W.instObj C dx) ∧
      ∃ mA, h.Ns1 dx mA ∧ (∀ f, RelO (fs.lookup f) (mA f)) ∧ PySem.Within mA (fs.map (·.1))
  | .own _ => ∃ o, h.get? a = some o
  | .xd fs => ∃ mA, h.Ns1 a mA ∧ ∀ f, RelO (fs.lookup f) (mA f)
  | .rng lo hi => ∃ t u v, h.get? a = some { cls := .type "range", data := .fields #[.int lo t, .int hi u, .int 1 v] }
  | .frz o u => h.get? a = some o ∧ ObjOk H h a u
  | .tbl ps => h.get? a = some { cls := .none, data := .fields ps }
  | .met f x => h.get? a = some (PySem.W.methodObj (.ref f) (.ref x))
  | .ext φ => φ h ∧ (∃ o, h.get? a = some o) ∧ ∀ h1 h2 : Heap, φ h1 → (∀ o, h1.get? a = some o → h2.get? a = some o) → φ h2
def HOk (H : Hp) (h : Heap) : Prop := ∀ a o, H a = some o → ObjOk P w H h a o
end
section
variable {P : Program} {w : World} {H H' : Hp} {h h' : Heap} {a : Addr} {o : HO}
theorem ObjOk.lt (x : ObjOk P w H h a o) : a < h.objs.size := by
  cases o with
  | lst xs => obtain ⟨_, _, _, _, e⟩ := x; exact Heap.lt_size e
  | tup xs => obtain ⟨_, _, _, p⟩ := x; exact p.lt
  | dK kvs => obtain ⟨_, _, _, _, o, _, _, e, _⟩ := x; exact Heap.lt_size e
  | dT kvs => obtain ⟨_, _, _, _, o, _, _, e, _⟩ := x; exact Heap.lt_size e
  | set S n => obtain ⟨o, _, _, _, e, _⟩ := x; exact Heap.lt_size e
  | ins C dx fs => obtain ⟨_, _, _, e, _⟩ := x; exact Heap.lt_size e
  | own y => obtain ⟨_, e⟩ := x; exact Heap.lt_size e
  | xd fs => obtain ⟨_, ⟨_, _, _, e, _⟩, _⟩ := x; exact Heap.lt_size e
  | rng lo hi => obtain ⟨_, _, _, e⟩ := x; exact Heap.lt_size e
  | frz ob u => obtain ⟨e, _⟩ := x; exact Heap.lt_size e
  | tbl ps => exact Heap.lt_size (show h.get? a = some _ from x)
  | met f y => exact Heap.lt_size (show h.get? a = some _ from x)
  | ext φ => obtain ⟨_, ⟨_, e⟩, _⟩ := x; exact Heap.lt_size e
theorem Paired.mapP {α β : Type} {F G : α → β → Prop} : ∀ {l₁ : List α} {l₂ : List β}, Paired F l₁ l₂ → (∀ a b, F a b → G a b) → Paired G l₁ l₂
  | _, _, .nil, _ => .nil
  | _, _, .cons r t, f => .cons (f _ _ r) (Paired.mapP t f)
theorem ObjOk.stay (x : ObjOk P w H h a o) (k : ∀ b u, (b = a ∨ H b = some (.own a)) → h.get? b = some u → h'.get? b = some u)
    (ho : ∀ b, H b = some (.own a) → H' b = some (.own a)) (ht : ∀ b xs, H b = some (.tup xs) → H' b = some (.tup xs)) : ObjOk P w H' h' a o := by
  induction o with
  | lst xs => obtain ⟨z, its, n, r, e⟩ := x; exact ⟨z, its, n, r, k _ _ (.inl rfl) e⟩
  | tup xs => obtain ⟨z, its, r, ob, e, c⟩ := x; exact ⟨z, its, r, ob, k _ _ (.inl rfl) e, c⟩
  | dK kvs => obtain ⟨z, y, vs, r, ob, es, ep, e, c⟩ := x; exact ⟨z, y, vs, r, ob, es, ep, k _ _ (.inl rfl) e, c⟩
  | dT kvs =>
    obtain ⟨z, y, xs, r, ob, es, ep, e, c⟩ := x
    exact ⟨z, y, xs, Paired.mapP r fun p q z => ⟨z.1, ht _ _ z.2.1, z.2.2⟩, ob, es, ep, k _ _ (.inl rfl) e, c⟩
  | set S n => obtain ⟨ob, es, ep, t, e, c⟩ := x; exact ⟨ob, es, ep, t, k _ _ (.inl rfl) e, c⟩
  | ins C dx fs =>
    obtain ⟨d, z, ne, e, mA, ⟨od, es, ep, e2, c⟩, r⟩ := x
    exact ⟨ho _ d, z, ne, k _ _ (.inl rfl) e, mA, ⟨od, es, ep, k _ _ (.inr d) e2, c⟩, r⟩
  | own y => obtain ⟨ob, e⟩ := x; exact ⟨ob, k _ _ (.inl rfl) e⟩
  | xd fs => obtain ⟨mA, ⟨od, es, ep, e, c⟩, r⟩ := x; exact ⟨mA, ⟨od, es, ep, k _ _ (.inl rfl) e, c⟩, r⟩
  | rng lo hi => obtain ⟨t, u, v, e⟩ := x; exact ⟨t, u, v, k _ _ (.inl rfl) e⟩
  | frz ob u ih => obtain ⟨e, q⟩ := x; exact ⟨k _ _ (.inl rfl) e, ih q⟩
  | tbl ps =>
    have e : h.get? a = some { cls := .none, data := .fields ps } := x
    show h'.get? a = some { cls := .none, data := .fields ps }
    exact k a _ (.inl rfl) e
  | met f y =>
    have e : h.get? a = some (PySem.W.methodObj (.ref f) (.ref y)) := x
    show h'.get? a = some (PySem.W.methodObj (.ref f) (.ref y))
    exact k a _ (.inl rfl) e
  | ext φ => obtain ⟨p, ⟨o, e⟩, st⟩ := x; exact ⟨st _ _ p fun o q => k _ _ (.inl rfl) q, ⟨o, k _ _ (.inl rfl) e⟩, st⟩
theorem HOk.lt (x : HOk P w H h) (e : H a = some o) : a < h.objs.size := (x a o e).lt
theorem HOk.fresh (x : HOk P w H h) (e : h.objs.size ≤ a) : H a = none := by
  cases q : H a with
  | none => rfl
  | some u => exact absurd (Nat.lt_of_lt_of_le (x.lt q) e) (Nat.lt_irrefl _)
theorem HOk.kept (x : HOk P w H h) (k : ∀ b u, h.get? b = some u → h'.get? b = some u) : HOk P w H h' := fun a o e =>
  (x a o e).stay (fun b u _ q => k b u q) (fun _ q => q) fun _ _ q => q
theorem HOk.laid (x : HOk P w H h) (k : ∀ b u, h.get? b = some u → h'.get? b = some u) (hp : h.objs.size ≤ a) (new : ObjOk P w (upd H a o) h' a o) : HOk P w (upd H a o) h' := fun b u e => by
  have hn := x.fresh hp
  by_cases hb : b = a
  · subst hb; rw [upd_same] at e; cases e; exact new
  · rw [upd_ne hb] at e
    exact (x b u e).stay (fun c v _ q => k c v q) (fun c q => by rw [upd_ne (ne_of_none q hn)]; exact q) fun c xs q => by rw [upd_ne (ne_of_none q hn)]; exact q
end
def Rd (H : Hp) (a : Addr) (u : HO) : Prop := H a = some u ∨ ∃ o, H a = some (.frz o u)
theorem Rd.of {H : Hp} {a : Addr} {u : HO} (h : H a = some u) : Rd H a u := .inl h
theorem Rd.ok {P : Program} {w : World} {H : Hp} {h : Heap} {a : Addr} {u : HO} (r : Rd H a u) (x : HOk P w H h) : ObjOk P w H h a u := by
  rcases r with r | ⟨o, r⟩
  · exact x a u r
  · obtain ⟨_, q⟩ := x a _ r
    exact q
def Mut : Option HO → Prop
  | some (.lst _) => True
  | some (.dK _) => True
  | some (.dT _) => True
  | some (.set _ _) => True
  | some (.ins _ _ _) => True
  | some (.ext _) => True
  | _ => False
section
variable {P : Program} {w : World} {H : Hp} {h h' : Heap} {x e : Addr} {o' : HO}
theorem HOk.write (ok : HOk P w H h) (mu : Mut (H x)) (he : e = x ∨ H e = some (.own x)) (k : ∀ b u, b ≠ e → h.get? b = some u → h'.get? b = some u) (heo : ∃ u, h'.get? e = some u)
    (new : ObjOk P w (upd H x o') h' x o') : HOk P w (upd H x o') h' := fun b u q => by
  have nown : ∀ c y, H c = some (.own y) → c ≠ x := fun c y r z => by subst z; rw [r] at mu; exact mu
  have ntup : ∀ c xs, H c = some (.tup xs) → c ≠ x := fun c xs r z => by subst z; rw [r] at mu; exact mu
  by_cases hb : b = x
  · subst hb; rw [upd_same] at q; cases q; exact new
  · rw [upd_ne hb] at q
    by_cases hbe : b = e
    · have q' : H b = some (.own x) := by
        rcases he with z | z
        · exact absurd (hbe.trans z) hb
        · rw [hbe]; exact z
      rw [q] at q'; cases q'
      obtain ⟨v, hv⟩ := heo
      exact ⟨v, by rw [hbe]; exact hv⟩
    · refine (ok b u q).stay (fun c v hc r => k c v ?_ r) (fun c r => by rw [upd_ne (nown c b r)]; exact r) fun c xs r => by rw [upd_ne (ntup c xs r)]; exact r
      rcases hc with rfl | hc
      · exact hbe
      · rintro rfl
        rcases he with z | z
        · exact nown c b hc z
        · rw [hc] at z; cases z; exact hb rfl
end
structure Un (fs ex : List Addr) (H H' : Hp) (h h' : Heap) : Prop where
  keep : ∀ b o, h.get? b = some o → H b = none → b ∉ fs → b ∉ ex → h'.get? b = some o
  slot : ∀ b o, h.get? b = some o → H b = none → b ∈ fs → b ∉ ex → ∃ sl, h'.get? b = some { o with slots := sl }
  free : ∀ b o, h.get? b = some o → H b = none → b ∉ ex → H' b = none
  there : ∀ b o, h.get? b = some o → b ∉ ex → ∃ o', h'.get? b = some o'
  tups : ∀ b xs, H b = some (.tup xs) → H' b = some (.tup xs)
  frzs : ∀ b o u, H b = some (.frz o u) → H' b = some (.frz o u)
  tbls : ∀ b ps, H b = some (.tbl ps) → ∃ more, H' b = some (.tbl (ps ++ more))
section
variable {fs fs' ex ex' : List Addr} {H H1 H2 : Hp} {h h1 h2 h' : Heap} {a x e : Addr} {o : HO}
theorem Un.any (u : Un fs ex H H1 h h1) {b : Addr} {ob : Obj} (q : h.get? b = some ob) (n : H b = none) (hx : b ∉ ex) : ∃ sl, h1.get? b = some { ob with slots := sl } := by
  by_cases hb : b ∈ fs
  · exact u.slot b ob q n hb hx
  · exact ⟨ob.slots, u.keep b ob q n hb hx⟩
theorem Un.trans (a : Un fs ex H H1 h h1) (b : Un fs ex H1 H2 h1 h2) : Un fs ex H H2 h h2 where
  keep := fun c ob q n hc hx => b.keep c ob (a.keep c ob q n hc hx) (a.free c ob q n hx) hc hx
  slot := fun c ob q n hc hx => by
    obtain ⟨sl, e1⟩ := a.slot c ob q n hc hx
    obtain ⟨sl', e2⟩ := b.slot c _ e1 (a.free c ob q n hx) hc hx
    exact ⟨sl', e2⟩
  free := fun c ob q n hx => by
    obtain ⟨o', e1⟩ := a.there c ob q hx
    exact b.free c o' e1 (a.free c ob q n hx) hx
  there := fun c ob q hx => by
    obtain ⟨o', e1⟩ := a.there c ob q hx
    exact b.there c o' e1 hx
  tups := fun c xs q => b.tups c xs (a.tups c xs q)
  frzs := fun c ob xs q => b.frzs c ob xs (a.frzs c ob xs q)
  tbls := fun c ps q => by
    obtain ⟨m1, e1⟩ := a.tbls c ps q
    obtain ⟨m2, e2⟩ := b.tbls c _ e1
    exact ⟨m1 ++ m2, by rw [e2, Array.append_assoc]⟩
theorem Un.kept (k : ∀ b u, h.get? b = some u → h'.get? b = some u) : Un fs ex H H h h' :=
  ⟨fun b ob q _ _ _ => k b ob q, fun b ob q _ _ _ => ⟨ob.slots, k b ob q⟩, fun _ _ _ n _ => n, fun b ob q _ => ⟨ob, k b ob q⟩, fun _ _ q => q, fun _ _ _ q => q, fun _ ps q => ⟨#[], by rw [q]; simp⟩⟩
theorem Un.refl : Un fs ex H H h h := Un.kept fun _ _ q => q
theorem Un.laid (k : ∀ b u, h.get? b = some u → h'.get? b = some u) (hp : h.objs.size ≤ a) (hn : H a = none) : Un fs ex H (upd H a o) h h' where
  keep := fun b u q _ _ _ => k b u q
  slot := fun b u q _ _ _ => ⟨u.slots, k b u q⟩
  free := fun b u q n _ => by rw [upd_ne (Nat.ne_of_lt (Nat.lt_of_lt_of_le (Heap.lt_size q) hp))]; exact n
  there := fun b u q _ => ⟨u, k b u q⟩
  tups := fun b xs q => by rw [upd_ne (ne_of_none q hn)]; exact q
  frzs := fun b u xs q => by rw [upd_ne (ne_of_none q hn)]; exact q
  tbls := fun b ps q => ⟨#[], by rw [upd_ne (ne_of_none q hn), q]; simp⟩
theorem Un.write (mu : Mut (H x)) (he : e = x ∨ H e = some (.own x)) (k : ∀ b u, b ≠ e → h.get? b = some u → h'.get? b = some u) (heo : ∃ u, h'.get? e = some u) : Un fs ex H (upd H x o) h h' := by
  have hx : ∀ b, H b = none → b ≠ x := fun b n z => by subst z; rw [n] at mu; exact mu
  have hb : ∀ b, H b = none → b ≠ e := fun b n z => by
    subst z
    rcases he with r | r
    · exact hx b n r
    · rw [n] at r; cases r
  have hm : ∀ b u, H b = some u → ¬ Mut (some u) → b ≠ x := fun b u q nm z => by subst z; rw [q] at mu; exact nm mu
  refine ⟨fun b u q n _ _ => k b u (hb b n) q, fun b u q n _ _ => ⟨u.slots, k b u (hb b n) q⟩, fun b u q n _ => by rw [upd_ne (hx b n)]; exact n, fun b u q _ => ?_,
    fun b xs q => by rw [upd_ne (hm b _ q fun z => z)]; exact q, fun b u xs q => by rw [upd_ne (hm b _ q fun z => z)]; exact q, fun b ps q => ⟨#[], by rw [upd_ne (hm b _ q fun z => z), q]; simp⟩⟩
  by_cases hbe : b = e
  · subst hbe; exact heo
  · exact ⟨u, k b u hbe q⟩
theorem Un.mono (u : Un fs ex H H1 h h1) (hs : ∀ b ∈ fs, b ∈ fs') (hx : ∀ b ∈ ex, b ∈ ex') : Un fs' ex' H H1 h h1 :=
  ⟨fun b ob q n hb he => u.keep b ob q n (fun z => hb (hs b z)) fun z => he (hx b z), fun _ _ q n _ he => u.any q n fun z => he (hx _ z), fun b ob q n he => u.free b ob q n fun z => he (hx b z), fun b ob q he => u.there b ob q fun z => he (hx b z), u.tups, u.frzs, u.tbls⟩
end
def trk (h : Heap) (H : Hp) : List Addr := (List.range h.objs.size).filter fun a => (H a).isSome
def hidT (h : Heap) (H : Hp) : Heap := PySem.W.hideAll h (trk h H)
theorem hidT_size (h : Heap) (H : Hp) : (hidT h H).objs.size = h.objs.size := PySem.W.hideAll_size _ _
theorem hidT_get {h : Heap} {H : Hp} {b : Addr} {o : Obj} (e : h.get? b = some o) (n : H b = none) : (hidT h H).get? b = some o :=
  PySem.W.hideAll_get _ e fun hm => by
    have q : (H b).isSome = true := (List.mem_filter.mp hm).2
    rw [n] at q; simp at q
theorem of_hidT {h : Heap} {H : Hp} {b : Addr} {o : Obj} (e : (hidT h H).get? b = some o) : h.get? b = some o ∧ H b = none := by
  have e' : h.get? b = some o := PySem.W.of_hideAll (trk h H) e
  refine ⟨e', ?_⟩
  cases q : H b with
  | none => rfl
  | some x =>
    have hm : b ∈ trk h H := List.mem_filter.mpr ⟨List.mem_range.mpr (Heap.lt_size e'), by simp [q]⟩
    have z : (hidT h H).get? b = none := PySem.W.hideAll_none (trk h H) hm
    rw [z] at e; cases e
def allNews (g h : Heap) (L : Addr) : List (Addr × Obj) := (List.range h.objs.size).filterMap fun a => if a = L ∨ (g.get? a).isSome = true then none else (h.get? a).map fun o => (a, o)
def rest (g h : Heap) (L d : Addr) : List (Addr × Obj) := (allNews g h L).filter fun p => decide (p.1 ≠ d)
end L2
namespace L2
open PySem PySem.Spec PyProof.Rows
structure Mod (K : PySem.W.Frag) (mg : Str → Option Value) (base : Heap) : Prop where
  kin : K.In base
  glob : base.Ns mainGlobals mg
  blt : ∃ mb, base.Ns builtinsNs mb ∧ ∀ x : Str, x ≠ "__name__" → mb x = bootBuiltins x
  nolimit : base.NoLimit
structure Cx where
  prog : Program
  w : World
  K : PySem.W.Frag
  mg : Str → Option Value
  base : Heap
  A : Around
  N : List Str
  s₀ : Shared
  H₀ : Hp
  env : Env
  outer : List Env
  stack : List Env
  ex : List Addr
  fn : Str → Bool
  calm : Bool
  pn : List (Addr × Obj)
  xe : Value → Shared → Prop
def frs (l : List Env) : List Addr := l.filterMap (·.frame)
abbrev Cx.fs (X : Cx) : List Addr := frs X.outer
def Vis (sc : Scope) (x : Str) : Prop := sc.names.lookup x = some .local ∨ sc.names.lookup x = some .cell ∨ sc.names.lookup x = some .free
def Loc (sc : Scope) (x : Str) : Prop := sc.names.lookup x = some .local ∨ sc.names.lookup x = some .cell
def Look (env : Env) (h : Heap) (m : Str → Option Value) (x : Str) (u : Value) : Prop :=
  (env.kindOf x = some .local ∧ m x = some u) ∨ ((env.kindOf x = some .cell ∨ env.kindOf x = some .free) ∧ ∃ c, env.cells.lookup x = some c ∧ h.IsCell c (some u))
structure Cx.Ok (X : Cx) : Prop where
  mod : Mod X.K X.mg X.base
  kind : X.env.scope.kind = .function
  glob : X.env.globals = mainGlobals
  blt : X.env.builtins = builtinsNs
  above : X.s₀.heap.objs.size ≤ X.env.locals
  inj : ∀ x y c, X.env.cells.lookup x = some c → X.env.cells.lookup y = some c → x = y
  has : ∀ x, (X.env.kindOf x = some .cell ∨ X.env.kindOf x = some .free) → ∃ c, X.env.cells.lookup x = some c
  cab : ∀ x c, X.fn x = true → X.env.cells.lookup x = some c → X.s₀.heap.objs.size ≤ c
  hd : X.calm = true → X.A.handled = none
  frames : X.A.frames = some X.stack
  stk : X.stack = X.outer ∨ (X.stack = X.env :: X.outer ∧ X.env.frame = some X.env.locals)
  exf : ∀ b ∈ X.ex, b ≠ X.env.locals ∧ ∀ x c, X.env.cells.lookup x = some c → c ≠ b
  bs : ∀ b o, X.base.get? b = some o → X.s₀.heap.get? b = some o ∧ X.H₀ b = none
  bsz : X.base.objs.size ≤ X.s₀.heap.objs.size
  noex : ∀ b o, X.base.get? b = some o → b ∉ X.ex
  exfs : ∀ b ∈ X.ex, b ∉ X.fs
  funs : X.s₀.heap.FunFrames X.base X.outer
  frf : ∀ b ∈ X.fs, X.H₀ b = none
structure Inv (X : Cx) (pins : List (Addr × Obj)) (σ : List (Option V)) (H : Hp) (s : Shared) : Prop where
  ok : X.Ok
  os : s.os = X.s₀.os
  bare : AllBare s.gens
  base : Un X.fs X.ex X.H₀ H X.s₀.heap s.heap
  loc : ∃ m, s.heap.Ns X.env.locals m ∧ ∀ (i : Nat) (x : Str) (v : V), X.N[i]? = some x → σ[i]? = some (some v) → Vis X.env.scope x → ∃ u, RelV v u ∧ Look X.env s.heap m x u
  cell : ∀ x c, X.env.cells.lookup x = some c → ∃ v, s.heap.IsCell c v
  free : H X.env.locals = none
  freeC : ∀ x c, X.env.cells.lookup x = some c → (X.fn x = true → H c = none) ∧ (H c = none ∨ ∃ o u, H c = some (.frz o u))
  pin : ∀ p ∈ X.pn ++ pins, s.heap.get? p.1 = some p.2 ∧ H p.1 = none ∧ p.1 ≠ X.env.locals ∧ p.1 ∉ X.fs ∧ ∀ v, p.2.data ≠ .cell v
  hok : HOk X.prog X.w H s.heap
  len : σ.length = X.N.length
section
variable {X : Cx} {pins : List (Addr × Obj)} {σ : List (Option V)} {H H' : Hp} {s : Shared} {h' : Heap}
theorem Cx.Ok.nofr (ok : X.Ok) {b : Addr} {o : Obj} (e : X.base.get? b = some o) : b ∉ X.fs := fun hb => by
  have := (ok.funs.mem hb).1
  rw [e] at this; cases this
theorem Inv.bs (I : Inv X pins σ H s) : ∀ b o, X.base.get? b = some o → s.heap.get? b = some o ∧ H b = none := fun b o e =>
  ⟨I.base.keep b o (I.ok.bs b o e).1 (I.ok.bs b o e).2 (I.ok.nofr e) (I.ok.noex b o e), I.base.free b o (I.ok.bs b o e).1 (I.ok.bs b o e).2 (I.ok.noex b o e)⟩
theorem Inv.bk (I : Inv X pins σ H s) : ∀ b o, X.base.get? b = some o → s.heap.get? b = some o := fun b o e => (I.bs b o e).1
theorem Inv.mod (I : Inv X pins σ H s) : Mod X.K X.mg X.base := I.ok.mod
theorem Inv.kIn (I : Inv X pins σ H s) : X.K.In s.heap := I.ok.mod.kin.keeps I.bk
theorem Inv.nolimit (I : Inv X pins σ H s) : s.heap.NoLimit := I.ok.mod.nolimit.keeps I.bk
theorem Inv.fr (I : Inv X pins σ H s) : ∃ m, Fr X.base X.env.locals s.heap m :=
  let ⟨m, hn, _⟩ := I.loc
  ⟨m, hn, I.bk, Nat.le_trans I.ok.bsz I.ok.above⟩
theorem Inv.lt (I : Inv X pins σ H s) : X.env.locals < s.heap.objs.size := let ⟨_, hn, _⟩ := I.loc; hn.lt
theorem Inv.sz (I : Inv X pins σ H s) : X.s₀.heap.objs.size ≤ s.heap.objs.size := Nat.le_trans I.ok.above (Nat.le_of_lt I.lt)
theorem Inv.nofs (I : Inv X pins σ H s) {a : Addr} (h : s.heap.objs.size ≤ a) : a ∉ X.fs := fun hb => by
  obtain ⟨_, o, ho, _⟩ := I.ok.funs.mem hb
  exact absurd (Nat.lt_of_lt_of_le (Heap.lt_size ho) (Nat.le_trans I.sz h)) (Nat.lt_irrefl _)
theorem Inv.cne (I : Inv X pins σ H s) : ∀ x c, X.env.cells.lookup x = some c → c ≠ X.env.locals := fun x c e z => by
  obtain ⟨v, o, ho, hd⟩ := I.cell x c e
  obtain ⟨m, ⟨o', es, ep, ho', hd', _⟩, _⟩ := I.loc
  rw [z, ho'] at ho; cases ho; rw [hd'] at hd; cases hd
theorem Inv.funs (I : Inv X pins σ H s) : s.heap.FunFrames X.base X.outer := by
  have all : ∀ (l : List Env), (∀ b ∈ frs l, b ∈ X.fs) → X.s₀.heap.FunFrames X.base l → s.heap.FunFrames X.base l := by
    intro l
    induction l with
    | nil => intro _ _; trivial
    | cons env r ih =>
      intro hs hl
      obtain ⟨hk, ⟨L, o, hf, hn, ho, hd⟩, hr⟩ := hl
      have hL : L ∈ X.fs := hs L (by unfold frs; rw [List.filterMap_cons, hf]; exact List.mem_cons_self)
      obtain ⟨sl, e⟩ := I.base.slot L o ho (I.ok.frf L hL) hL fun z => I.ok.exfs L z hL
      exact ⟨hk, ⟨L, _, hf, hn, e, hd⟩, ih (fun b hb => hs b (by unfold frs; rw [List.filterMap_cons, hf]; exact List.mem_cons_of_mem _ hb)) hr⟩
  exact all X.outer (fun _ hb => hb) I.ok.funs
theorem Inv.stack (I : Inv X pins σ H s) : s.heap.FunFrames X.base X.stack := by
  rcases I.ok.stk with e | ⟨e, hf⟩
  · rw [e]; exact I.funs
  · rw [e]
    obtain ⟨m, hn, _⟩ := I.loc
    refine .cons (by rw [I.ok.kind]; decide) hf hn ?_ I.funs
    exact Heap.get?_none_of_le (Nat.le_trans I.ok.bsz I.ok.above)
theorem Inv.stkSub (I : Inv X pins σ H s) : ∀ b ∈ frs X.stack, b ∈ X.env.locals :: X.fs := fun b hb => by
  rcases I.ok.stk with e | ⟨e, hf⟩
  · rw [e] at hb; exact List.mem_cons_of_mem _ hb
  · rw [e] at hb
    unfold frs at hb
    rw [List.filterMap_cons, hf] at hb
    exact hb
theorem Inv.stkFree (I : Inv X pins σ H s) : ∀ b ∈ frs X.stack, H b = none := fun b hb => by
  rcases List.mem_cons.mp (I.stkSub b hb) with e | hb
  · rw [e]; exact I.free
  · obtain ⟨_, o, ho, _⟩ := I.ok.funs.mem hb
    exact I.base.free b o ho (I.ok.frf b hb) fun z => I.ok.exfs b z hb
theorem Inv.step {g' : Array GenState} {t' : Nat} {d' : Drawn} {ch : List Addr} (I : Inv X pins σ H s)
    (hch : ∀ b ∈ ch, (b ∈ X.ex ∨ X.s₀.heap.objs.size ≤ b) ∧ b ≠ X.env.locals ∧ (∀ x c, X.env.cells.lookup x = some c → c ≠ b) ∧ ∀ p ∈ X.pn ++ pins, p.1 ≠ b)
    (keep : ∀ b o, b ≠ X.env.locals → b ∉ X.fs → b ∉ ch → s.heap.get? b = some o → H b = none → h'.get? b = some o)
    (slot : ∀ b o, b ≠ X.env.locals → b ∈ X.fs → b ∉ ch → s.heap.get? b = some o → H b = none → ∃ sl, h'.get? b = some { o with slots := sl }) (free : ∀ b o, b ∉ ch → s.heap.get? b = some o → H b = none → H' b = none)
    (there : ∀ b o, b ∉ ch → s.heap.get? b = some o → ∃ o', h'.get? b = some o')
    (tups : ∀ b xs, H b = some (.tup xs) → H' b = some (.tup xs)) (frzs : ∀ b o u, H b = some (.frz o u) → H' b = some (.frz o u)) (tbls : ∀ b ps, H b = some (.tbl ps) → ∃ more, H' b = some (.tbl (ps ++ more)))
    (ns : ∀ m, s.heap.Ns X.env.locals m → h'.Ns X.env.locals m) (hok : HOk X.prog X.w H' h') (hg : AllBare g') :
    Inv X pins σ H' { s with heap := h', gens := g', drawn := d', toks := t' } := by
  have neL : ∀ b o, X.s₀.heap.get? b = some o → b ≠ X.env.locals := fun b o e => Nat.ne_of_lt (Nat.lt_of_lt_of_le (Heap.lt_size e) I.ok.above)
  have neC : ∀ b o, X.s₀.heap.get? b = some o → b ∉ X.ex → b ∉ ch := fun b o e hx hb => by
    rcases (hch b hb).1 with z | z
    · exact hx z
    · exact absurd (Nat.lt_of_lt_of_le (Heap.lt_size e) z) (Nat.lt_irrefl _)
  have cellK : ∀ x c, X.env.cells.lookup x = some c → ∀ v, s.heap.IsCell c v → h'.IsCell c v := fun x c e v ⟨o, ho, hd⟩ => by
    have nch : c ∉ ch := fun z => (hch c z).2.2.1 x c e rfl
    rcases (I.freeC x c e).2 with fr | ⟨oz, uz, fz⟩
    · by_cases hc : c ∈ X.fs
      · obtain ⟨sl, q⟩ := slot c o (I.cne x c e) hc nch ho fr
        exact ⟨_, q, hd⟩
      · exact ⟨o, keep c o (I.cne x c e) hc nch ho fr, hd⟩
    · obtain ⟨z1, _⟩ := I.hok c _ fz
      obtain ⟨z2, _⟩ := hok c _ (frzs c oz uz fz)
      rw [ho] at z1
      cases z1
      exact ⟨o, z2, hd⟩
  refine ⟨I.ok, I.os, hg, ⟨fun b o e n hb hx => ?_, fun b o e n hb hx => ?_, fun b o e n hx => ?_, fun b o e hx => ?_, fun b xs e => tups b xs (I.base.tups b xs e), fun b o xs e => frzs b o xs (I.base.frzs b o xs e), fun b ps e => ?_⟩, ?_, fun x c e => ?_, ?_, fun x c e => ?_, fun p hp => ?_, hok, I.len⟩
  · exact keep b o (neL b o e) hb (neC b o e hx) (I.base.keep b o e n hb hx) (I.base.free b o e n hx)
  · obtain ⟨sl, e1⟩ := I.base.slot b o e n hb hx
    obtain ⟨sl', e2⟩ := slot b _ (neL b o e) hb (neC b o e hx) e1 (I.base.free b o e n hx)
    exact ⟨sl', e2⟩
  · obtain ⟨o', e1⟩ := I.base.there b o e hx
    exact free b o' (neC b o e hx) e1 (I.base.free b o e n hx)
  · obtain ⟨o', e1⟩ := I.base.there b o e hx
    exact there b o' (neC b o e hx) e1
  · obtain ⟨m1, e1⟩ := I.base.tbls b ps e
    obtain ⟨m2, e2⟩ := tbls b _ e1
    exact ⟨m1 ++ m2, by rw [e2, Array.append_assoc]⟩
  · obtain ⟨m, hn, hl⟩ := I.loc
    refine ⟨m, ns m hn, fun i x v e1 e2 e3 => ?_⟩
    obtain ⟨u, r, l⟩ := hl i x v e1 e2 e3
    refine ⟨u, r, ?_⟩
    rcases l with l | ⟨k, c, e, z⟩
    · exact .inl l
    · exact .inr ⟨k, c, e, cellK x c e _ z⟩
  · obtain ⟨v, z⟩ := I.cell x c e
    exact ⟨v, cellK x c e v z⟩
  · obtain ⟨m, ⟨o, _, _, ho, _⟩, _⟩ := I.loc
    exact free _ o (fun z => (hch _ z).2.1 rfl) ho I.free
  · obtain ⟨v, o, ho, hd⟩ := I.cell x c e
    refine ⟨fun q => free c o (fun z => (hch c z).2.2.1 x c e rfl) ho ((I.freeC x c e).1 q), ?_⟩
    rcases (I.freeC x c e).2 with fr | ⟨oz, uz, fz⟩
    · exact .inl (free c o (fun z => (hch c z).2.2.1 x c e rfl) ho fr)
    · exact .inr ⟨oz, uz, frzs c oz uz fz⟩
  · obtain ⟨e, n, ne, nf, d⟩ := I.pin p hp
    have nch : p.1 ∉ ch := fun z => (hch p.1 z).2.2.2 p hp rfl
    exact ⟨keep p.1 p.2 ne nf nch e n, free p.1 p.2 nch e n, ne, nf, d⟩
theorem Inv.un {t' : Nat} (I : Inv X pins σ H s) (u : Un X.fs [] H H' s.heap h') (hok : HOk X.prog X.w H' h') : Inv X pins σ H' { s with heap := h', toks := t' } := by
  obtain ⟨m, ⟨o, es, ep, ho, r⟩, _⟩ := id I.loc
  obtain ⟨sl, hL⟩ := u.any ho I.free (by simp)
  exact I.step (g' := s.gens) (d' := s.drawn) (ch := []) (fun _ z => nomatch z) (fun b o _ hb _ e n => u.keep b o e n hb (by simp)) (fun b o _ hb _ e n => u.slot b o e n hb (by simp)) (fun b o _ e n => u.free b o e n (by simp)) (fun b o _ e => u.there b o e (by simp)) u.tups u.frzs u.tbls (fun m' hm => by
    obtain ⟨o', es', ep', ho', r'⟩ := hm
    rw [ho] at ho'; cases ho'
    exact ⟨_, es', ep', hL, r'⟩) hok I.bare
theorem Inv.call {g' : Array GenState} {t' : Nat} {d' : Drawn} {ch : List Addr} (I : Inv X pins σ H s) (u : Un (frs X.stack) ch H H' s.heap h') (hok : HOk X.prog X.w H' h') (hg : AllBare g')
    (hch : ∀ b ∈ ch, (b ∈ X.ex ∨ X.s₀.heap.objs.size ≤ b) ∧ b ≠ X.env.locals ∧ (∀ x c, X.env.cells.lookup x = some c → c ≠ b) ∧ ∀ p ∈ X.pn ++ pins, p.1 ≠ b) :
    Inv X pins σ H' { s with heap := h', gens := g', drawn := d', toks := t' } := by
  obtain ⟨m, ⟨o, es, ep, ho, r⟩, _⟩ := id I.loc
  obtain ⟨sl, hL⟩ := u.any ho I.free fun z => (hch _ z).2.1 rfl
  exact I.step (ch := ch) hch (fun b o hL hb hc e n => u.keep b o e n (fun z => (List.mem_cons.mp (I.stkSub b z)).elim hL hb) hc) (fun b o _ _ hc e n => u.any e n hc) (fun b o hc e n => u.free b o e n hc) (fun b o hc e => u.there b o e hc) u.tups u.frzs u.tbls (fun m' hm => by
    obtain ⟨o', es', ep', ho', r'⟩ := hm
    rw [ho] at ho'; cases ho'
    exact ⟨_, es', ep', hL, r'⟩) hok hg
theorem Inv.turned {t' : Nat} {it : Addr} (I : Inv X pins σ H s) (k : ∀ b o, b ≠ it → s.heap.get? b = some o → h'.get? b = some o) (hn : H it = none) (hL : it ≠ X.env.locals)
    (h1 : it ∈ X.ex ∨ X.s₀.heap.objs.size ≤ it) (h2 : ∀ x c, X.env.cells.lookup x = some c → c ≠ it) (h3 : ∀ p ∈ X.pn ++ pins, p.1 ≠ it) : Inv X pins σ H { s with heap := h', toks := t' } := by
  have nit : ∀ b u, H b = some u → b ≠ it := fun b u e z => by rw [z, hn] at e; cases e
  refine I.step (g' := s.gens) (d' := s.drawn) (ch := [it]) (fun b hb => ?_) (fun b o _ _ hc e _ => k b o (fun z => hc (by simp [z])) e) (fun b o _ _ hc e _ => ⟨o.slots, k b o (fun z => hc (by simp [z])) e⟩) (fun _ _ _ _ n => n)
    (fun b o hc e => ⟨o, k b o (fun z => hc (by simp [z])) e⟩) (fun _ _ e => e) (fun _ _ _ e => e) (fun b ps e => ⟨#[], by rw [e]; simp⟩) (fun m hm => ?_) (fun b u e => ?_) I.bare
  · have e : b = it := by simpa using hb
    subst e
    exact ⟨h1, hL, h2, h3⟩
  · obtain ⟨o, es, ep, ho, r⟩ := hm
    exact ⟨o, es, ep, k _ o (Ne.symm hL) ho, r⟩
  · refine (I.hok b u e).stay (fun c v hc q => k c v ?_ q) (fun _ q => q) fun _ _ q => q
    rcases hc with z | z
    · rw [z]; exact nit b u e
    · exact nit c _ z
theorem Inv.tok (I : Inv X pins σ H s) (t : Nat) : Inv X pins σ H { s with toks := t } := I.un (h' := s.heap) (t' := t) Un.refl I.hok
theorem Inv.kept {t' : Nat} (I : Inv X pins σ H s) (k : ∀ b u, s.heap.get? b = some u → h'.get? b = some u) : Inv X pins σ H { s with heap := h', toks := t' } := I.un (Un.kept k) (I.hok.kept k)
theorem Inv.laid {a : Addr} {o : HO} {t' : Nat} (I : Inv X pins σ H s) (k : ∀ b u, s.heap.get? b = some u → h'.get? b = some u) (hp : s.heap.objs.size ≤ a) (new : ObjOk X.prog X.w (upd H a o) h' a o) :
    Inv X pins σ (upd H a o) { s with heap := h', toks := t' } := I.un (Un.laid k hp (I.hok.fresh hp)) (I.hok.laid k hp new)
theorem Inv.write {x e : Addr} {o : HO} {t' : Nat} (I : Inv X pins σ H s) (mu : Mut (H x)) (he : e = x ∨ H e = some (.own x)) (k : ∀ b u, b ≠ e → s.heap.get? b = some u → h'.get? b = some u) (heo : ∃ u, h'.get? e = some u)
    (new : ObjOk X.prog X.w (upd H x o) h' x o) : Inv X pins σ (upd H x o) { s with heap := h', toks := t' } := I.un (Un.write mu he k heo) (I.hok.write mu he k heo new)
theorem Inv.pins_of {pins' : List (Addr × Obj)} (I : Inv X pins σ H s) (h : ∀ p ∈ pins', s.heap.get? p.1 = some p.2 ∧ H p.1 = none ∧ p.1 ≠ X.env.locals ∧ p.1 ∉ X.fs ∧ ∀ v, p.2.data ≠ .cell v) : Inv X pins' σ H s :=
  ⟨I.ok, I.os, I.bare, I.base, I.loc, I.cell, I.free, I.freeC, fun p hp => (List.mem_append.mp hp).elim (fun z => I.pin p (List.mem_append_left _ z)) (h p), I.hok, I.len⟩
theorem nodup_ix {N : List Str} (hN : N.Nodup) {i j : Nat} {x : Str} (a : N[i]? = some x) (b : N[j]? = some x) : i = j := by
  obtain ⟨h1, e1⟩ := List.getElem?_eq_some_iff.mp a
  obtain ⟨h2, e2⟩ := List.getElem?_eq_some_iff.mp b
  exact (List.getElem_inj hN).mp (e1.trans e2.symm)
theorem store_ok2 {M : Model} {A : Around} {E : Value → Shared → Prop} {i : Nat} {x : Str} {v : V} {u : Value} {Q : Unit → Shared → Prop} (I : Inv X pins σ H s) (hN : X.N.Nodup) (hi : X.N[i]? = some x) (hx : Loc X.env.scope x) (r : RelV v u)
    (h : ∀ s', Inv X pins (σ.set i (some v)) H s' → (∃ a, Heap.SameBut a s.heap s'.heap ∧ (a = X.env.locals ∨ X.env.cells.lookup x = some a)) → Q () s') (hf : X.fn x = true ∨ X.env.scope.names.lookup x = some .local := by first | exact .inl rfl | exact .inr rfl | assumption) : wpAny M A (storeName X.env x u) Q E s := by
  obtain ⟨m, hn, hl⟩ := id I.loc
  have hcls : (X.env.scope.kind == .class || (X.env.scope.kind == .module && X.env.locals != X.env.globals)) = false := by rw [I.ok.kind]; rfl
  have hiσ : i < σ.length := by rw [I.len]; exact (List.getElem?_eq_some_iff.mp hi).1
  have cne := I.cne
  have tracked : ∀ {a : Addr} {h' : Heap}, (∃ o, s.heap.get? a = some o ∧ H a = none) → Heap.SameBut a s.heap h' → HOk X.prog X.w H h' := fun {a h'} ha hs b ob e => by
    obtain ⟨_, _, hfree⟩ := ha
    refine (I.hok b ob e).stay (fun c w' hc q => (hs.2 c ?_).trans q) (fun _ q => q) fun _ _ q => q
    rintro rfl
    rcases hc with rfl | hc
    · rw [hfree] at e; cases e
    · rw [hfree] at hc; cases hc
  rcases hx with hk | hk
  · refine wpAny_storeName_local hk hn (fun h' hn' hs => ?_) hcls
    obtain ⟨oL, _, _, hoL, _⟩ := id hn
    refine h _ ⟨I.ok, I.os, I.bare, ⟨fun b o e n hb hx => ?_, fun b o e n hb hx => ?_, I.base.free, fun b o e hx => ?_, I.base.tups, I.base.frzs, I.base.tbls⟩, ⟨_, hn', fun j y v' e1 e2 e3 => ?_⟩, fun y c e => ?_, I.free, I.freeC, fun p hp => ?_, tracked ⟨oL, hoL, I.free⟩ hs, by simpa using I.len⟩ ⟨_, hs, .inl rfl⟩
    · exact (hs.2 b (Nat.ne_of_lt (Nat.lt_of_lt_of_le (Heap.lt_size e) I.ok.above))).trans (I.base.keep b o e n hb hx)
    · obtain ⟨sl, e1⟩ := I.base.slot b o e n hb hx
      exact ⟨sl, (hs.2 b (Nat.ne_of_lt (Nat.lt_of_lt_of_le (Heap.lt_size e) I.ok.above))).trans e1⟩
    · obtain ⟨o', e1⟩ := I.base.there b o e hx
      exact ⟨o', (hs.2 b (Nat.ne_of_lt (Nat.lt_of_lt_of_le (Heap.lt_size e) I.ok.above))).trans e1⟩
    · by_cases hj : j = i
      · subst hj
        rw [hi] at e1; cases e1
        rw [List.getElem?_set_self hiσ] at e2
        cases e2
        exact ⟨u, r, .inl ⟨hk, by simp⟩⟩
      · rw [List.getElem?_set_ne (Ne.symm hj)] at e2
        obtain ⟨u', r', q⟩ := hl j y v' e1 e2 e3
        refine ⟨u', r', ?_⟩
        rcases q with ⟨k, e⟩ | ⟨k, c, e, z⟩
        · refine .inl ⟨k, ?_⟩
          have : y ≠ x := fun e => hj (nodup_ix hN e1 (e ▸ hi))
          simp [this, e]
        · exact .inr ⟨k, c, e, z.sameBut hs (cne y c e)⟩
    · obtain ⟨w', z⟩ := I.cell y c e
      exact ⟨w', z.sameBut hs (cne y c e)⟩
    · obtain ⟨e, n, ne, nf, d⟩ := I.pin p hp
      exact ⟨(hs.2 p.1 ne).trans e, n, ne, nf, d⟩
  · have hfn : X.fn x = true := by
      rcases hf with z | z
      · exact z
      · rw [z] at hk; cases hk
    obtain ⟨c, hc⟩ := I.ok.has x (.inl hk)
    obtain ⟨w', z⟩ := I.cell x c hc
    refine wpAny_storeName_cell I.ok.kind hk hc z (fun h' hc' hs => ?_)
    obtain ⟨oc, hoc, hocd⟩ := id z
    refine h { s with heap := h' } ⟨I.ok, I.os, I.bare, ⟨fun b o e n hb hx => ?_, fun b o e n hb hx => ?_, I.base.free, fun b o e hx => ?_, I.base.tups, I.base.frzs, I.base.tbls⟩, ⟨m, hn.sameBut hs (Ne.symm (cne x c hc)), fun j y v' e1 e2 e3 => ?_⟩, fun y c' e => ?_, I.free, I.freeC, fun p hp => ?_, tracked ⟨oc, hoc, (I.freeC x c hc).1 hfn⟩ hs, by simpa using I.len⟩ ⟨c, hs, .inr hc⟩
    · exact (hs.2 b (Nat.ne_of_lt (Nat.lt_of_lt_of_le (Heap.lt_size e) (I.ok.cab x c hfn hc)))).trans (I.base.keep b o e n hb hx)
    · obtain ⟨sl, e1⟩ := I.base.slot b o e n hb hx
      exact ⟨sl, (hs.2 b (Nat.ne_of_lt (Nat.lt_of_lt_of_le (Heap.lt_size e) (I.ok.cab x c hfn hc)))).trans e1⟩
    · obtain ⟨o', e1⟩ := I.base.there b o e hx
      exact ⟨o', (hs.2 b (Nat.ne_of_lt (Nat.lt_of_lt_of_le (Heap.lt_size e) (I.ok.cab x c hfn hc)))).trans e1⟩
    · by_cases hj : j = i
      · subst hj
        rw [hi] at e1; cases e1
        rw [List.getElem?_set_self hiσ] at e2
        cases e2
        exact ⟨u, r, .inr ⟨.inl hk, c, hc, hc'⟩⟩
      · rw [List.getElem?_set_ne (Ne.symm hj)] at e2
        obtain ⟨u', r', q⟩ := hl j y v' e1 e2 e3
        refine ⟨u', r', ?_⟩
        rcases q with q | ⟨k, c', e, z'⟩
        · exact .inl q
        · refine .inr ⟨k, c', e, z'.sameBut hs ?_⟩
          rintro rfl
          exact hj (nodup_ix hN e1 (I.ok.inj _ _ _ e hc ▸ hi))
    · by_cases hcc : c' = c
      · subst hcc; exact ⟨_, hc'⟩
      · obtain ⟨w2, z2⟩ := I.cell y c' e
        exact ⟨w2, z2.sameBut hs hcc⟩
    · obtain ⟨e, n, ne, nf, d⟩ := I.pin p hp
      refine ⟨(hs.2 p.1 ?_).trans e, n, ne, nf, d⟩
      intro q
      rw [q, hoc] at e
      have q' : oc = p.2 := Option.some.inj e
      exact d w' (by rw [← q']; exact hocd)
theorem store_ok {M : Model} {A : Around} {E : Value → Shared → Prop} {i : Nat} {x : Str} {v : V} {u : Value} {Q : Unit → Shared → Prop} (I : Inv X pins σ H s) (hN : X.N.Nodup) (hi : X.N[i]? = some x) (hx : Loc X.env.scope x) (r : RelV v u)
    (h : ∀ s', Inv X pins (σ.set i (some v)) H s' → Q () s') (hf : X.fn x = true ∨ X.env.scope.names.lookup x = some .local := by first | exact .inl rfl | exact .inr rfl | assumption) : wpAny M A (storeName X.env x u) Q E s :=
  store_ok2 I hN hi hx r (fun s' I' _ => h s' I') hf
theorem Inv.call' {s' : Shared} {ch : List Addr} (I : Inv X pins σ H s) (ho : s'.os = s.os) (u : Un (frs X.stack) ch H H' s.heap s'.heap) (hok : HOk X.prog X.w H' s'.heap) (hg : AllBare s'.gens)
    (hch : ∀ b ∈ ch, (b ∈ X.ex ∨ X.s₀.heap.objs.size ≤ b) ∧ b ≠ X.env.locals ∧ (∀ x c, X.env.cells.lookup x = some c → c ≠ b) ∧ ∀ p ∈ X.pn ++ pins, p.1 ≠ b) : Inv X pins σ H' s' := by
  obtain ⟨h', g', d', t', o'⟩ := s'
  have e : o' = s.os := ho
  subst e
  exact I.call (g' := g') (t' := t') (d' := d') u hok hg hch
end
abbrev XK := Value → Option Addr → Hp → Prop
abbrev St := List (Option V)
abbrev VK := V → Hp → Prop
abbrev TE := St → Hp → VK → Prop
abbrev TT := St → Hp → (Bool → Hp → Prop) → Prop
abbrev TA := St → Hp → (List V → Hp → Prop) → Prop
structure Ends where
  nx : St → Hp → Prop
  rt : VK
  bk : St → Hp → Prop := fun _ _ => False
  ct : St → Hp → Prop := fun _ _ => False
abbrev TS := Ends → St → Hp → Prop
def EP (X : Cx) (pins : List (Addr × Obj)) (σ : St) (Q : VK) (u : Value) (s' : Shared) : Prop := ∃ v H', Inv X pins σ H' s' ∧ RelV v u ∧ Q v H'
def TP (X : Cx) (pins : List (Addr × Obj)) (σ : St) (Q : Bool → Hp → Prop) (b : Bool) (s' : Shared) : Prop := ∃ H', Inv X pins σ H' s' ∧ Q b H'
def AP (X : Cx) (pins : List (Addr × Obj)) (σ : St) (Q : List V → Hp → Prop) (us : List Value) (s' : Shared) : Prop := ∃ vs H', Inv X pins σ H' s' ∧ Vals vs us ∧ Q vs H'
def SP (X : Cx) (pins : List (Addr × Obj)) (D : Ends) (f : Flow) (s' : Shared) : Prop :=
  match f with
  | .next => ∃ σ' H', Inv X pins σ' H' s' ∧ D.nx σ' H'
  | .brk => ∃ σ' H', Inv X pins σ' H' s' ∧ D.bk σ' H'
  | .cont => ∃ σ' H', Inv X pins σ' H' s' ∧ D.ct σ' H'
  | .ret u => ∃ v σ' H', Inv X pins σ' H' s' ∧ RelV v u ∧ D.rt v H'
def PE (X : Cx) (e : Expr) (t : TE) : Prop :=
  ∀ (pins : List (Addr × Obj)) (s : Shared) (σ : St) (H : Hp) (Q : VK), Inv X pins σ H s → t σ H Q → wpAny (model X.prog X.w) X.A (eval e X.env) (EP X pins σ Q) X.xe s
def PT (X : Cx) (e : Expr) (t : TT) : Prop :=
  ∀ (pins : List (Addr × Obj)) (s : Shared) (σ : St) (H : Hp) (Q : Bool → Hp → Prop), Inv X pins σ H s → t σ H Q → wpAny (model X.prog X.w) X.A (isTrue e X.env (eval e X.env)) (TP X pins σ Q) X.xe s
def PW (X : Cx) (e : Expr) (t : TT) : Prop :=
  ∀ (whole : Sem Value) (pins : List (Addr × Obj)) (s : Shared) (σ : St) (H : Hp) (Q : Bool → Hp → Prop), Inv X pins σ H s → t σ H Q → wpAny (model X.prog X.w) X.A (isTrue e X.env whole) (TP X pins σ Q) X.xe s
theorem PW.pt {X : Cx} {e : Expr} {t : TT} (h : PW X e t) : PT X e t := h _
def PA (X : Cx) (es : List Expr) (t : TA) : Prop :=
  ∀ (pos : Pos) (pins : List (Addr × Obj)) (s : Shared) (σ : St) (H : Hp) (Q : List V → Hp → Prop), Inv X pins σ H s → t σ H Q → wpAny (model X.prog X.w) X.A (spliced (backTo pos (starEach es X.env))) (AP X pins σ Q) X.xe s
def PS (X : Cx) (st : Stmt) (t : TS) : Prop :=
  ∀ (pins : List (Addr × Obj)) (s : Shared) (σ : St) (H : Hp) (D : Ends), Inv X pins σ H s → t D σ H → wpAny (model X.prog X.w) X.A (exec st X.env) (SP X pins D) X.xe s
def PSs (X : Cx) (st : List Stmt) (t : TS) : Prop :=
  ∀ (pins : List (Addr × Obj)) (s : Shared) (σ : St) (H : Hp) (D : Ends), Inv X pins σ H s → t D σ H → wpAny (model X.prog X.w) X.A (execs st X.env) (SP X pins D) X.xe s
theorem thn {α : Type} {t : Sem α} {Q Q' : α → Shared → Prop} {M : Model} {A : Around} {E : Value → Shared → Prop} {s : Shared} (h : wpAny M A t Q E s) (hQ : ∀ a s, Q a s → Q' a s) : wpAny M A t Q' E s := wpAny_mono h hQ fun _ _ x => x
end L2
namespace L2
open PySem PySem.Spec PyProof.Rows
section
variable {X : Cx}
def tVar (i : Nat) : TE := fun σ H Q => ∃ v, σ[i]? = some (some v) ∧ Q v H
def tC (v : V) : TE := fun _ H Q => Q v H
theorem pe_var {i : Nat} {x : Str} {pos : Pos} (hN : X.N[i]? = some x) (hv : Vis X.env.scope x) (hd : (x == ("__debug__" : Str)) = false := by decide) (hcd : (x == ("__classdict__" : Str)) = false := by decide) : PE X (.Name x pos) (tVar i) := by
  intro pins s σ H Q I h
  obtain ⟨v, e, h⟩ := h
  obtain ⟨m, hn, hl⟩ := I.loc
  obtain ⟨u, r, l⟩ := hl i x v hN e hv
  have fin : EP X pins σ Q u s := ⟨v, H, I, r, h⟩
  rcases l with ⟨hk, hm⟩ | ⟨hk, c, hc, hcell⟩
  · exact wpAny_Name (wpAny_loadName_local I.ok.kind hk hn hm fin) hd
  · rcases hk with hk | hk
    · exact wpAny_Name (wpAny_loadName_cell I.ok.kind hk hc hcell fin) hd
    · exact wpAny_Name (wpAny_loadName_free I.ok.kind hk hc hcell fin hcd) hd
theorem pe_int {i j pos} : PE X (.Constant (.int i) j pos) (tC (.int i)) := fun _ _ _ H _ I h => wpAny_Constant_int ⟨.int i, H, I.tok _, ⟨_, rfl⟩, h⟩
theorem pe_bl {b j pos} : PE X (.Constant (.bool b) j pos) (tC (.bl b)) := fun _ _ _ H _ I h => Constant_bool ⟨.bl b, H, I, rfl, h⟩
theorem pe_non {j pos} : PE X (.Constant .none j pos) (tC .non) := fun _ _ _ H _ I h => Constant_none ⟨.non, H, I, rfl, h⟩
theorem pe_str {x j pos} : PE X (.Constant (.str x) j pos) (tC (.str x)) := fun _ _ _ H _ I h => Calls.Constant_str ⟨.str x, H, I.tok _, ⟨_, rfl⟩, h⟩
def Gl (X : Cx) (x : Str) : Prop := X.env.kindOf x = some .globalImplicit
theorem ld_glob {E : Value → Shared → Prop} {pins : List (Addr × Obj)} {s : Shared} {σ : St} {H : Hp} {x : Str} {u : Value} {pos : Pos} {Q : Value → Shared → Prop} (I : Inv X pins σ H s) (hg : Gl X x) (hm : X.mg x = some u) (h : Q u s)
    (hd : (x == ("__debug__" : Str)) = false := by decide) : wpAny (model X.prog X.w) X.A (eval (.Name x pos) X.env) Q E s :=
  Calls.Name_function_global I.ok.kind hg (Calls.loadGlobal_global (by rw [I.ok.glob]; exact I.mod.glob.keeps I.bk) hm h) hd
theorem ld_blt {E : Value → Shared → Prop} {pins : List (Addr × Obj)} {s : Shared} {σ : St} {H : Hp} {x : Str} {u : Value} {pos : Pos} {Q : Value → Shared → Prop} (I : Inv X pins σ H s) (hg : Gl X x) (hm : X.mg x = none) (hv : bootBuiltins x = some u) (h : Q u s)
    (hn : x ≠ "__name__" := by decide) (hd : (x == ("__debug__" : Str)) = false := by decide) : wpAny (model X.prog X.w) X.A (eval (.Name x pos) X.env) Q E s := by
  obtain ⟨mb, h1, h2⟩ := I.mod.blt
  exact Calls.Name_function_global I.ok.kind hg (Calls.loadGlobal_builtin (by rw [I.ok.glob]; exact I.mod.glob.keeps I.bk) hm (by rw [I.ok.blt]; exact h1.keeps I.bk) ((h2 x hn).trans hv) h) hd
theorem pe_bltn {x : Str} {v : V} {u : Value} {pos : Pos} (hg : Gl X x) (hm : X.mg x = none) (hv : bootBuiltins x = some u) (r : RelV v u) (hn : x ≠ "__name__" := by decide) (hd : (x == ("__debug__" : Str)) = false := by decide) : PE X (.Name x pos) (tC v) :=
  fun _ _ _ H _ I h => ld_blt I hg hm hv ⟨v, H, I, r, h⟩ hn hd
variable {a b : Expr} {ta tb : TE} {pos : Pos}
def PC (X : Cx) (op : CmpOp) (a b : Expr) (t : TE) : Prop :=
  ∀ (pins : List (Addr × Obj)) (s : Shared) (σ : St) (H : Hp) (Q : VK), Inv X pins σ H s → t σ H Q →
    wpAny (model X.prog X.w) X.A (eval a X.env) (fun v s₁ => wpAny (model X.prog X.w) X.A (eval b X.env) (fun u s₂ => wpAny (model X.prog X.w) X.A (compareOp op v u) (EP X pins σ Q) X.xe s₂) X.xe s₁) X.xe s
theorem nobehind (b : Expr) {op : CmpOp} (h : op ≠ .In) (h2 : op ≠ .NotIn) : behindInMarks op b = false := by
  have e1 : (op == CmpOp.In) = false := by cases op <;> first | rfl | exact absurd rfl h
  have e2 : (op == CmpOp.NotIn) = false := by cases op <;> first | rfl | exact absurd rfl h2
  cases b <;> simp [behindInMarks, e1, e2]
def tB (t : TE) : TT := fun σ H Q => t σ H fun x H1 => ∃ c, x = .bl c ∧ Q c H1
theorem pe_cmp {op : CmpOp} {t : TE} (h : PC X op a b t) (h1 : behindInMarks op b = false := by first | exact nobehind _ (by decide) (by decide) | rfl) : PE X (.Compare a [op] [b] pos) t := fun pins s σ H Q I hw => wpAny_Compare1 (h pins s σ H Q I hw) h1
theorem pt_cmp {op : CmpOp} {t : TE} (h : PC X op a b t) (h1 : behindInMarks op b = false := by first | exact nobehind _ (by decide) (by decide) | rfl) : PT X (.Compare a [op] [b] pos) (tB t) := by
  intro pins s σ H Q I hw
  refine wpAny_isTrue_Compare1 (thn (h pins s σ H _ I hw) fun v s1 h1 => thn h1 fun u s2 h2 => thn h2 fun c s3 ⟨x, H1, I1, r1, q1⟩ => ?_) h1
  obtain ⟨d, rfl, q⟩ := q1
  cases r1
  exact wpAny_truthy_bool ⟨H1, I1, q⟩
theorem pt_val {e : Expr} {t : TE} (h : PE X e t) (he : ∀ whole, isTrue e X.env whole = (do let v ← whole; standAt e.pos; holding [v] (truthy v)) := by intro _; rfl) : PT X e (tB t) := by
  intro pins s σ H Q I hw
  refine isTrue_plain (thn (h pins s σ H _ I hw) fun v s1 ⟨x, H1, I1, r1, q1⟩ => ?_) (he _)
  obtain ⟨d, rfl, q⟩ := q1
  cases r1
  exact wpAny_truthy_bool ⟨H1, I1, q⟩
variable {tA tB' : TT} {rest : List Expr}
def tAnd (t u : TT) : TT := fun σ H Q => t σ H fun c H1 => if c = true then u σ H1 Q else Q false H1
def tOr (t u : TT) : TT := fun σ H Q => t σ H fun c H1 => if c = true then Q true H1 else u σ H1 Q
def tNot (t : TT) : TT := fun σ H Q => t σ H fun c H1 => Q (!c) H1
theorem pw_and1 (ha : PT X a tA) : PW X (.BoolOp .And [a] pos) tA := by
  intro wh pins s σ H Q I h
  refine isTrue_and (thn (ha pins s σ H Q I h) fun c s1 e => ?_)
  cases c with
  | true => exact isTrue_and_nil e
  | false => exact e
theorem pw_or1 (ha : PT X a tA) : PW X (.BoolOp .Or [a] pos) tA := by
  intro wh pins s σ H Q I h
  refine isTrue_or (thn (ha pins s σ H Q I h) fun c s1 e => ?_)
  cases c with
  | false => exact isTrue_or_nil e
  | true => exact e
theorem pw_and (ha : PT X a tA) (hb : PW X (.BoolOp .And (b :: rest) pos) tB') : PW X (.BoolOp .And (a :: b :: rest) pos) (tAnd tA tB') := by
  intro wh pins s σ H Q I h
  refine isTrue_and (thn (ha pins s σ H _ I h) fun c s1 ⟨H1, I1, q1⟩ => ?_)
  cases c with
  | true => exact hb wh pins s1 σ H1 Q I1 q1
  | false => exact ⟨H1, I1, q1⟩
theorem pw_or (ha : PT X a tA) (hb : PW X (.BoolOp .Or (b :: rest) pos) tB') : PW X (.BoolOp .Or (a :: b :: rest) pos) (tOr tA tB') := by
  intro wh pins s σ H Q I h
  refine isTrue_or (thn (ha pins s σ H _ I h) fun c s1 ⟨H1, I1, q1⟩ => ?_)
  cases c with
  | true => exact ⟨H1, I1, q1⟩
  | false => exact hb wh pins s1 σ H1 Q I1 q1
theorem pt_not (ha : PT X a tA) : PT X (.UnaryOp .Not a pos) (tNot tA) := by
  intro pins s σ H Q I h
  exact isTrue_not (ha pins s σ H (fun c H1 => Q (!c) H1) I h)
def tAndV (ta tb : TE) : TE := fun σ H Q => ta σ H fun x H1 => ∃ c, x = .bl c ∧ if c = true then tb σ H1 Q else Q (.bl false) H1
def tNotV (ta : TE) : TE := fun σ H Q => ta σ H fun x H1 => ∃ c, x = .bl c ∧ Q (.bl (!c)) H1
theorem pe_one {op} {t : TE} (h : PE X a t) : PE X (.BoolOp op [a] pos) t := fun pins s σ H Q I hw => BoolOp_one (h pins s σ H Q I hw)
theorem pe_and (ha : PE X a ta) (hb : PE X (.BoolOp .And (b :: rest) pos) tb) : PE X (.BoolOp .And (a :: b :: rest) pos) (tAndV ta tb) := by
  intro pins s σ H Q I h
  refine BoolOp_and (thn (ha pins s σ H _ I h) fun v s1 ⟨x, H1, I1, r1, q1⟩ => ?_)
  obtain ⟨c, rfl, q1⟩ := q1
  cases r1
  refine wpAny_truthy_bool ?_
  cases c with
  | true => exact hb pins s1 σ H1 Q I1 q1
  | false => exact ⟨.bl false, H1, I1, rfl, q1⟩
theorem pe_not (ha : PE X a ta) : PE X (.UnaryOp .Not a pos) (tNotV ta) := by
  intro pins s σ H Q I h
  refine UnaryOp_ (thn (ha pins s σ H _ I h) fun v s1 ⟨x, H1, I1, r1, q1⟩ => ?_)
  obtain ⟨c, rfl, q1⟩ := q1
  cases r1
  exact not_of (wpAny_truthy_bool ⟨.bl (!c), H1, I1, rfl, q1⟩)
def tIf (t : TT) (ta tb : TE) : TE := fun σ H Q => t σ H fun c H1 => if c = true then ta σ H1 Q else tb σ H1 Q
theorem pe_ifExp {c : Expr} (hc : PT X c tA) (ha : PE X a ta) (hb : PE X b tb) : PE X (.IfExp c a b pos) (tIf tA ta tb) := by
  intro pins s σ H Q I h
  refine wpAny_IfExp (thn (hc pins s σ H _ I h) fun d s1 ⟨H1, I1, q1⟩ => ?_)
  cases d with
  | true => exact ha pins s1 σ H1 Q I1 q1
  | false => exact hb pins s1 σ H1 Q I1 q1
end
end L2
namespace L2
open PySem PySem.Spec PyProof.Rows
def SqL (K : PySem.W.Frag) (H : Hp) (a : Addr) (xs : List V) : Prop :=
  Rd H a (.lst xs) ∨
    ∃ (o : Obj) (its : Array Value) (n : Nat), K.lookup a = some o ∧ o.cls = .type "list" ∧ o.dict = none ∧ o.data = .seq its n ∧ its.size ≤ sizeLine ∧ Vals xs its.toList
def SqT (K : PySem.W.Frag) (H : Hp) (a : Addr) (xs : List V) : Prop :=
  Rd H a (.tup xs) ∨
    ∃ (o : Obj) (its : Array Value) (n : Nat), K.lookup a = some o ∧ o.cls = .type "tuple" ∧ o.data = .seq its n ∧ its.size ≤ sizeLine ∧ Vals xs its.toList
def absV : Value → Option V
  | .none => some .non
  | .bool b => some (.bl b)
  | .int i _ => some (.int i)
  | .str x _ => some (.str x)
  | .bytes b _ => some (.byt b)
  | .float b _ => some (.flt b)
  | .ref a => some (.ref a)
  | .type n => some (.ty n)
  | _ => none
theorem RelV.abs {x : V} {u : Value} (r : RelV x u) : absV u = some x := by
  cases x with
  | non => cases r; rfl
  | bl _ => cases r; rfl
  | int _ => obtain ⟨t, rfl⟩ := r; rfl
  | str _ => obtain ⟨t, rfl⟩ := r; rfl
  | byt _ => obtain ⟨t, rfl⟩ := r; rfl
  | flt _ => obtain ⟨t, rfl⟩ := r; rfl
  | ref _ => cases r; rfl
  | ty _ => cases r; rfl
theorem RelV.inj {x y : V} {u : Value} (r : RelV x u) (q : RelV y u) : x = y := Option.some.inj (r.abs.symm.trans q.abs)
theorem Vals.inj : ∀ {xs ys : List V} {us : List Value}, Vals xs us → Vals ys us → xs = ys
  | _, _, _, .nil, .nil => rfl
  | _, _, _, .cons r t, .cons r' t' => by rw [r.inj r', Vals.inj t t']
section
variable {X : Cx} {pins : List (Addr × Obj)} {σ : St} {H : Hp} {s : Shared} {a : Addr} {xs ys : List V}
theorem SqL.of {K : PySem.W.Frag} (h : H a = some (.lst xs)) : SqL K H a xs := .inl (.inl h)
theorem SqT.of {K : PySem.W.Frag} (h : H a = some (.tup xs)) : SqT K H a xs := .inl (.inl h)
theorem Inv.list (I : Inv X pins σ H s) (h : SqL X.K H a xs) : ∃ its : List Value, Vals xs its ∧ PlainL s.heap a its.toArray ∧ xs.length ≤ sizeLine := by
  rcases h with h | ⟨o, its, n, hk, hc, hd, hs, hz, r⟩
  · obtain ⟨z, its, n, r, e⟩ := h.ok I.hok
    exact ⟨its, r, ⟨_, n, e, rfl, rfl, rfl⟩, z⟩
  · refine ⟨its.toList, r, ⟨o, n, I.kIn a o hk, hc, hd, by simpa using hs⟩, ?_⟩
    have e := r.length
    simp only [Array.length_toList] at e
    omega
theorem Inv.tuple (I : Inv X pins σ H s) (h : SqT X.K H a xs) : ∃ its : List Value, Vals xs its ∧ IsTup s.heap a its.toArray ∧ xs.length ≤ sizeLine := by
  rcases h with h | ⟨o, its, n, hk, hc, hs, hz, r⟩
  · obtain ⟨z, its, r, p⟩ := h.ok I.hok
    exact ⟨its, r, p, z⟩
  · refine ⟨its.toList, r, ⟨o, I.kIn a o hk, hc, n, by simpa using hs⟩, ?_⟩
    have e := r.length
    simp only [Array.length_toList] at e
    omega
theorem Inv.list_inj (I : Inv X pins σ H s) (h : SqL X.K H a xs) (h' : SqL X.K H a ys) : xs = ys := by
  obtain ⟨its, r, ⟨o, n, e, _, _, d⟩, _⟩ := I.list h
  obtain ⟨its', r', ⟨o', n', e', _, _, d'⟩, _⟩ := I.list h'
  rw [e] at e'; cases e'
  rw [d] at d'
  injection d' with d1 _
  have : its = its' := by simpa using congrArg Array.toList d1
  subst this
  exact r.inj r'
end
abbrev Cx.wish (X : Cx) (E : Value → Shared → Prop) : Cx := { X with xe := E }
abbrev Cx.nox (X : Cx) : Cx := X.wish fun _ _ => False
theorem Cx.Ok.wish {X : Cx} (ok : X.Ok) (E : Value → Shared → Prop) : (X.wish E).Ok :=
  ⟨ok.mod, ok.kind, ok.glob, ok.blt, ok.above, ok.inj, ok.has, ok.cab, ok.hd, ok.frames, ok.stk, ok.exf, ok.bs, ok.bsz, ok.noex, ok.exfs, ok.funs, ok.frf⟩
theorem Cx.Ok.unwish {X : Cx} {E : Value → Shared → Prop} (ok : (X.wish E).Ok) : X.Ok :=
  ⟨ok.mod, ok.kind, ok.glob, ok.blt, ok.above, ok.inj, ok.has, ok.cab, ok.hd, ok.frames, ok.stk, ok.exf, ok.bs, ok.bsz, ok.noex, ok.exfs, ok.funs, ok.frf⟩
section
variable {X : Cx} {pins : List (Addr × Obj)} {σ : St} {H : Hp} {s : Shared} {E : Value → Shared → Prop}
theorem Inv.wish (I : Inv X pins σ H s) (E : Value → Shared → Prop) : Inv (X.wish E) pins σ H s := ⟨I.ok.wish E, I.os, I.bare, I.base, I.loc, I.cell, I.free, I.freeC, I.pin, I.hok, I.len⟩
theorem Inv.unwish (I : Inv (X.wish E) pins σ H s) : Inv X pins σ H s := ⟨I.ok.unwish, I.os, I.bare, I.base, I.loc, I.cell, I.free, I.freeC, I.pin, I.hok, I.len⟩
theorem SP.unwish {D : Ends} {f : Flow} {s' : Shared} (h : SP (X.wish E) pins D f s') : SP X pins D f s' := by
  cases f with
  | next => obtain ⟨σ', H', I, q⟩ := h; exact ⟨σ', H', I.unwish, q⟩
  | brk => obtain ⟨σ', H', I, q⟩ := h; exact ⟨σ', H', I.unwish, q⟩
  | cont => obtain ⟨σ', H', I, q⟩ := h; exact ⟨σ', H', I.unwish, q⟩
  | ret u => obtain ⟨v, σ', H', I, r, q⟩ := h; exact ⟨v, σ', H', I.unwish, r, q⟩
theorem PE.nox {e : Expr} {t : TE} (h : PE X.nox e t) : PE X e t := fun pins s σ H Q I hw =>
  wpAny_mono (h pins s σ H Q (I.wish _) hw) (fun _ _ ⟨v, H', I', r, q⟩ => ⟨v, H', I'.unwish, r, q⟩) fun _ _ z => False.elim z
theorem PT.nox {e : Expr} {t : TT} (h : PT X.nox e t) : PT X e t := fun pins s σ H Q I hw =>
  wpAny_mono (h pins s σ H Q (I.wish _) hw) (fun _ _ ⟨H', I', q⟩ => ⟨H', I'.unwish, q⟩) fun _ _ z => False.elim z
theorem PSs.nox {st : List Stmt} {t : TS} (h : PSs X.nox st t) : PSs X st t := fun pins s σ H D I hw =>
  wpAny_mono (h pins s σ H D (I.wish _) hw) (fun _ _ q => q.unwish) fun _ _ z => False.elim z
end
section
variable {X : Cx} {st : Stmt} {rest : List Stmt} {t u : TS} {e : Expr} {te : TE} {pos : Pos}
def tNext : TS := fun D σ H => D.nx σ H
def tSeq (t u : TS) : TS := fun D σ H => t { D with nx := u D } σ H
theorem pss_nil : PSs X [] tNext := fun _ _ σ H _ I h => wpAny_execs_nil ⟨σ, H, I, h⟩
theorem pss_cons (h1 : PS X st t) (h2 : PSs X rest u) : PSs X (st :: rest) (tSeq t u) := by
  intro pins s σ H D I h
  refine wpAny_execs_cons (thn (h1 pins s σ H { D with nx := u D } I h) fun f s1 q => ?_)
  cases f with
  | next =>
    obtain ⟨σ', H', I', q⟩ := q
    exact h2 pins s1 σ' H' D I' q
  | ret v => exact q
  | brk => exact q
  | cont => exact q
theorem pss_one (h1 : PS X st t) : PSs X [st] t := by
  intro pins s σ H D I h
  refine wpAny_execs_cons (thn (h1 pins s σ H D I h) fun f s1 q => ?_)
  cases f with
  | next => exact wpAny_execs_nil q
  | ret v => exact q
  | brk => exact q
  | cont => exact q
theorem ps_pass : PS X (.Pass pos) tNext := fun _ _ σ H _ I h => wpAny_Pass ⟨σ, H, I, h⟩
theorem Inv.quiet {pins : List (Addr × Obj)} {σ : St} {H : Hp} {s : Shared} (I : Inv X pins σ H s) : interactive X.env = false := by simp [interactive, I.ok.kind]
def tDrop (te : TE) : TS := fun D σ H => te σ H fun _ H1 => D.nx σ H1
theorem ps_expr (he : PE X e te) (hs : swapsWith e none pos.line X.env = pure false := by rfl) : PS X (.Expr e pos) (tDrop te) := by
  intro pins s σ H D I h
  exact wpAny_Expr_any (thn (he pins s σ H _ I h) fun v s1 ⟨x, H1, I1, r1, q1⟩ => ⟨σ, H1, I1, q1⟩) I.quiet hs
def tRet (te : TE) : TS := fun D σ H => te σ H D.rt
theorem ps_ret (he : PE X e te) : PS X (.Return (some e) pos) (tRet te) := by
  intro pins s σ H D I h
  exact wpAny_Return_some (thn (he pins s σ H _ I h) fun v s1 ⟨x, H1, I1, r1, q1⟩ => ⟨x, σ, H1, I1, r1, q1⟩)
def tIfS (c : TT) (t u : TS) : TS := fun D σ H => c σ H fun b H1 => if b = true then t D σ H1 else u D σ H1
theorem ps_if {c : Expr} {a b : List Stmt} {tc : TT} (hc : PT X c tc) (ha : PSs X a t) (hb : PSs X b u) : PS X (.If c a b pos) (tIfS tc t u) := by
  intro pins s σ H D I h
  refine wpAny_If (thn (hc pins s σ H _ I h) fun d s1 ⟨H1, I1, q1⟩ => ?_)
  cases d with
  | true => exact ha pins s1 σ H1 D I1 q1
  | false => exact hb pins s1 σ H1 D I1 q1
end
abbrev TG := V → St → Hp → (St → Hp → Prop) → Prop
abbrev TGs := List V → St → Hp → (St → Hp → Prop) → Prop
def PG (X : Cx) (target : Expr) (t : TG) : Prop :=
  ∀ (pins : List (Addr × Obj)) (s : Shared) (σ : St) (H : Hp) (v : V) (u : Value) (Q : St → Hp → Prop), Inv X pins σ H s → RelV v u → t v σ H Q →
    wpAny (model X.prog X.w) X.A (assign target X.env u) (fun _ s' => ∃ σ' H', Inv X pins σ' H' s' ∧ Q σ' H') X.xe s
def PGs (X : Cx) (ts : List Expr) (t : TGs) : Prop :=
  ∀ (pins : List (Addr × Obj)) (s : Shared) (σ : St) (H : Hp) (vs : List V) (us : List Value) (Q : St → Hp → Prop), Inv X pins σ H s → Vals vs us → t vs σ H Q →
    wpAny (model X.prog X.w) X.A (assignInOrder ((assignEach ts X.env).map (·.2)) us) (fun _ s' => ∃ σ' H', Inv X pins σ' H' s' ∧ Q σ' H') X.xe s
section
variable {X : Cx} {pos : Pos}
def gName (i : Nat) : TG := fun v σ H Q => Q (σ.set i (some v)) H
theorem pg_name {i : Nat} {x : Str} (hN : X.N.Nodup) (hi : X.N[i]? = some x) (hx : Loc X.env.scope x) (hf : X.fn x = true ∨ X.env.scope.names.lookup x = some .local := by first | exact .inl rfl | exact .inr rfl | assumption) : PG X (.Name x pos) (gName i) := by
  intro pins s σ H v u Q I r h
  exact wpAny_assign_Name (store_ok I hN hi hx r (fun s' I' => ⟨_, H, I', h⟩) hf)
def gNil : TGs := fun vs σ H Q => vs = [] ∧ Q σ H
def gCons (t : TG) (u : TGs) : TGs := fun vs σ H Q => ∃ v r, vs = v :: r ∧ t v σ H fun σ' H' => u r σ' H' Q
theorem pgs_nil : PGs X [] gNil := by
  intro pins s σ H vs us Q I r h
  obtain ⟨e, h⟩ := h
  subst e
  cases r
  exact assignInOrder_nil ⟨σ, H, I, h⟩
theorem pgs_cons {e : Expr} {es : List Expr} {t : TG} {u : TGs} (h1 : PG X e t) (h2 : PGs X es u)
    (hs : (assignEach (e :: es) X.env).map (·.2) = assign e X.env :: (assignEach es X.env).map (·.2) := by rfl) : PGs X (e :: es) (gCons t u) := by
  intro pins s σ H vs us Q I r h
  obtain ⟨v, vr, e1, h⟩ := h
  subst e1
  cases r with
  | cons r rr =>
    rw [hs]
    refine assignInOrder_cons (thn (h1 pins s σ H _ _ _ I r h) fun _ s1 ⟨σ1, H1, I1, q1⟩ => ?_)
    exact h2 pins s1 σ1 H1 _ _ Q I1 rr q1
def gTup (K : PySem.W.Frag) (n : Nat) (t : TGs) : TG := fun v σ H Q => ∃ a xs, v = .ref a ∧ SqT K H a xs ∧ xs.length = n ∧ t xs σ H Q
theorem pg_tup {es : List Expr} {k : Nat} {t : TGs} {n : Nat} (hc : X.calm = true) (h : PGs X es t)
    (hn : (assignEach es X.env).length = n := by rfl) (hst : (assignEach es X.env).findIdx? (·.1) = none := by rfl) : PG X (.Tuple es k pos) (gTup X.K n t) := by
  intro pins s σ H v u Q I r hw
  obtain ⟨a, xs, e1, hq, hl, hw⟩ := hw
  subst e1
  cases r
  obtain ⟨its, rv, ht, hz⟩ := I.tuple hq
  refine assign_Tuple_tuple (I.ok.hd hc) ht (by simp [hn, ← hl, rv.length]) hst fun h' hx => ?_
  have I1 : Inv X pins σ H { s with heap := h' } := I.kept (t' := s.toks) fun b o e => hx b o (Nat.ne_of_lt (Heap.lt_size e)) e
  exact h pins _ σ H xs _ Q I1 (by simpa using rv) hw
def tAsg (te : TE) (g : TG) : TS := fun D σ H => te σ H fun x H1 => g x σ H1 D.nx
theorem ps_asg {tg e : Expr} {te : TE} {g : TG} (he : PE X e te) (hg : PG X tg g) (hs : swapsWithSole [tg] e pos.line X.env = pure false := by rfl) (hw : swappedStores [tg] e X.env = pure none := by rfl)
    (h1 : (assignEach [tg] X.env).map (·.2) = [assign tg X.env] := by rfl) : PS X (.Assign [tg] e pos) (tAsg te g) := by
  intro pins s σ H D I h
  refine wpAny_Assign_stores (thn (he pins s σ H _ I h) fun v s1 ⟨x, H1, I1, r1, q1⟩ => ?_) hs hw
  rw [h1]
  exact thn (hg pins s1 σ H1 x v _ I1 r1 q1) fun _ s2 q => q
theorem ps_set {i : Nat} {x : Str} {e : Expr} {te : TE} {pos' : Pos} (hN : X.N.Nodup) (hi : X.N[i]? = some x) (hx : Loc X.env.scope x) (he : PE X e te) (hs : swapsWith e (some (.Name x pos')) pos.line X.env = pure false := by rfl) (hf : X.fn x = true ∨ X.env.scope.names.lookup x = some .local := by first | exact .inl rfl | exact .inr rfl | assumption) :
    PS X (.Assign [.Name x pos'] e pos) (tAsg te (gName i)) := by
  intro pins s σ H D I h
  refine wpAny_Assign_Name (thn (he pins s σ H _ I h) fun v s1 ⟨y, H1, I1, r1, q1⟩ => ?_) hs
  exact store_ok I1 hN hi hx r1 (fun s2 I2 => ⟨_, H1, I2, q1⟩) hf
end
section
variable {X : Cx} {pos : Pos}
def tWhile (c : TT) (tb : TS) : TS := fun D σ H => ∃ W : Nat → St → Hp → Prop, (∃ m, W m σ H) ∧ ∀ m σ H, W m σ H →
  c σ H fun b H1 => if b = true then ∃ N : St → Hp → Prop, (∀ σ' H', N σ' H' → ∃ m', m' < m ∧ W m' σ' H') ∧ tb { D with nx := N, ct := N, bk := D.nx } σ H1 else D.nx σ H1
theorem ps_while {c : Expr} {body : List Stmt} {tc : TT} {tb : TS} (hp : PassesOwn (model X.prog X.w) X.A X.env X.xe) (hc : PT X c tc) (hb : PSs X body tb) : PS X (.While c body [] pos) (tWhile tc tb) := by
  intro pins s σ H D I h
  obtain ⟨W, ⟨m0, w0⟩, turn⟩ := h
  refine wpAny_While (codeAny_whileLoop (fun n s' => ∃ σ' H', Inv X pins σ' H' s' ∧ W n σ' H') ?_ m0 ⟨σ, H, I, w0⟩)
  rintro n s1 ⟨σ1, H1, I1, w1⟩
  refine wpAny_passesOwn hp (thn (hc pins s1 σ1 H1 _ I1 (turn n σ1 H1 w1)) fun b s2 ⟨H2, I2, q2⟩ => ?_)
  cases b with
  | true =>
    obtain ⟨N, hN, q2⟩ := q2
    rw [if_pos rfl]
    refine wpAny_passesOwn hp (thn (hb pins s2 σ1 H2 _ I2 q2) fun f s3 q3 => ?_)
    cases f with
    | next =>
      obtain ⟨σ3, H3, I3, n3⟩ := q3
      obtain ⟨m', hm, w3⟩ := hN σ3 H3 n3
      exact ⟨m', hm, σ3, H3, I3, w3⟩
    | cont =>
      obtain ⟨σ3, H3, I3, n3⟩ := q3
      obtain ⟨m', hm, w3⟩ := hN σ3 H3 n3
      exact ⟨m', hm, σ3, H3, I3, w3⟩
    | brk => exact q3
    | ret v => exact q3
  | false =>
    rw [if_neg Bool.false_ne_true]
    exact wpAny_execs_nil ⟨σ1, H2, I2, q2⟩
end
structure It where
  go : Nat → Hp → Prop
  yld : Nat → Hp → V → Hp → Prop
  stop : Nat → Hp → Prop
def FpOk (X : Cx) (pins : List (Addr × Obj)) (H : Hp) (b : Addr) : Prop :=
  H b = none ∧ b ≠ X.env.locals ∧ b ∉ X.fs ∧ (b ∈ X.ex ∨ X.s₀.heap.objs.size ≤ b) ∧ (∀ x c, X.env.cells.lookup x = some c → c ≠ b) ∧ ∀ p ∈ X.pn ++ pins, p.1 ≠ b
theorem Inv.fpOk {X : Cx} {pins : List (Addr × Obj)} {σ : St} {H H' : Hp} {s : Shared} {b : Addr} (I : Inv X pins σ H s) (hb : s.heap.objs.size ≤ b) (hn : H' b = none) : FpOk X pins H' b := by
  refine ⟨hn, Nat.ne_of_gt (Nat.lt_of_lt_of_le I.lt hb), I.nofs hb, .inr (Nat.le_trans I.sz hb), fun x c e z => ?_, fun p hp z => ?_⟩
  · obtain ⟨v, q⟩ := I.cell x c e
    exact absurd (Nat.lt_of_lt_of_le q.lt (by rw [z]; exact hb)) (Nat.lt_irrefl _)
  · exact absurd (Nat.lt_of_lt_of_le (Heap.lt_size (I.pin p hp).1) (by rw [z]; exact hb)) (Nat.lt_irrefl _)
structure Turn (P : Program) (w : World) (K : PySem.W.Frag) (tg : Expr) (J : It) (fp : List Addr) (it : Addr) (tn : Nat → Heap → Prop) : Prop where
  mem : it ∈ fp
  obj : ∀ i h, tn i h → ∀ b ∈ fp, ∃ o, h.get? b = some o ∧ ∀ v, o.data ≠ .cell v
  keep : ∀ i h h', tn i h → (∀ b ∈ fp, ∀ o, h.get? b = some o → h'.get? b = some o) → tn i h'
  item : ∀ (X : Cx), X.prog = P → X.w = w → X.K = K → X.calm = true → ∀ (i : Nat) (pins : List (Addr × Obj)) (s : Shared) (σ : St) (H : Hp) (E : Value → Shared → Prop), Inv X pins σ H s → (∀ b ∈ fp, FpOk X pins H b) → tn i s.heap → J.go i H →
    wpAny (model P w) X.A (pyNext (.ref it)) (fun r s1 => ∃ u, r = some u ∧
      wpAny (model P w) X.A (letOwnedTupleGo tg (.ref it) u) (fun _ s2 => ∃ x H', Inv X pins σ H' s2 ∧ RelV x u ∧ J.yld i H x H' ∧ tn (i + 1) s2.heap ∧ ∀ b ∈ fp, H' b = none) E s1) E s
  done : ∀ (X : Cx), X.prog = P → X.w = w → X.K = K → X.calm = true → ∀ (i : Nat) (pins : List (Addr × Obj)) (s : Shared) (σ : St) (H : Hp) (E : Value → Shared → Prop), Inv X pins σ H s → (∀ b ∈ fp, FpOk X pins H b) → tn i s.heap → J.stop i H →
    wpAny (model P w) X.A (pyNext (.ref it)) (fun r s1 => r = none ∧ Inv X pins σ H s1) E s
  self : ∀ (A : Around) (i : Nat) (s : Shared) (Q : Value → Shared → Prop) (E : Value → Shared → Prop), tn i s.heap → Q (.ref it) s → wpAny (model P w) A (pyIter (.ref it)) Q E s
abbrev TI := St → Hp → (It → Hp → Prop) → Prop
def PIE (X : Cx) (pins : List (Addr × Obj)) (σ : St) (tg : Expr) (R : It → Hp → Prop) (itv : Value) (s2 : Shared) : Prop :=
  ∃ (it : Addr) (fp : List Addr) (tn : Nat → Heap → Prop) (J : It) (H' : Hp), itv = .ref it ∧ Inv X pins σ H' s2 ∧ Turn X.prog X.w X.K tg J fp it tn ∧ tn 0 s2.heap ∧ (∀ b ∈ fp, FpOk X pins H' b) ∧ R J H'
def PI (X : Cx) (tg iter : Expr) (wi : TI) : Prop :=
  ∀ (pins : List (Addr × Obj)) (s : Shared) (σ : St) (H : Hp) (R : It → Hp → Prop), Inv X pins σ H s → wi σ H R →
    wpAny (model X.prog X.w) X.A (eval iter X.env) (fun v s1 => wpAny (model X.prog X.w) X.A (pyIter v) (PIE X pins σ tg R) X.xe s1) X.xe s
theorem go_of {M : Model} {A : Around} {E : Value → Shared → Prop} {s : Shared} {tg : Expr} {it : Addr} {u : Value} {o : Obj} {n : String} {vs : Array Value} {Q : Unit → Shared → Prop} (ho : s.heap.get? it = some o) (hc : o.cls = .type n) (hd : o.data = .fields vs)
    (hn : ["enumerate", "zip", "dict_itemiterator", "dict_reverseitemiterator", "odict_iterator", "itertools.zip_longest", "itertools.pairwise"].contains n = false) (hQ : Q () s) : wpAny M A (letOwnedTupleGo tg (.ref it) u) Q E s := by
  unfold letOwnedTupleGo
  cases tg <;> first
    | exact wpAny_pure hQ
    | (cases u <;> first
        | exact wpAny_pure hQ
        | (refine wpAny_bind (wpAny_load ho ?_)
           rw [hc, hd]
           show wpAny M A (if (["enumerate", "zip", "dict_itemiterator", "dict_reverseitemiterator", "odict_iterator", "itertools.zip_longest", "itertools.pairwise"].contains n && vs[0]? == some (rawInt _)) = true then _ else _) Q E s
           rw [if_neg (by intro h; rw [hn, Bool.false_and] at h; cases h)]
           exact wpAny_pure hQ))
def Itl (K : PySem.W.Frag) (a : Addr) : It :=
  ⟨fun i H => ∃ xs x, SqL K H a xs ∧ xs[i]? = some x, fun i H x H' => H' = H ∧ ∀ xs, SqL K H a xs → xs[i]? = some x, fun i H => ∃ xs, SqL K H a xs ∧ xs.length ≤ i⟩
def Itr (lo : Int) (n : Nat) : It := ⟨fun i _ => i < n, fun i H x H' => H' = H ∧ x = .int (lo + i), fun i _ => n ≤ i⟩
theorem turn_list {P : Program} {w : World} {K : PySem.W.Frag} {tg : Expr} (a it : Addr) : Turn P w K tg (Itl K a) [it] it (fun i h => h.IsListIter it a i) where
  mem := by simp
  obj := fun i h st b hb => by
    have e : b = it := by simpa using hb
    subst e
    obtain ⟨o, e, c, d⟩ := st
    exact ⟨o, e, fun v z => by rw [d] at z; cases z⟩
  keep := fun i h h' st k => st.at fun o e => k it (by simp) o e
  item := by
    intro X hP hw hK hc i pins s σ H E I hf st hg
    subst hP hw hK
    obtain ⟨xs, x, hq, hx⟩ := hg
    obtain ⟨its, rv, p, hz⟩ := I.list hq
    obtain ⟨u, hu, ru⟩ := rv.get hx
    obtain ⟨f0, f1, f2, f3, f4, f5⟩ := hf it (by simp)
    refine wpAny_pyNext_list_item st p.isList (x := u) (by simpa using hu) fun h' st' sb => ?_
    have I1 : Inv X pins σ H { s with heap := h' } := I.turned (t' := s.toks) (fun b o hb e => (sb.2 b hb).trans e) f0 f1 f3 f4 f5
    obtain ⟨o, e, c, d⟩ := id st'
    exact ⟨u, rfl, go_of (s := { s with heap := h' }) e c d (by decide) ⟨x, H, I1, ru, ⟨rfl, fun ys hy => by rw [I.list_inj hy hq]; exact hx⟩, st', fun b hb => (hf b hb).1⟩⟩
  done := by
    intro X hP hw hK hc i pins s σ H E I hf st hg
    subst hP hw hK
    obtain ⟨xs, hq, hx⟩ := hg
    obtain ⟨its, rv, p, hz⟩ := I.list hq
    obtain ⟨f0, f1, f2, f3, f4, f5⟩ := hf it (by simp)
    have hl := rv.length
    exact wpAny_pyNext_list_end (I.ok.hd hc) st p.isList (by simp; omega) fun h' eb => ⟨rfl, I.turned (t' := s.toks) (fun b o hb e => eb b o hb e) f0 f1 f3 f4 f5⟩
  self := fun _ _ _ _ _ st h => wpAny_pyIter_listiter st h
theorem turn_range {P : Program} {w : World} {K : PySem.W.Frag} {tg : Expr} (it : Addr) (lo : Int) (n : Nat) : Turn P w K tg (Itr lo n) [it] it (fun i h => IsRangeIter h it (lo + (i : Nat) * 1) ((n : Int) - (i : Nat)) 1) where
  mem := by simp
  obj := fun i h st b hb => by
    have e : b = it := by simpa using hb
    subst e
    exact ⟨_, st, fun v z => by
      have z' : Data.fields _ = Data.cell v := z
      cases z'⟩
  keep := fun i h h' st k => k it (by simp) _ st
  item := by
    intro X hP hw hK hc i pins s σ H E I hf st hg
    subst hP hw hK
    obtain ⟨f0, f1, f2, f3, f4, f5⟩ := hf it (by simp)
    have W := Walks.range (prog := X.prog) (w := X.w) (I.ok.hd hc) it lo 1 n
    refine W.item i s _ _ hg st fun v h' tk hv st' kk => ?_
    obtain ⟨t, rfl⟩ := hv
    have I1 : Inv X pins σ H { s with heap := h', toks := tk } := I.turned (fun b o hb e => kk b o (by simpa using hb) e) f0 f1 f3 f4 f5
    refine ⟨_, rfl, go_of (s := { s with heap := h', toks := tk }) (n := "range_iterator") st' rfl rfl (by decide) ⟨.int (lo + i), H, I1, ⟨t, ?_⟩, ⟨rfl, rfl⟩, st', fun b hb => (hf b hb).1⟩⟩
    rw [Int.mul_one]
  done := by
    intro X hP hw hK hc i pins s σ H E I hf st hg
    subst hP hw hK
    obtain ⟨f0, f1, f2, f3, f4, f5⟩ := hf it (by simp)
    exact wpAny_pyNext_range_end (I.ok.hd hc) st (by have : n ≤ i := hg; omega) fun h' eb => ⟨rfl, I.turned (t' := s.toks) (fun b o hb e => eb b o hb e) f0 f1 f3 f4 f5⟩
  self := fun _ _ _ _ _ st h => wpAny_pyIter_rangeiter st h
end L2
namespace L2
open PySem PySem.Spec PyProof.Rows
section
variable {X : Cx} {tg : Expr}
def iList (K : PySem.W.Frag) (tl : TE) : TI := fun σ H R => tl σ H fun x H1 => ∃ a, x = .ref a ∧ (∃ xs, SqL K H1 a xs) ∧ R (Itl K a) H1
theorem pi_list {l : Expr} {tl : TE} (hl : PE X l tl) : PI X tg l (iList X.K tl) := by
  intro pins s σ H R I h
  refine thn (hl pins s σ H _ I h) fun v s1 ⟨x, H1, I1, r1, q1⟩ => ?_
  obtain ⟨a, e, ⟨xs, hq⟩, q⟩ := q1
  subst e
  cases r1
  obtain ⟨its, rv, p, hz⟩ := I1.list hq
  refine wpAny_pyIter_list p.isList ?_
  refine ⟨s1.heap.objs.size, [s1.heap.objs.size], _, _, H1, rfl, I1.kept (t' := s1.toks) fun b o e => Heap.get?_push_of_some _ e, turn_list a _, ⟨_, Heap.get?_push_size _ rfl, rfl, rfl⟩, fun b hb => ?_, q⟩
  have e : b = s1.heap.objs.size := by simpa using hb
  subst e
  exact I1.fpOk (Nat.le_refl _) (I1.hok.fresh (Nat.le_refl _))
theorem range_it {pins : List (Addr × Obj)} {σ : St} {H : Hp} {s : Shared} {R : It → Hp → Prop} {E : Value → Shared → Prop} {lo hi : Int} {t u v : Tok} {tk : Nat} (I : Inv X pins σ H s) (h1 : -(2 ^ 62) ≤ lo) (h2 : lo < 2 ^ 62) (h3 : -(2 ^ 62) ≤ hi) (h4 : hi < 2 ^ 62)
    (q : R (Itr lo (hi - lo).toNat) H) : wpAny (model X.prog X.w) X.A (pyIter (.ref s.heap.objs.size)) (PIE X pins σ tg R) E { s with heap := s.heap.push { cls := .type "range", data := .fields #[.int lo t, .int hi u, .int 1 v] }, toks := tk } := by
  refine wpAny_pyIter_range (IsRange.new ..) (small_one h1 h2 h3 h4) ?_
  have I1 : Inv X pins σ H { s with heap := s.heap.push { cls := .type "range", data := .fields #[.int lo t, .int hi u, .int 1 v] }, toks := tk } := I.kept fun b o e => Heap.get?_push_of_some _ e
  refine ⟨(s.heap.push { cls := .type "range", data := .fields #[.int lo t, .int hi u, .int 1 v] }).objs.size, [(s.heap.push { cls := .type "range", data := .fields #[.int lo t, .int hi u, .int 1 v] }).objs.size], _, _, H, rfl,
    I1.kept (t' := tk) fun b o e => Heap.get?_push_of_some _ e, turn_range _ lo (hi - lo).toNat, ?_, fun b hb => ?_, q⟩
  · have e1 : lo + ((0 : Nat) : Int) * 1 = lo := by simp
    have e2 : (((hi - lo).toNat : Nat) : Int) - ((0 : Nat) : Int) = Builtin.Range.rangeSize lo hi 1 := by rw [rangeSize_one]; split <;> omega
    show IsRangeIter _ _ (lo + ((0 : Nat) : Int) * 1) ((((hi - lo).toNat : Nat) : Int) - ((0 : Nat) : Int)) 1
    rw [e1, e2]
    exact Heap.get?_push_size _ rfl
  · have e : b = (s.heap.push { cls := .type "range", data := .fields #[.int lo t, .int hi u, .int 1 v] }).objs.size := by simpa using hb
    subst e
    exact I1.fpOk (Nat.le_refl _) (I1.hok.fresh (Nat.le_refl _))
def iRng1 (ta : TA) : TI := fun σ H R => ta σ H fun vs H1 => ∃ j : Int, vs = [.int j] ∧ -(2 ^ 62) ≤ j ∧ j < 2 ^ 62 ∧ R (Itr 0 j.toNat) H1
theorem pi_range1 {a : Expr} {ta : TA} {p pos : Pos} (hg : Gl X "range") (hm : X.mg "range" = none) (ha : PA X [a] ta) (hs : starEach [a] X.env = [(false, eval a X.env)] := by rfl) : PI X tg (.Call (.Name "range" p) [a] [] pos) (iRng1 ta) := by
  intro pins s σ H R I h
  refine Call_ (ld_blt I hg hm boot_range (PyProof.Rows.callWith_type1 (thn (ha pos pins s σ H _ I h) fun us s1 ⟨vs, H1, I1, r1, q1⟩ => ?_) hs rfl))
  obtain ⟨j, e, q1, q2, q⟩ := q1
  subst e
  cases r1 with
  | cons r rr =>
    cases rr
    obtain ⟨t, rfl⟩ := r
    exact call_range_1 (range_it I1 (by omega) (by omega) q1 q2 (by simpa using q))
def tFor (wi : TI) (g : TG) (tb : TS) : TS := fun D σ H => wi σ H fun J H1 => ∃ W : Nat → Nat → St → Hp → Prop, (∃ m, W 0 m σ H1) ∧ ∀ i m σ H, W i m σ H →
  (J.stop i H ∧ D.nx σ H) ∨ (J.go i H ∧ ∃ N : St → Hp → Prop, (∀ σ' H', N σ' H' → ∃ m', m' < m ∧ W (i + 1) m' σ' H') ∧ ∀ x H', J.yld i H x H' → g x σ H' fun σ2 H2 => tb { D with nx := N, ct := N, bk := D.nx } σ2 H2)
def pinsAt (fp : List Addr) (h : Heap) : List (Addr × Obj) := fp.filterMap fun b => (h.get? b).map fun o => (b, o)
theorem mem_pinsAt {fp : List Addr} {h : Heap} {b : Addr} {o : Obj} (hb : b ∈ fp) (e : h.get? b = some o) : (b, o) ∈ pinsAt fp h := List.mem_filterMap.mpr ⟨b, hb, by rw [e]; rfl⟩
theorem of_pinsAt {fp : List Addr} {h : Heap} {p : Addr × Obj} (hp : p ∈ pinsAt fp h) : p.1 ∈ fp ∧ h.get? p.1 = some p.2 := by
  obtain ⟨b, hb, e⟩ := List.mem_filterMap.mp hp
  cases q : h.get? b with
  | none => rw [q] at e; cases e
  | some o =>
    rw [q] at e
    have e' : (b, o) = p := Option.some.inj e
    subst e'
    exact ⟨hb, q⟩
theorem Inv.pinned {pins : List (Addr × Obj)} {σ : St} {H : Hp} {s : Shared} {fp : List Addr} (I : Inv X pins σ H s) (hf : ∀ b ∈ fp, FpOk X pins H b) (ho : ∀ b ∈ fp, ∃ o, s.heap.get? b = some o ∧ ∀ v, o.data ≠ .cell v) : Inv X (pins ++ pinsAt fp s.heap) σ H s :=
  I.pins_of fun p hp => (List.mem_append.mp hp).elim (fun z => I.pin p (List.mem_append_right _ z)) fun z => by
    obtain ⟨hb, e⟩ := of_pinsAt z
    obtain ⟨f0, f1, f2, _⟩ := hf p.1 hb
    obtain ⟨o, e', d⟩ := ho p.1 hb
    rw [e] at e'; cases e'
    exact ⟨e, f0, f1, f2, d⟩
theorem Inv.unpinned {pins pl : List (Addr × Obj)} {σ : St} {H : Hp} {s : Shared} (I : Inv X (pins ++ pl) σ H s) : Inv X pins σ H s := I.pins_of fun p hp => I.pin p (List.mem_append_right _ (List.mem_append_left _ hp))
theorem ps_for {iter : Expr} {body : List Stmt} {wi : TI} {g : TG} {tb : TS} {pos : Pos} (hp : PassesOwn (model X.prog X.w) X.A X.env X.xe) (hc : X.calm = true) (hi : PI X tg iter wi) (hg : PG X tg g) (hb : PSs X body tb)
    (hs : ∀ x, foldedSetIterable iter X.env x = pure x := by intro _; rfl) : PS X (.For tg iter body [] pos) (tFor wi g tb) := by
  intro pins s σ H D I h
  refine wpAny_For (thn (hi pins s σ H _ I h) fun v s1 h1 => thn h1 fun itv s2 h2 => ?_) hs
  obtain ⟨it, fp, tn, J, H2, e, I2, T, st2, f2, W, ⟨m0, w0⟩, turn⟩ := h2
  subst e
  have stat : ∀ {H' : Hp}, (∀ b ∈ fp, H' b = none) → ∀ b ∈ fp, FpOk X pins H' b := fun hn b hb => ⟨hn b hb, (f2 b hb).2⟩
  refine codeAny_forLoop_any (fun n s' => ∃ i σ' H', Inv X pins σ' H' s' ∧ tn i s'.heap ∧ (∀ b ∈ fp, H' b = none) ∧ W i n σ' H') ?_ m0 ⟨0, σ, H2, I2, st2, fun b hb => (f2 b hb).1, w0⟩
  rintro n s3 ⟨i, σ3, H3, I3, st3, fr3, w3⟩
  rcases turn i n σ3 H3 w3 with ⟨stop, qn⟩ | ⟨go, N, hN, step⟩
  · refine wpAny_passesOwn hp (thn (T.done X rfl rfl rfl hc i pins s3 σ3 H3 X.xe I3 (stat fr3) st3 stop) fun r s4 ⟨hr, I4⟩ => ?_)
    subst hr
    exact wpAny_execs_nil ⟨σ3, H3, I4, qn⟩
  · refine wpAny_passesOwn hp (thn (T.item X rfl rfl rfl hc i pins s3 σ3 H3 X.xe I3 (stat fr3) st3 go) fun r s4 ⟨u, hr, h4⟩ => ?_)
    subst hr
    refine wpAny_passesOwn hp (thn h4 fun _ s5 ⟨x, H5, I5, r5, y5, st5, fr5⟩ => ?_)
    have I5' := I5.pinned (stat fr5) (T.obj _ _ st5)
    refine wpAny_passesOwn hp (thn (hg _ s5 σ3 H5 x u _ I5' r5 (step x H5 y5)) fun _ s6 ⟨σ6, H6, I6, q6⟩ => ?_)
    refine wpAny_passesOwn hp (thn (hb _ s6 σ6 H6 _ I6 q6) fun f s7 q7 => ?_)
    have again : ∀ {σ7 : St} {H7 : Hp}, Inv X (pins ++ pinsAt fp s5.heap) σ7 H7 s7 → N σ7 H7 → ∃ m, m < n ∧ ∃ i σ' H', Inv X pins σ' H' s7 ∧ tn i s7.heap ∧ (∀ b ∈ fp, H' b = none) ∧ W i m σ' H' := fun {σ7 H7} I7 n7 => by
      obtain ⟨m', hm, w7⟩ := hN σ7 H7 n7
      refine ⟨m', hm, i + 1, σ7, H7, I7.unpinned, T.keep _ _ _ st5 fun b hb o e => (I7.pin (b, o) (List.mem_append_right _ (List.mem_append_right _ (mem_pinsAt hb e)))).1, fun b hb => ?_, w7⟩
      obtain ⟨o, e, d⟩ := T.obj _ _ st5 b hb
      exact (I7.pin (b, o) (List.mem_append_right _ (List.mem_append_right _ (mem_pinsAt hb e)))).2.1
    cases f with
    | next => obtain ⟨σ7, H7, I7, n7⟩ := q7; exact again I7 n7
    | cont => obtain ⟨σ7, H7, I7, n7⟩ := q7; exact again I7 n7
    | brk => obtain ⟨σ7, H7, I7, q7⟩ := q7; exact ⟨σ7, H7, I7.unpinned, q7⟩
    | ret v => obtain ⟨x7, σ7, H7, I7, r7, q7⟩ := q7; exact ⟨x7, σ7, H7, I7.unpinned, r7, q7⟩
end
theorem for_list {K : PySem.W.Frag} {a : Addr} {xs : List V} {g : TG} {tb : TS} {D : Ends} {σ : St} {H : Hp} (Pv : Nat → St → Hp → Prop) (h0 : Pv 0 σ H) (hl : ∀ i σ H, i ≤ xs.length → Pv i σ H → SqL K H a xs)
    (hs : ∀ i x σ H, xs[i]? = some x → Pv i σ H → g x σ H fun σ2 H2 => tb { D with nx := Pv (i + 1), ct := Pv (i + 1), bk := D.nx } σ2 H2) (hd : ∀ σ H, Pv xs.length σ H → D.nx σ H) :
    ∃ W : Nat → Nat → St → Hp → Prop, (∃ m, W 0 m σ H) ∧ ∀ i m σ H, W i m σ H →
      ((Itl K a).stop i H ∧ D.nx σ H) ∨ ((Itl K a).go i H ∧ ∃ N : St → Hp → Prop, (∀ σ' H', N σ' H' → ∃ m', m' < m ∧ W (i + 1) m' σ' H') ∧ ∀ x H', (Itl K a).yld i H x H' → g x σ H' fun σ2 H2 => tb { D with nx := N, ct := N, bk := D.nx } σ2 H2) := by
  refine ⟨fun i m σ H => m = xs.length - i ∧ i ≤ xs.length ∧ Pv i σ H, ⟨xs.length, by simp, Nat.zero_le _, h0⟩, ?_⟩
  rintro i m σ H ⟨rfl, hi, p⟩
  have q := hl i σ H hi p
  by_cases hlt : i < xs.length
  · refine .inr ⟨⟨xs, xs[i], q, by simp [hlt]⟩, Pv (i + 1), fun σ' H' p' => ⟨xs.length - (i + 1), by omega, rfl, hlt, p'⟩, fun x H' y => ?_⟩
    obtain ⟨e, y⟩ := y
    subst e
    exact hs i x σ _ (y xs q) p
  · have e : i = xs.length := by omega
    subst e
    exact .inl ⟨⟨xs, q, Nat.le_refl _⟩, hd σ H p⟩
theorem for_range {lo : Int} {n : Nat} {g : TG} {tb : TS} {D : Ends} {σ : St} {H : Hp} (Pv : Nat → St → Hp → Prop) (h0 : Pv 0 σ H)
    (hs : ∀ i σ H, i < n → Pv i σ H → g (.int (lo + i)) σ H fun σ2 H2 => tb { D with nx := Pv (i + 1), ct := Pv (i + 1), bk := D.nx } σ2 H2) (hd : ∀ σ H, Pv n σ H → D.nx σ H) :
    ∃ W : Nat → Nat → St → Hp → Prop, (∃ m, W 0 m σ H) ∧ ∀ i m σ H, W i m σ H →
      ((Itr lo n).stop i H ∧ D.nx σ H) ∨ ((Itr lo n).go i H ∧ ∃ N : St → Hp → Prop, (∀ σ' H', N σ' H' → ∃ m', m' < m ∧ W (i + 1) m' σ' H') ∧ ∀ x H', (Itr lo n).yld i H x H' → g x σ H' fun σ2 H2 => tb { D with nx := N, ct := N, bk := D.nx } σ2 H2) := by
  refine ⟨fun i m σ H => m = n - i ∧ i ≤ n ∧ Pv i σ H, ⟨n, by simp, Nat.zero_le _, h0⟩, ?_⟩
  rintro i m σ H ⟨rfl, hi, p⟩
  by_cases hlt : i < n
  · refine .inr ⟨hlt, Pv (i + 1), fun σ' H' p' => ⟨n - (i + 1), by omega, rfl, hlt, p'⟩, fun x H' y => ?_⟩
    obtain ⟨e, y⟩ := y
    subst e y
    exact hs i σ _ hlt p
  · have e : i = n := by omega
    subst e
    exact .inl ⟨Nat.le_refl _, hd σ H p⟩
end L2
namespace L2
open PySem PySem.Spec PyProof.Rows
abbrev R2 := V → V → Hp → VK → Prop
def OpR (X : Cx) (f : Value → Value → Sem Value) (r : R2) : Prop :=
  ∀ (pins : List (Addr × Obj)) (s : Shared) (σ : St) (H : Hp) (x y : V) (v u : Value) (Q : VK), Inv X pins σ H s → RelV x v → RelV y u → r x y H Q →
    wpAny (model X.prog X.w) X.A (f v u) (EP X pins σ Q) X.xe s
def CallR (X : Cx) (f : Value) (r : List V → Hp → VK → Prop) : Prop :=
  ∀ (pins : List (Addr × Obj)) (s : Shared) (σ : St) (H : Hp) (xs : List V) (us : List Value) (Q : VK), Inv X pins σ H s → Vals xs us → r xs H Q →
    wpAny (model X.prog X.w) X.A (call f us) (EP X pins σ Q) X.xe s
def tOp (r : R2) (ta tb : TE) : TE := fun σ H Q => ta σ H fun x H1 => tb σ H1 fun y H2 => r x y H2 Q
def rI (C : Int → Int → Prop) (g : Int → Int → V) : R2 := fun x y H Q => ∃ i j, x = .int i ∧ y = .int j ∧ C i j ∧ Q (g i j) H
def rI0 (g : Int → Int → V) : R2 := fun x y H Q => ∃ i j, x = .int i ∧ y = .int j ∧ Q (g i j) H
section
variable {X : Cx} {a b c : Expr} {ta tb tc : TE} {pos : Pos}
theorem binT (ha : PE X a ta) (hb : PE X b tb) {pins : List (Addr × Obj)} {s : Shared} {σ : St} {H : Hp} {R : V → V → Hp → Prop} (I : Inv X pins σ H s)
    (h : ta σ H fun x H1 => tb σ H1 fun y H2 => R x y H2) {Q : Value → Shared → Prop} {f : Value → Value → Sem Value}
    (hf : ∀ v u s2 x y H2, Inv X pins σ H2 s2 → RelV x v → RelV y u → R x y H2 → wpAny (model X.prog X.w) X.A (f v u) Q X.xe s2) :
    wpAny (model X.prog X.w) X.A (eval a X.env) (fun v s₁ => wpAny (model X.prog X.w) X.A (eval b X.env) (fun u s₂ => wpAny (model X.prog X.w) X.A (f v u) Q X.xe s₂) X.xe s₁) X.xe s := by
  refine thn (ha pins s σ H _ I h) fun v s1 ⟨x, H1, I1, r1, q1⟩ => ?_
  refine thn (hb pins s1 σ H1 _ I1 q1) fun u s2 ⟨y, H2, I2, r2, q2⟩ => ?_
  exact hf v u s2 x y H2 I2 r1 r2 q2
theorem pe_op {op : Operator} {r : R2} (ho : OpR X (binaryOp op) r) (ha : PE X a ta) (hb : PE X b tb) : PE X (.BinOp a op b pos) (tOp r ta tb) := by
  intro pins s σ H Q I h
  exact wpAny_BinOp (binT ha hb I h fun v u s2 x y H2 I2 rx ry q => ho pins s2 σ H2 x y v u Q I2 rx ry q)
theorem opI {f : Value → Value → Sem Value} {C : Int → Int → Prop} {g : Int → Int → Int}
    (rule : ∀ (i j : Int) (t u : Tok) (s : Shared) (Q : Value → Shared → Prop) (E : Value → Shared → Prop), C i j → Q (.int (g i j) s.toks) { s with toks := s.toks + 1 } → wpAny (model X.prog X.w) X.A (f (.int i t) (.int j u)) Q E s) :
    OpR X f (rI C fun i j => .int (g i j)) := by
  intro pins s σ H x y v u Q I rx ry h
  obtain ⟨i, j, rfl, rfl, hc, q⟩ := h
  obtain ⟨t, rfl⟩ := rx
  obtain ⟨t', rfl⟩ := ry
  exact rule i j t t' s _ _ hc ⟨.int (g i j), H, I.tok _, ⟨_, rfl⟩, q⟩
theorem opI0 {f : Value → Value → Sem Value} {g : Int → Int → Int}
    (rule : ∀ (i j : Int) (t u : Tok) (s : Shared) (Q : Value → Shared → Prop) (E : Value → Shared → Prop), Q (.int (g i j) s.toks) { s with toks := s.toks + 1 } → wpAny (model X.prog X.w) X.A (f (.int i t) (.int j u)) Q E s) :
    OpR X f (rI0 fun i j => .int (g i j)) := by
  intro pins s σ H x y v u Q I rx ry h
  obtain ⟨i, j, rfl, rfl, q⟩ := h
  obtain ⟨t, rfl⟩ := rx
  obtain ⟨t', rfl⟩ := ry
  exact rule i j t t' s _ _ ⟨.int (g i j), H, I.tok _, ⟨_, rfl⟩, q⟩
theorem opB0 {f : Value → Value → Sem Value} {g : Int → Int → Bool}
    (rule : ∀ (i j : Int) (t u : Tok) (s : Shared) (Q : Value → Shared → Prop) (E : Value → Shared → Prop), Q (.bool (g i j)) s → wpAny (model X.prog X.w) X.A (f (.int i t) (.int j u)) Q E s) :
    OpR X f (rI0 fun i j => .bl (g i j)) := by
  intro pins s σ H x y v u Q I rx ry h
  obtain ⟨i, j, rfl, rfl, q⟩ := h
  obtain ⟨t, rfl⟩ := rx
  obtain ⟨t', rfl⟩ := ry
  exact rule i j t t' s _ _ ⟨.bl (g i j), H, I, rfl, q⟩
def CDiv (i j : Int) : Prop := 0 < j ∧ j < 1073741824
def CPow (i j : Int) : Prop := 0 ≤ j ∧ j ≤ 1000000 ∧ i.natAbs < 2 ^ 64
def CMul (i j : Int) : Prop := (-(2 ^ 64) < i ∧ i < 2 ^ 64) ∨ (-(2 ^ 64) < j ∧ j < 2 ^ 64)
theorem CMul.ok {i j : Int} (h : CMul i j) : IntMulOk i j := by
  rcases h with ⟨h1, h2⟩ | ⟨h1, h2⟩
  · exact .of_left (intBits_le_64 h1 h2)
  · exact .of_right (intBits_le_64 h1 h2)
theorem two_pow_nn (k : Nat) : (0 : Int) ≤ 2 ^ k := by
  rw [two_pow_cast]
  exact Int.natCast_nonneg _
theorem op_add : OpR X (binaryOp .Add) (rI0 fun i j => .int (i + j)) := opI0 fun _ _ _ _ _ _ _ q => add_int q
theorem op_sub : OpR X (binaryOp .Sub) (rI0 fun i j => .int (i - j)) := opI0 fun _ _ _ _ _ _ _ q => sub_int q
theorem op_mul : OpR X (binaryOp .Mult) (rI CMul fun i j => .int (i * j)) := opI fun _ _ _ _ _ _ _ hc q => mul_int q hc.ok
theorem op_fdiv : OpR X (binaryOp .FloorDiv) (rI CDiv fun i j => .int (i / j)) := opI fun i j _ _ _ _ _ hc q => by
  have h1 : (0 : Int) < j := hc.1
  have h2 : j < 1073741824 := hc.2
  exact floordiv_int (by omega) (by rw [Int.fdiv_eq_ediv_of_nonneg i (by omega)]; exact q) (.inl (PyProof.noPylong_small (by omega)))
theorem op_mod : OpR X (binaryOp .Mod) (rI (fun _ j => 0 < j) fun i j => .int (i % j)) := opI fun i j _ _ _ _ _ hc q => by
  have h1 : (0 : Int) < j := hc
  exact mod_int' (by omega) (by rw [Int.fmod_eq_emod_of_nonneg i (by omega)]; exact q)
theorem op_pow : OpR X (binaryOp .Pow) (rI CPow fun i j => .int (i ^ j.toNat)) := opI fun _ _ _ _ _ _ _ hc q => pow_int_small hc.1 hc.2.1 hc.2.2 q
theorem op_shl : OpR X (binaryOp .LShift) (rI CPow fun i j => .int (i * 2 ^ j.toNat)) := opI fun _ _ _ _ _ _ _ hc q => lshift_int_small hc.1 hc.2.1 hc.2.2 q
theorem op_shr : OpR X (binaryOp .RShift) (rI (fun _ j => 0 ≤ j) fun i j => .int (i / 2 ^ j.toNat)) := opI fun i j _ _ _ _ _ hc q =>
  rshift_int hc (by rw [Int.fdiv_eq_ediv_of_nonneg i (two_pow_nn _)]; exact q)
theorem op_xor : OpR X (binaryOp .BitXor) (rI0 fun i j => .int (Builtin.bitXor i j)) := opI0 fun _ _ _ _ _ _ _ q => xor_int q
end
def scal : V → V → Bool
  | .non, .non => true | .non, .int _ => true | .int _, .non => true | .non, .bl _ => true | .bl _, .non => true | .non, .str _ => true | .str _, .non => true
  | .int _, .int _ => true | .bl _, .bl _ => true | .str _, .str _ => true | .byt _, .byt _ => true
  | .int _, .str _ => true | .str _, .int _ => true | .bl _, .str _ => true | .str _, .bl _ => true
  | _, _ => false
def rEq : R2 := fun x y H Q => scal x y = true ∧ Q (.bl (decide (x = y))) H
def rNe : R2 := fun x y H Q => scal x y = true ∧ Q (.bl (!decide (x = y))) H
theorem dec_int {i j : Int} : decide (V.int i = V.int j) = (i == j) := by
  rw [Bool.eq_iff_iff]
  simp
theorem dec_bl {i j : Bool} : decide (V.bl i = V.bl j) = (i == j) := by
  rw [Bool.eq_iff_iff]
  simp
theorem dec_str {i j : Str} : decide (V.str i = V.str j) = (i == j) := by
  rw [Bool.eq_iff_iff]
  simp
theorem dec_byt {i j : Array UInt8} : decide (V.byt i = V.byt j) = (i.toList == j.toList) := by
  rw [Bool.eq_iff_iff]
  cases i
  cases j
  simp
section
variable {X : Cx} {a b c : Expr} {ta tb tc : TE} {pos : Pos}
theorem fin_bl {pins : List (Addr × Obj)} {σ : St} {H : Hp} {s : Shared} {Q : VK} {k k' : Bool} (I : Inv X pins σ H s) (q : Q (.bl k) H) (e : k = k') : EP X pins σ Q (.bool k') s := by
  subst e
  exact ⟨.bl k, H, I, rfl, q⟩
theorem op_eq : OpR X (compareOp .Eq) rEq := by
  intro pins s σ H x y v u Q I rx ry h
  obtain ⟨hs, q⟩ := h
  cases x with
  | non =>
    cases rx
    cases y with
    | non => cases ry; exact PySem.EqNone.eq_none_none (fin_bl I q (by simp))
    | bl j => cases ry; exact PySem.EqNone.eq_none_bool (fin_bl I q (by simp))
    | int j => obtain ⟨t', rfl⟩ := ry; exact PySem.EqNone.eq_none_int (fin_bl I q (by simp))
    | str j => obtain ⟨t', rfl⟩ := ry; exact PySem.EqNone.eq_none_str (fin_bl I q (by simp))
    | _ => exact absurd (show false = true from hs) Bool.false_ne_true
  | bl i =>
    cases rx
    cases y with
    | non => cases ry; exact PySem.EqNone.eq_bool_none (fin_bl I q (by simp))
    | bl j => cases ry; exact eq_bool (fin_bl I q dec_bl)
    | str j => obtain ⟨t', rfl⟩ := ry; exact PySem.EqMixed.eq_bool_str (fin_bl I q (by simp))
    | _ => exact absurd (show false = true from hs) Bool.false_ne_true
  | int i =>
    obtain ⟨t, rfl⟩ := rx
    cases y with
    | non => cases ry; exact PySem.EqNone.eq_int_none (fin_bl I q (by simp))
    | int j => obtain ⟨t', rfl⟩ := ry; exact eq_int (fin_bl I q dec_int)
    | str j => obtain ⟨t', rfl⟩ := ry; exact PySem.EqMixed.eq_int_str (fin_bl I q (by simp))
    | _ => exact absurd (show false = true from hs) Bool.false_ne_true
  | str i =>
    obtain ⟨t, rfl⟩ := rx
    cases y with
    | non => cases ry; exact PySem.EqNone.eq_str_none (fin_bl I q (by simp))
    | bl j => cases ry; exact PySem.EqMixed.eq_str_bool (fin_bl I q (by simp))
    | int j => obtain ⟨t', rfl⟩ := ry; exact PySem.EqMixed.eq_str_int (fin_bl I q (by simp))
    | str j => obtain ⟨t', rfl⟩ := ry; exact eq_str (fin_bl I q dec_str)
    | _ => exact absurd (show false = true from hs) Bool.false_ne_true
  | byt i =>
    obtain ⟨t, rfl⟩ := rx
    cases y with
    | byt j => obtain ⟨t', rfl⟩ := ry; exact PySem.W.eq_bytes (fin_bl I q dec_byt)
    | _ => exact absurd (show false = true from hs) Bool.false_ne_true
  | _ => cases y <;> exact absurd (show false = true from hs) Bool.false_ne_true
theorem op_ne : OpR X (compareOp .NotEq) rNe := by
  intro pins s σ H x y v u Q I rx ry h
  obtain ⟨hs, q⟩ := h
  cases x with
  | non =>
    cases rx
    cases y with
    | non => cases ry; exact PySem.EqNone.ne_none_none (fin_bl I q (by simp))
    | bl j => cases ry; exact PySem.EqNone.ne_none_bool (fin_bl I q (by simp))
    | int j => obtain ⟨t', rfl⟩ := ry; exact PySem.EqNone.ne_none_int (fin_bl I q (by simp))
    | str j => obtain ⟨t', rfl⟩ := ry; exact PySem.EqNone.ne_none_str (fin_bl I q (by simp))
    | _ => exact absurd (show false = true from hs) Bool.false_ne_true
  | bl i =>
    cases rx
    cases y with
    | non => cases ry; exact PySem.EqNone.ne_bool_none (fin_bl I q (by simp))
    | bl j => cases ry; exact ne_bool (fin_bl I q (congrArg not dec_bl))
    | str j => obtain ⟨t', rfl⟩ := ry; exact PySem.EqMixed.ne_bool_str (fin_bl I q (by simp))
    | _ => exact absurd (show false = true from hs) Bool.false_ne_true
  | int i =>
    obtain ⟨t, rfl⟩ := rx
    cases y with
    | non => cases ry; exact PySem.EqNone.ne_int_none (fin_bl I q (by simp))
    | int j => obtain ⟨t', rfl⟩ := ry; exact ne_int (fin_bl I q (congrArg not dec_int))
    | str j => obtain ⟨t', rfl⟩ := ry; exact PySem.EqMixed.ne_int_str (fin_bl I q (by simp))
    | _ => exact absurd (show false = true from hs) Bool.false_ne_true
  | str i =>
    obtain ⟨t, rfl⟩ := rx
    cases y with
    | non => cases ry; exact PySem.EqNone.ne_str_none (fin_bl I q (by simp))
    | bl j => cases ry; exact PySem.EqMixed.ne_str_bool (fin_bl I q (by simp))
    | int j => obtain ⟨t', rfl⟩ := ry; exact PySem.EqMixed.ne_str_int (fin_bl I q (by simp))
    | str j => obtain ⟨t', rfl⟩ := ry; exact ne_str (fin_bl I q (congrArg not dec_str))
    | _ => exact absurd (show false = true from hs) Bool.false_ne_true
  | byt i =>
    obtain ⟨t, rfl⟩ := rx
    cases y with
    | byt j => obtain ⟨t', rfl⟩ := ry; exact PySem.W.ne_bytes (fin_bl I q (congrArg not dec_byt))
    | _ => exact absurd (show false = true from hs) Bool.false_ne_true
  | _ => cases y <;> exact absurd (show false = true from hs) Bool.false_ne_true
theorem op_lt : OpR X (compareOp .Lt) (rI0 fun i j => .bl (decide (i < j))) := opB0 fun _ _ _ _ _ _ _ q => lt_int q
theorem op_le : OpR X (compareOp .LtE) (rI0 fun i j => .bl (decide (i ≤ j))) := opB0 fun _ _ _ _ _ _ _ q => le_int q
theorem op_gt : OpR X (compareOp .Gt) (rI0 fun i j => .bl (decide (j < i))) := opB0 fun _ _ _ _ _ _ _ q => gt_int q
theorem op_ge : OpR X (compareOp .GtE) (rI0 fun i j => .bl (decide (j ≤ i))) := opB0 fun _ _ _ _ _ _ _ q => ge_int q
theorem op_isN : OpR X (compareOp .Is) (fun x y H Q => y = .non ∧ Q (.bl (decide (x = .non))) H) := by
  intro pins s σ H x y v u Q I rx ry h
  obtain ⟨rfl, q⟩ := h
  cases ry
  refine is_none_gen (fin_bl I q ?_)
  cases x <;> first
    | (cases rx; rfl)
    | (obtain ⟨t, rfl⟩ := rx; rfl)
theorem op_notN : OpR X (compareOp .IsNot) (fun x y H Q => y = .non ∧ Q (.bl (!decide (x = .non))) H) := by
  intro pins s σ H x y v u Q I rx ry h
  obtain ⟨rfl, q⟩ := h
  cases ry
  refine isnot_none_gen (fin_bl I q ?_)
  cases x <;> first
    | (cases rx; rfl)
    | (obtain ⟨t, rfl⟩ := rx; rfl)
theorem OpR.or {f : Value → Value → Sem Value} {r r' : R2} (h : OpR X f r) (h' : OpR X f r') : OpR X f (fun x y H Q => r x y H Q ∨ r' x y H Q) := by
  intro pins s σ H x y v u Q I rx ry q
  rcases q with q | q
  · exact h pins s σ H x y v u Q I rx ry q
  · exact h' pins s σ H x y v u Q I rx ry q
theorem nomark (b : Expr) {op : CmpOp} (h : op ≠ .In := by decide) (h2 : op ≠ .NotIn := by decide) : behindInMarks op b = false := by
  have e1 : (op == CmpOp.In) = false := by cases op <;> first | rfl | exact absurd rfl h
  have e2 : (op == CmpOp.NotIn) = false := by cases op <;> first | rfl | exact absurd rfl h2
  cases b <;> simp [behindInMarks, e1, e2]
theorem pe_cmpR {op : CmpOp} {r : R2} (ho : OpR X (compareOp op) r) (ha : PE X a ta) (hb : PE X b tb) (hm : behindInMarks op b = false) : PE X (.Compare a [op] [b] pos) (tOp r ta tb) := by
  intro pins s σ H Q I h
  exact wpAny_Compare1 (binT ha hb I h fun v u s2 x y H2 I2 rx ry q => ho pins s2 σ H2 x y v u Q I2 rx ry q) hm
def tTest (t : TE) : TT := fun σ H Q => t σ H fun x H' => ∃ k, x = .bl k ∧ Q k H'
theorem pt_cmpR {op : CmpOp} {r : R2} (ho : OpR X (compareOp op) r) (ha : PE X a ta) (hb : PE X b tb) (hm : behindInMarks op b = false) : PT X (.Compare a [op] [b] pos) (tTest (tOp r ta tb)) := by
  intro pins s σ H Q I h
  refine wpAny_isTrue_Compare1 (thn (ha pins s σ H _ I h) fun v s1 ⟨x, H1, I1, r1, q1⟩ => thn (hb pins s1 σ H1 _ I1 q1) fun u s2 ⟨y, H2, I2, r2, q2⟩ =>
    thn (ho pins s2 σ H2 x y v u _ I2 r1 r2 q2) fun c s3 ⟨z, H3, I3, r3, k, e, q3⟩ => ?_) hm
  subst e
  cases r3
  exact wpAny_truthy_bool ⟨H3, I3, q3⟩
def tChain (r r' : R2) (ta tb tc : TE) : TE := fun σ H Q => ta σ H fun x H1 => tb σ H1 fun y H2 => r x y H2 fun z H3 => ∃ k, z = .bl k ∧
  (if k = true then tc σ H3 fun w' H4 => r' y w' H4 Q else Q (.bl false) H3)
theorem pe_chain {op op' : CmpOp} {r r' : R2} (ho : OpR X (compareOp op) r) (ho' : OpR X (compareOp op') r') (ha : PE X a ta) (hb : PE X b tb) (hc : PE X c tc)
    (hm : lastMarks [op, op'] [b, c] = false := by with_unfolding_all rfl) : PE X (.Compare a [op, op'] [b, c] pos) (tChain r r' ta tb tc) := by
  intro pins s σ H Q I h
  refine Compare_chain (thn (ha pins s σ H _ I h) fun v s1 ⟨x, H1, I1, r1, q1⟩ => chain_link (thn (hb pins s1 σ H1 _ I1 q1) fun u s2 ⟨y, H2, I2, r2, q2⟩ =>
    thn (ho pins s2 σ H2 x y v u _ I2 r1 r2 q2) fun d s3 ⟨z, H3, I3, r3, k, e, q3⟩ => ?_)) hm
  subst e
  cases r3
  refine wpAny_truthy_bool ?_
  cases k with
  | false => exact ite_ff ⟨.bl false, H3, I3, rfl, q3⟩
  | true => exact ite_tt (chain_last (thn (hc pins s3 σ H3 _ I3 q3) fun w' s4 ⟨z', H4, I4, r4, q4⟩ => ho' pins s4 σ H4 y z' u w' Q I4 r2 r4 q4))
theorem line63 : (sizeLine : Nat) < 2 ^ 63 := by rw [sizeLine_eq]; decide
theorem vals1 {x : V} {us : List Value} (r : Vals [x] us) : ∃ u, us = [u] ∧ RelV x u := by
  cases r with
  | cons r1 r2 => cases r2; exact ⟨_, rfl, r1⟩
theorem vals2 {x y : V} {us : List Value} (r : Vals [x, y] us) : ∃ u w', us = [u, w'] ∧ RelV x u ∧ RelV y w' := by
  cases r with
  | cons r1 r2 =>
    cases r2 with
    | cons r3 r4 => cases r4; exact ⟨_, _, rfl, r1, r3⟩
end
end L2
namespace L2
open PySem PySem.Spec PyProof.Rows
structure ObjM (h : Heap) (x dx C : Addr) (mA : Str → Option Value) : Prop where
  obj : h.get? x = some (PySem.W.instObj C dx)
  ns : h.Ns1 dx mA
  ne : dx ≠ x
theorem lookIn_ns {h : Heap} {dx : Addr} {mA : Str → Option Value} (n : h.Ns1 dx mA) : ∃ od, h.get? dx = some od ∧ ∀ name, PySem.W.lookIn name od = some (mA name) := by
  obtain ⟨o, es, ep, ho, hd, hk, _, hm⟩ := n
  refine ⟨o, ho, fun name => ?_⟩
  have e := hm name
  unfold nsFind findBy at e
  rw [← Array.find?_toList] at e
  unfold PySem.W.lookIn
  rw [hd]
  dsimp only
  split
  · rename_i y q
    rw [q] at e
    exact congrArg some e
  · rename_i q
    rw [q] at e
    have a : es.toList.any (·.refKey) = false := by
      rw [List.any_eq_false]
      intro y hy
      obtain ⟨z, t, hkey⟩ := hk y (Array.mem_toList_iff.mp hy)
      simp [DictEntry.refKey, hkey]
    have a' : ¬ es.toList.any (·.refKey) = true := by rw [a]; exact Bool.false_ne_true
    rw [if_neg a']
    exact congrArg some e
theorem ObjM.look {h : Heap} {x dx C : Addr} {mA : Str → Option Value} (I : ObjM h x dx C mA) : ∃ od, PySem.W.InstAt h x (PySem.W.instObj C dx) C (some od) ∧ ∀ name, PySem.W.lookIn name od = some (mA name) :=
  let ⟨od, ho, hl⟩ := lookIn_ns I.ns
  ⟨od, ⟨I.obj, rfl, rfl, ho⟩, hl⟩
section
variable {prog : Program} {w : World} {A : Around} {E : Value → Shared → Prop} {s : Shared} {K : PySem.W.Frag} {x dx C f : Addr} {mA : Str → Option Value} {name : Str} {v : Value}
theorem get_map {expr : Bool} {Q : Value → Shared → Prop} (X : K.In s.heap) (I : ObjM s.heap x dx C mA) (hg : PySem.W.plainGet K C name = true) (hh : PySem.W.hasDictIn K C = true)
    (ha : PySem.W.findIn K (.ref C) name = some none) (hv : mA name = some v) (hv' : PySem.W.handedIn v = true) (h : Q v { s with toks := s.toks + 1 }) :
    wpAny (model prog w) A (getAttr (.ref x) name expr) Q E s := by
  obtain ⟨od, J, hl⟩ := I.look
  exact PySem.W.get_value X J (PySem.W.plainGet_of hg).1 (PySem.W.findObj_own hh ha rfl (by rw [hl, hv])) hv' h
theorem get_meth {pl : Sem Bool} {Q : Value × List Value → Shared → Prop} (X : K.In s.heap) (I : ObjM s.heap x dx C mA) (hg : PySem.W.plainGet K C name = true)
    (hf : PySem.W.findIn K (.ref C) name = some (some (.ref f))) (ht : PySem.W.isFn K (.ref f) = true) (hv : mA name = none) (h : Q (.ref f, [.ref x]) s) :
    wpAny (model prog w) A (getMethod (.ref x) name pl) Q E s := by
  obtain ⟨od, J, hl⟩ := I.look
  exact PySem.W.method_fn X J (PySem.W.plainGet_of hg).1 (PySem.W.plainGet_of hg).2 hf (beq_iff_eq.mp ht) (by show (PySem.W.lookIn name od).map (·.isSome) = some false; rw [hl, hv]; rfl) h
theorem set_map {ns : List Str} {Q : Unit → Shared → Prop} (X : K.In s.heap) (I : ObjM s.heap x dx C mA)
    (hs : PySem.W.findIn K (.ref C) "__setattr__" = some (some (.builtin "object.__setattr__"))) (hp : PySem.W.plainOver K C = true) (ht : PySem.W.takerIn K C name = some none) (hh : PySem.W.hasDictIn K C = true)
    (hw : PySem.Within mA ns) (hsz : ns.length ≤ sizeLine)
    (h : ∀ h', ObjM h' x dx C (fun y => if y = name then some v else mA y) → Heap.SameBut dx s.heap h' → Q () { s with heap := h', toks := s.toks + 2 }) :
    wpAny (model prog w) A (setAttr (.ref x) name v) Q E s := by
  obtain ⟨od, J, hl⟩ := I.look
  refine PySem.W.set_plain X J hs (PySem.W.osa_open (s := { s with toks := s.toks + 1 }) (r := none) X J hp ht fun b => ?_)
  obtain ⟨cd, hc, hd'⟩ := PySem.W.any_some hh
  have hx : s.heap.get? x = some ⟨.ref C, some dx, .plain, #[]⟩ := I.obj
  refine wpAny_bind (wpAny_pure (wpAny_bind (wpAny_bind (wpAny_loadPart hx (wpAny_bind (PySem.W.Looks.here (s := { s with toks := s.toks + 1 }) (PySem.W.looks_clsIn X hc) ?_))))))
  rw [hd']
  refine wpAny_pure (a := some dx) (wpAny_bind (wpAny_pure (wpAny_bind ?_)))
  refine wpAny_nsSet1 (s := { s with toks := s.toks + 1 }) I.ns fun h' hn2 hs2 => ?_
  obtain ⟨oD, esD, epD, hoD, hdD, hcD⟩ := hn2.count (PySem.Within.cons name v hw)
  refine wpAny_bind (wpAny_lookBehind hoD (by rw [hdD]; exact pastItsLine_dict (Nat.le_trans hcD (by rw [List.length_cons]; omega))) ?_)
  exact wpAny_pure (h _ ⟨(hs2.2 _ (Ne.symm I.ne)).trans I.obj, hn2, I.ne⟩ hs2)
theorem make_map {R : Result → Shared → Prop} {vs : List Value} {kw : List (Str × Value)} (X : K.In s.heap) (hm : PySem.W.makesIn K C = true)
    (hi : PySem.W.findIn K (.ref C) "__init__" = some (some (.ref f))) (hf : PySem.W.typeIn K (.ref f) = some (.type "function"))
    (h : codeAny (model prog w) (A.under (.builtin "type.__call__" ⟨.ref C :: vs, kw⟩)) (.call (.ref f) ⟨.ref (s.heap.objs.size + 1) :: vs, kw⟩) (PySem.W.InitBack (s.heap.objs.size + 1) R)
      { s with heap := (s.heap.push PySem.W.emptyDict).push (PySem.W.instObj C s.heap.objs.size) }) :
    codeAny (model prog w) A (.call (.ref C) ⟨vs, kw⟩) R s := by
  obtain ⟨hh, g, d, t, os⟩ := s
  exact PySem.W.make_core (PySem.W.makes_of X hm) (PySem.W.looks_findIn X hi) (fun self => PySem.W.bind_fn X self hf) (.inl rfl) h
end
def putF (f : Str) (v : V) : List (Str × V) → List (Str × V)
  | [] => [(f, v)]
  | (g, x) :: r => if g = f then (g, v) :: r else (g, x) :: putF f v r
theorem lookup_putF (f g : Str) (v : V) : ∀ fs : List (Str × V), (putF f v fs).lookup g = if g = f then some v else fs.lookup g
  | [] => by
    show List.lookup g [(f, v)] = _
    by_cases h : g = f
    · have hb : (g == f) = true := beq_iff_eq.mpr h
      simp only [List.lookup, hb, if_pos h]
    · have hb : (g == f) = false := beq_eq_false_iff_ne.mpr h
      simp only [List.lookup, hb, if_neg h]
  | (k, x) :: r => by
    have ih := lookup_putF f g v r
    rw [show putF f v ((k, x) :: r) = (if k = f then (k, v) :: r else (k, x) :: putF f v r) from rfl]
    by_cases hk : k = f
    · rw [if_pos hk]
      by_cases h : g = k
      · have hb : (g == k) = true := beq_iff_eq.mpr h
        simp only [List.lookup, hb, if_pos (h.trans hk)]
      · have hb : (g == k) = false := beq_eq_false_iff_ne.mpr h
        simp only [List.lookup, hb, if_neg (fun e : g = f => h (e.trans hk.symm))]
    · rw [if_neg hk]
      by_cases h : g = k
      · have hb : (g == k) = true := beq_iff_eq.mpr h
        simp only [List.lookup, hb, if_neg (fun e : g = f => hk (h.symm.trans e))]
      · have hb : (g == k) = false := beq_eq_false_iff_ne.mpr h
        simp only [List.lookup, hb]
        exact ih
theorem keys_putF (f : Str) (v : V) : ∀ fs : List (Str × V), f ∈ (putF f v fs).map (·.1) ∧ ∀ g, g ∈ fs.map (·.1) → g ∈ (putF f v fs).map (·.1)
  | [] => ⟨by simp [putF], fun g h => by simp at h⟩
  | (k, x) :: r => by
    obtain ⟨i1, i2⟩ := keys_putF f v r
    rw [show putF f v ((k, x) :: r) = (if k = f then (k, v) :: r else (k, x) :: putF f v r) from rfl]
    by_cases hk : k = f
    · rw [if_pos hk]
      subst hk
      exact ⟨by simp, fun g h => by simpa using h⟩
    · rw [if_neg hk]
      refine ⟨?_, fun g h => ?_⟩
      · rw [List.map_cons]
        exact List.mem_cons_of_mem _ i1
      · rw [List.map_cons] at h ⊢
        rcases List.mem_cons.mp h with e | e
        · exact List.mem_cons.mpr (.inl e)
        · exact List.mem_cons_of_mem _ (i2 g e)
theorem length_putF (f : Str) (v : V) : ∀ fs : List (Str × V), (putF f v fs).length ≤ fs.length + 1
  | [] => by simp [putF]
  | (k, x) :: r => by
    have ih := length_putF f v r
    rw [show putF f v ((k, x) :: r) = (if k = f then (k, v) :: r else (k, x) :: putF f v r) from rfl]
    by_cases hk : k = f
    · rw [if_pos hk, List.length_cons, List.length_cons]; omega
    · rw [if_neg hk, List.length_cons, List.length_cons]; omega
theorem RelO.some_of {v : V} {o : Option Value} (r : RelO (some v) o) : ∃ u, o = some u ∧ RelV v u := by
  cases o with
  | none => exact (show False from r).elim
  | some u => exact ⟨u, rfl, r⟩
theorem RelO.none_of {o : Option Value} (r : RelO none o) : o = none := by
  cases o with
  | none => rfl
  | some u => exact (show False from r).elim
theorem handed_of {v : V} {u : Value} (r : RelV v u) : PySem.W.handedIn u = true := by
  cases v with
  | non => cases (show u = Value.none from r); rfl
  | bl b => cases (show u = Value.bool b from r); rfl
  | int i => obtain ⟨t, e⟩ := (show ∃ t, u = Value.int i t from r); cases e; rfl
  | str x => obtain ⟨t, e⟩ := (show ∃ t, u = Value.str x t from r); cases e; rfl
  | byt b => obtain ⟨t, e⟩ := (show ∃ t, u = Value.bytes b t from r); cases e; rfl
  | flt b => obtain ⟨t, e⟩ := (show ∃ t, u = Value.float b t from r); cases e; rfl
  | ref a => cases (show u = Value.ref a from r); rfl
  | ty n => cases (show u = Value.type n from r); rfl
section
variable {P : Program} {w : World} {H H' : Hp} {h h' : Heap} {a C dx : Addr} {fs fs' : List (Str × V)}
theorem ins_get (hok : HOk P w H h) (e : H a = some (.ins C dx fs)) : ∃ mA, ObjM h a dx C mA ∧ (∀ f, RelO (fs.lookup f) (mA f)) ∧ PySem.Within mA (fs.map (·.1)) ∧ fs.length ≤ 1000 ∧ H dx = some (.own a) := by
  obtain ⟨d, z, ne, ob, mA, n, r, q⟩ := (show ObjOk P w H h a (.ins C dx fs) from hok a _ e)
  exact ⟨mA, ⟨ob, n, ne⟩, r, q, z, d⟩
end
structure Cls (K : PySem.W.Frag) (C : Addr) : Prop where
  pg : PySem.W.plainGet K C Str.empty = true
  hd : PySem.W.hasDictIn K C = true
  po : PySem.W.plainOver K C = true
  sa : PySem.W.findIn K (.ref C) "__setattr__" = some (some (.builtin "object.__setattr__"))
theorem Cls.get {K : PySem.W.Frag} {C : Addr} (c : Cls K C) (f : Str) : PySem.W.plainGet K C f = true := c.pg
def NoAttr (K : PySem.W.Frag) (C : Addr) (f : Str) : Prop := PySem.W.findIn K (.ref C) f = some none
theorem NoAttr.taker {K : PySem.W.Frag} {C : Addr} {f : Str} (n : NoAttr K C f) : PySem.W.takerIn K C f = some none := by
  unfold PySem.W.takerIn
  rw [show PySem.W.findIn K (.ref C) f = some none from n]
  rfl
structure Con (K : PySem.W.Frag) (C : Addr) (f : Str) (v : V) (u : Value) : Prop where
  at_ : PySem.W.findIn K (.ref C) f = some (some u)
  rel : RelV v u
  get : PySem.W.specialIn K u "__get__" = some none
  cp : PySem.W.copiedNames.contains f = false
structure Meth (K : PySem.W.Frag) (C : Addr) (m : Str) (f : Addr) : Prop where
  at_ : PySem.W.findIn K (.ref C) m = some (some (.ref f))
  fn : PySem.W.isFn K (.ref f) = true
  kp : PySem.W.keepIn K (.ref f) = true
section
variable {X : Cx} {pins : List (Addr × Obj)} {σ : St} {H : Hp} {s : Shared} {a C dx : Addr} {fs : List (Str × V)} {f : Str} {v : V} {A : Around} {E : Value → Shared → Prop}
theorem getattr_ok {b : Bool} {Q : Value → Shared → Prop} (I : Inv X pins σ H s) (e : H a = some (.ins C dx fs)) (c : Cls X.K C) (n : NoAttr X.K C f) (l : fs.lookup f = some v)
    (h : ∀ u s', Inv X pins σ H s' → RelV v u → Q u s') : wpAny (model X.prog X.w) A (getAttr (.ref a) f b) Q E s := by
  obtain ⟨mA, O, r, _, _, _⟩ := ins_get I.hok e
  obtain ⟨u, hu, ru⟩ := RelO.some_of (v := v) (o := mA f) (by rw [← l]; exact r f)
  exact get_map I.kIn O (c.get f) c.hd n hu (handed_of ru) (h u _ (I.tok _) ru)
theorem getmeth_ok {m : Str} {g : Addr} {pl : Sem Bool} {Q : Value × List Value → Shared → Prop} (I : Inv X pins σ H s) (e : H a = some (.ins C dx fs)) (c : Cls X.K C) (k : Meth X.K C m g) (l : fs.lookup m = none)
    (h : Q (.ref g, [.ref a]) s) : wpAny (model X.prog X.w) A (getMethod (.ref a) m pl) Q E s := by
  obtain ⟨mA, O, r, _, _, _⟩ := ins_get I.hok e
  have hn : mA m = none := RelO.none_of (by rw [← l]; exact r m)
  exact get_meth I.kIn O (c.get m) k.at_ k.fn hn h
theorem setattr_ok {y : V} {u : Value} {Q : Unit → Shared → Prop} (I : Inv X pins σ H s) (e : H a = some (.ins C dx fs)) (c : Cls X.K C) (n : NoAttr X.K C f) (hl : fs.length < 1000) (ry : RelV y u)
    (h : ∀ s', Inv X pins σ (upd H a (.ins C dx (putF f y fs))) s' → Q () s') : wpAny (model X.prog X.w) A (setAttr (.ref a) f u) Q E s := by
  obtain ⟨mA, O, r, wi, _, ho⟩ := ins_get I.hok e
  have hz : (fs.map (·.1)).length ≤ sizeLine := by rw [List.length_map, sizeLine_eq]; omega
  refine set_map I.kIn O c.sa c.po n.taker c.hd wi hz fun h' O' sb => h _ ?_
  have hd : ∃ o, h'.get? dx = some o := let ⟨o, _, _, e', _⟩ := O'.ns; ⟨o, e'⟩
  refine I.write (x := a) (e := dx) (by rw [e]; exact True.intro) (.inr ho) (fun b q hb z => (sb.2 b hb).trans z) hd ?_
  refine ⟨by rw [upd_ne O.ne]; exact ho, ?_, O.ne, O'.obj, _, O'.ns, fun g => ?_, fun g hg => ?_⟩
  · have := length_putF f y fs; omega
  · show RelO ((putF f y fs).lookup g) (if g = f then some u else mA g)
    rw [lookup_putF]
    by_cases q : g = f
    · rw [if_pos q, if_pos q]; exact ry
    · rw [if_neg q, if_neg q]; exact r g
  · by_cases q : g = f
    · rw [q]; exact (keys_putF f y fs).1
    · refine (keys_putF f y fs).2 g (wi g fun z => hg ?_)
      show (if g = f then some u else mA g) = none
      rw [if_neg q]; exact z
theorem Inv.made (I : Inv X pins σ H s) : Inv X pins σ (upd (upd H s.heap.objs.size (.own (s.heap.objs.size + 1))) (s.heap.objs.size + 1) (.ins C s.heap.objs.size []))
    { s with heap := (s.heap.push PySem.W.emptyDict).push (PySem.W.instObj C s.heap.objs.size) } := by
  have e1 : (s.heap.push PySem.W.emptyDict).get? s.heap.objs.size = some PySem.W.emptyDict := Heap.get?_push_size s.heap rfl
  have e2 : ((s.heap.push PySem.W.emptyDict).push (PySem.W.instObj C s.heap.objs.size)).get? (s.heap.objs.size + 1) = some (PySem.W.instObj C s.heap.objs.size) := by
    have := Heap.get?_push_size (s.heap.push PySem.W.emptyDict) (o := PySem.W.instObj C s.heap.objs.size) rfl
    rwa [Heap.size_push] at this
  have e3 : (s.heap.push PySem.W.emptyDict).Ns s.heap.objs.size (fun _ => none) := ⟨PySem.W.emptyDict, #[], _, e1, rfl, (fun e he => absurd he (by simp)), fun _ => rfl⟩
  have I1 := I.laid (a := s.heap.objs.size) (o := .own (s.heap.objs.size + 1)) (h' := s.heap.push PySem.W.emptyDict) (t' := s.toks) (fun b u q => Heap.get?_push_of_some _ q) (Nat.le_refl _) ⟨_, e1⟩
  refine I1.laid (a := s.heap.objs.size + 1) (o := .ins C s.heap.objs.size []) (t' := s.toks) (fun b u q => Heap.get?_push_of_some _ q) (Nat.le_of_eq (Heap.size_push _ _)) ?_
  have ne : s.heap.objs.size ≠ s.heap.objs.size + 1 := Nat.ne_of_lt (Nat.lt_succ_self _)
  refine ⟨by rw [upd_ne ne, upd_same], Nat.zero_le _, ne, e2, fun _ => none, (Heap.Ns1.of_empty e3).at fun o q => Heap.get?_push_of_some _ q, fun _ => True.intro, fun y hy => absurd rfl hy⟩
theorem attr_of {prog : Program} {w : World} {env : Env} {e : Expr} {f : Str} {pos : Pos} {s : Shared} {Q : Value → Shared → Prop} (hb : attributeBase e f env (eval e env) = eval e env)
    (h : wpAny (model prog w) A (eval e env) (fun o s₁ => wpAny (model prog w) A (getAttr o f true) Q E s₁) E s) : wpAny (model prog w) A (eval (.Attribute e f pos) env) Q E s :=
  Attribute_any_ h (by rw [arm_eval_Attribute, hb])
end
def tFld (K : PySem.W.Frag) (ta : TE) (f : Str) : TE := fun σ H Q => ta σ H fun x H1 => ∃ a C dx fs v, x = .ref a ∧ H1 a = some (.ins C dx fs) ∧ Cls K C ∧ NoAttr K C f ∧ fs.lookup f = some v ∧ Q v H1
def sFld (K : PySem.W.Frag) (ta tv : TE) (f : Str) : TS := fun D σ H => tv σ H fun y H1 => ta σ H1 fun x H2 => ∃ a C dx fs, x = .ref a ∧ H2 a = some (.ins C dx fs) ∧ Cls K C ∧ NoAttr K C f ∧ fs.length < 1000 ∧
  D.nx σ (upd H2 a (.ins C dx (putF f y fs)))
section
variable {X : Cx} {o e value : Expr} {f : Str} {pos pos' tpos : Pos} {ta tv : TE}
theorem pe_fld (he : PE X e ta) (hb : attributeBase e f X.env (eval e X.env) = eval e X.env) : PE X (.Attribute e f pos) (tFld X.K ta f) := by
  intro pins s σ H Q I h
  refine attr_of hb (thn (he pins s σ H _ I h) fun u s1 ⟨x, H1, I1, rx, a, C, dx, fs, v, ex, ea, c, n, l, q⟩ => ?_)
  subst ex
  obtain rfl : u = Value.ref a := rx
  exact getattr_ok I1 ea c n l fun u' s2 I2 ru => ⟨v, H1, I2, ru, q⟩
theorem ps_fld (ha : PE X o ta) (hv : PE X value tv) (hs : swapsWith value (some (.Attribute o f pos')) pos.line X.env = pure false) : PS X (.Assign [.Attribute o f pos'] value pos) (sFld X.K ta tv f) := by
  intro pins s σ H D I h
  refine plainObj_wpAny_Assign_Attribute (thn (hv pins s σ H _ I h) fun u s1 ⟨y, H1, I1, ry, q⟩ => thn (ha pins s1 σ H1 _ I1 q) fun ov s2 ⟨x, H2, I2, rx, a, C, dx, fs, ex, ea, c, n, l, q2⟩ => ?_) hs
  subst ex
  obtain rfl : ov = Value.ref a := rx
  exact setattr_ok I2 ea c n l ry fun s3 I3 => ⟨σ, _, I3, q2⟩
end
section
variable {X : Cx} {pins : List (Addr × Obj)} {σ : St} {H : Hp} {s : Shared} {A : Around} {E : Value → Shared → Prop} {Q : Value → Shared → Prop} {c : Value} {b : Bool}
inductive TyOf (K : PySem.W.Frag) (H : Hp) : V → Value → Prop where
  | non : TyOf K H .non (.type "NoneType")
  | bl (x : Bool) : TyOf K H (.bl x) (.type "bool")
  | int (i : Int) : TyOf K H (.int i) (.type "int")
  | str (x : Str) : TyOf K H (.str x) (.type "str")
  | flt (x : UInt64) : TyOf K H (.flt x) (.type "float")
  | lst {a : Addr} {xs : List V} (e : H a = some (.lst xs)) : TyOf K H (.ref a) (.type "list")
  | frz {a : Addr} {o : Obj} {xs : List V} (e : H a = some (.frz o (.lst xs))) : TyOf K H (.ref a) (.type "list")
  | tup {a : Addr} {xs : List V} (e : H a = some (.tup xs)) : TyOf K H (.ref a) (.type "tuple")
  | dK {a : Addr} {kvs : List (Key × V)} (e : H a = some (.dK kvs)) : TyOf K H (.ref a) (.type "dict")
  | dT {a : Addr} {kvs : List (List Key × V)} (e : H a = some (.dT kvs)) : TyOf K H (.ref a) (.type "dict")
  | ins {a C dx : Addr} {fs : List (Str × V)} (e : H a = some (.ins C dx fs)) (cl : Cls K C) (ha : PySem.W.findIn K (.ref C) "__class__" = some (some (.builtin "object.__class__")))
      (hn : PySem.W.specialIn K (.builtin "object.__class__") "__get__" = some (some (.builtin "getset_descriptor.__get__"))) (htk : PySem.W.takesIn K (.builtin "object.__class__") = some true)
      (hm : PySem.W.mroIn K C (.type "object") = some true) : TyOf K H (.ref a) (.ref C)
theorem isinst_ok {x : V} {u t : Value} (I : Inv X pins σ H s) (rx : RelV x u) (ty : TyOf X.K H x t) (e : PySem.W.kitOne X.K t c = some b) (h : ∀ tk, Q (.bool b) { s with toks := tk }) :
    wpAny (model X.prog X.w) A (call (.builtin "isinstance") [u, c]) Q E s := by
  cases ty with
  | non => cases (show u = Value.none from rx); exact PySem.W.kia_one PySem.W.kitx_none I.kIn True.intro e (fun z => nomatch z) h
  | bl y => cases (show u = Value.bool y from rx); exact PySem.W.kia_one PySem.W.kitx_bool I.kIn True.intro e (fun z => nomatch z) h
  | int i => obtain ⟨t, q⟩ := (show ∃ t, u = Value.int i t from rx); cases q; exact PySem.W.kia_one PySem.W.kitx_int I.kIn True.intro e (fun z => nomatch z) h
  | str y => obtain ⟨t, q⟩ := (show ∃ t, u = Value.str y t from rx); cases q; exact PySem.W.kia_one PySem.W.kitx_str I.kIn True.intro e (fun z => nomatch z) h
  | flt y => obtain ⟨t, q⟩ := (show ∃ t, u = Value.float y t from rx); cases q; exact PySem.W.kia_one PySem.W.kitx_float I.kIn True.intro e (fun z => nomatch z) h
  | @lst a xs ea =>
    cases (show u = Value.ref a from rx)
    obtain ⟨_, _, n, _, h1⟩ := (show ObjOk X.prog X.w H s.heap a (.lst xs) from I.hok a _ ea)
    exact PySem.W.kia_one PySem.W.kitx_list I.kIn ⟨_, h1, rfl⟩ e (fun z => nomatch z) h
  | @frz a ob xs ea =>
    cases (show u = Value.ref a from rx)
    obtain ⟨_, _, _, n, _, h1⟩ := (show ObjOk X.prog X.w H s.heap a (.frz ob (.lst xs)) from I.hok a _ ea)
    exact PySem.W.kia_one PySem.W.kitx_list I.kIn ⟨_, h1, rfl⟩ e (fun z => nomatch z) h
  | @tup a xs ea =>
    cases (show u = Value.ref a from rx)
    obtain ⟨_, _, _, p⟩ := (show ObjOk X.prog X.w H s.heap a (.tup xs) from I.hok a _ ea)
    obtain ⟨o, h1, h2, _⟩ := p
    exact PySem.W.kia_one PySem.W.kitx_tuple I.kIn ⟨o, h1, h2⟩ e (fun z => nomatch z) h
  | @dK a kvs ea =>
    cases (show u = Value.ref a from rx)
    obtain ⟨_, _, vs, _, p⟩ := (show ObjOk X.prog X.w H s.heap a (.dK kvs) from I.hok a _ ea)
    obtain ⟨o, es, ep, h1, h2, _⟩ := p
    exact PySem.W.kia_one PySem.W.kitx_dict I.kIn ⟨o, h1, h2.1⟩ e (fun z => nomatch z) h
  | @dT a kvs ea =>
    cases (show u = Value.ref a from rx)
    obtain ⟨_, _, xs, _, o, es, ep, h1, h2, _⟩ := (show ObjOk X.prog X.w H s.heap a (.dT kvs) from I.hok a _ ea)
    exact PySem.W.kia_one PySem.W.kitx_dict I.kIn ⟨o, h1, h2.1⟩ e (fun z => nomatch z) h
  | @ins a C dx fs ea cl ha hn htk hm =>
    cases (show u = Value.ref a from rx)
    obtain ⟨mA, O, _⟩ := ins_get I.hok ea
    obtain ⟨od, J, _⟩ := O.look
    exact PySem.W.kia_one (PySem.W.kitx_own (cl.get _) cl.hd ha hn htk hm) I.kIn J e (fun z => nomatch z) h
end
end L2
namespace L2
open PySem PySem.Spec PyProof.Rows
structure Room (k : Nat) (A : Around) : Prop where
  hd : A.handled = none
  dp : A.depth + 3 * k + 5 < recursionLimit
  un : A.units + 16 * k + 200 < cLine
theorem Room.mono {j k : Nat} {A : Around} (r : Room k A) (h : j ≤ k) : Room j A := ⟨r.hd, by have := r.dp; omega, by have := r.un; omega⟩
theorem Room.deeper {k : Nat} {A : Around} (r : Room (k + 1) A) (env : Env) : Room k (A.deeper env) :=
  ⟨r.hd, by have := r.dp; show A.depth + 1 + 3 * k + 5 < _; omega, by have := r.un; show A.units + 3 + 16 * k + 200 < _; omega⟩
theorem Room.in1 {k : Nat} {A : Around} (r : Room (k + 1) A) : Room k A.in1 :=
  ⟨r.hd, by have := r.dp; show A.depth + 3 * k + 5 < _; omega, by have := r.un; show A.units + 1 + 16 * k + 200 < _; omega⟩
theorem make_depth {A : Around} {C : Addr} {us : List Value} {kw : List (Str × Value)} : (A.under (.builtin "type.__call__" ⟨.ref C :: us, kw⟩)).depth = A.depth + 1 := by
  first | rfl | simp [Around.under, Code.weight, Code.isCreation, Code.isGuard, Code.isCaller, Code.frames, Code.isFrame, guardIds]
theorem make_units {A : Around} {C : Addr} {us : List Value} {kw : List (Str × Value)} : (A.under (.builtin "type.__call__" ⟨.ref C :: us, kw⟩)).units = A.units + 1 := by
  first | rfl | simp [Around.under, Code.cUnits, Code.frames, Code.isFrame]
theorem Room.make {k : Nat} {A : Around} (r : Room (k + 1) A) (C : Addr) (us : List Value) (kw : List (Str × Value)) : Room k (A.under (.builtin "type.__call__" ⟨.ref C :: us, kw⟩)) :=
  ⟨r.hd, by have := r.dp; rw [make_depth]; omega, by have := r.un; rw [make_units]; omega⟩
theorem Room.depth {k : Nat} {A : Around} (r : Room k A) : A.depth < recursionLimit := by have := r.dp; omega
theorem Room.units {k : Nat} {A : Around} (r : Room k A) : A.units + 64 < cLine := by have := r.un; omega
def tNil : TA := fun _ H Q => Q [] H
def tCons (ta : TE) (tr : TA) : TA := fun σ H Q => ta σ H fun x H1 => tr σ H1 fun xs H2 => Q (x :: xs) H2
section
variable {X : Cx} {e : Expr} {es : List Expr} {te : TE} {t : TA} {pos : Pos}
theorem pa_nil : PA X [] tNil := fun _ _ _ _ H Q I h => Calls.spliced_nil ⟨[], H, I, .nil, h⟩
theorem pa_cons (ha : PE X e te) (hr : PA X es t) (hs : starEach (e :: es) X.env = (false, eval e X.env) :: starEach es X.env := by rfl) : PA X (e :: es) (tCons te t) := by
  intro pos pins s σ H Q I h
  rw [hs]
  show wpAny _ _ (spliced ((false, eval e X.env) :: backTo pos (starEach es X.env))) _ _ s
  refine Calls.spliced_cons (thn (ha pins s σ H _ I h) fun u s1 ⟨x, H1, I1, r1, q1⟩ => ?_)
  exact thn (hr pos pins s1 σ H1 _ I1 q1) fun us s2 ⟨xs, H2, I2, r2, q2⟩ => ⟨x :: xs, H2, I2, .cons r1 r2, q2⟩
def tTup (t : TA) : TE := fun σ H Q => t σ H fun xs H1 => xs.length ≤ sizeLine ∧ ∀ p, H1 p = none → Q (.ref p) (upd H1 p (.tup xs))
def tLst (t : TA) : TE := fun σ H Q => t σ H fun xs H1 => xs.length ≤ sizeLine ∧ ∀ p, H1 p = none → Q (.ref p) (upd H1 p (.lst xs))
theorem pe_tup {x1} (h : PA X es t) : PE X (.Tuple es x1 pos) (tTup t) := by
  intro pins s σ H Q I hq
  refine wpAny_Tuple_spliced (thn (h pos pins s σ H _ I hq) fun us s1 ⟨xs, H1, I1, r, z, q⟩ => ⟨by rw [← r.length]; exact z, ?_⟩)
  have hf : H1 s1.heap.objs.size = none := I1.hok.fresh (Nat.le_refl _)
  refine ⟨.ref s1.heap.objs.size, upd H1 s1.heap.objs.size (.tup xs), I1.laid (t' := s1.toks) (fun b u e => Heap.get?_push_of_some _ e) (Nat.le_refl _) ?_, rfl, q _ hf⟩
  exact ⟨z, us, r, ⟨_, Heap.get?_push_size _ rfl, rfl, _, rfl⟩⟩
theorem pe_lst (h : PA X es t) : PE X (.List es pos) (tLst t) := by
  intro pins s σ H Q I hq
  refine wpAny_List_spliced (thn (h pos pins s σ H _ I hq) fun us s1 ⟨xs, H1, I1, r, z, q⟩ => ⟨by rw [← r.length]; exact z, ?_⟩)
  have hf : H1 s1.heap.objs.size = none := I1.hok.fresh (Nat.le_refl _)
  refine ⟨.ref s1.heap.objs.size, upd H1 s1.heap.objs.size (.lst xs), I1.laid (t' := s1.toks) (fun b u e => Heap.get?_push_of_some _ e) (Nat.le_refl _) ?_, rfl, q _ hf⟩
  exact ⟨z, us, 0, r, Heap.get?_push_size _ rfl⟩
end
abbrev Sp := List V → Hp → VK → XK → Prop
abbrev CXT := List Env → Hp → Shared → XK → Value → Shared → Prop
structure Env0 (P : Program) (w : World) (K : PySem.W.Frag) (mg : Str → Option Value) (base : Heap) (A : Around) (outer : List Env) (s : Shared) (H : Hp) : Prop where
  frames : A.frames = some outer
  mod : Mod K mg base
  bs : ∀ b o, base.get? b = some o → s.heap.get? b = some o ∧ H b = none
  bsz : base.objs.size ≤ s.heap.objs.size
  funs : s.heap.FunFrames base outer
  frf : ∀ b ∈ frs outer, H b = none
  hok : HOk P w H s.heap
  bare : AllBare s.gens
def CE (outer : List Env) (P : Program) (w : World) (H : Hp) (s : Shared) (Q : VK) (u : Value) (s' : Shared) : Prop :=
  ∃ v H', s'.os = s.os ∧ AllBare s'.gens ∧ Un (frs outer) [] H H' s.heap s'.heap ∧ HOk P w H' s'.heap ∧ RelV v u ∧ Q v H'
def CR (CX : CXT) (outer : List Env) (P : Program) (w : World) (H : Hp) (s : Shared) (Q : VK) (E : XK) (r : Result) (s' : Shared) : Prop :=
  match r with
  | .ok (.ret u) => CE outer P w H s Q u s'
  | .ok _ => False
  | .error e => CX outer H s E e s'
structure FnOk (P : Program) (w : World) (K : PySem.W.Frag) (mg : Str → Option Value) (base : Heap) (CX : CXT) (k : Nat) (f : Addr) (fd : FuncData) (ps : List Str) (sp : Sp) : Prop where
  len : ∀ vs H Q E, sp vs H Q E → vs.length = ps.length
  run : ∀ (A : Around) (outer : List Env) (s : Shared) (H : Hp) (args : Args) (us : List Value) (vs : List V) (Q : VK) (E : XK), Room k A → Env0 P w K mg base A outer s H → BindsTo s fd args (ps.zip us) → Vals vs us → sp vs H Q E →
    codeAny (model P w) A (.call (.ref f) args) (CR CX outer P w H s Q E) s
theorem FnOk.mono {P : Program} {w : World} {K : PySem.W.Frag} {mg : Str → Option Value} {base : Heap} {CX : CXT} {j k : Nat} {f : Addr} {fd : FuncData} {ps : List Str} {sp : Sp} (F : FnOk P w K mg base CX j f fd ps sp) (h : j ≤ k) :
    FnOk P w K mg base CX k f fd ps sp := ⟨F.len, fun A outer s H args us vs Q E hr => F.run A outer s H args us vs Q E (hr.mono h)⟩
theorem FnOk.imp {P : Program} {w : World} {K : PySem.W.Frag} {mg : Str → Option Value} {base : Heap} {CX : CXT} {k : Nat} {f : Addr} {fd : FuncData} {ps : List Str} {sp sp' : Sp} (F : FnOk P w K mg base CX k f fd ps sp)
    (h : ∀ vs H Q E, sp' vs H Q E → sp vs H Q E) : FnOk P w K mg base CX k f fd ps sp' :=
  ⟨fun vs H Q E q => F.len vs H Q E (h _ _ _ _ q), fun A outer s H args us vs Q E hr he hb hv hs => F.run A outer s H args us vs Q E hr he hb hv (h _ _ _ _ hs)⟩
theorem Env0.make {P : Program} {w : World} {K : PySem.W.Frag} {mg : Str → Option Value} {base : Heap} {A : Around} {outer : List Env} {s : Shared} {H : Hp} (e : Env0 P w K mg base A outer s H) (C : Addr) (us : List Value) (kw : List (Str × Value)) :
    Env0 P w K mg base (A.under (.builtin "type.__call__" ⟨.ref C :: us, kw⟩)) outer s H := ⟨by first | exact e.frames | (simpa [Around.under, Code.envs, Code.isFrame, pushEnvs] using e.frames), e.mod, e.bs, e.bsz, e.funs, e.frf, e.hok, e.bare⟩
theorem Env0.in1 {P : Program} {w : World} {K : PySem.W.Frag} {mg : Str → Option Value} {base : Heap} {A : Around} {outer : List Env} {s : Shared} {H : Hp} (e : Env0 P w K mg base A outer s H) :
    Env0 P w K mg base A.in1 outer s H := ⟨e.frames, e.mod, e.bs, e.bsz, e.funs, e.frf, e.hok, e.bare⟩
section
variable {X : Cx} {pins : List (Addr × Obj)} {σ : St} {H : Hp} {s s' : Shared}
theorem Inv.env0 (I : Inv X pins σ H s) : Env0 X.prog X.w X.K X.mg X.base X.A X.stack s H :=
  ⟨I.ok.frames, I.ok.mod, I.bs, Nat.le_trans I.ok.bsz I.sz, I.stack, I.stkFree, I.hok, I.bare⟩
theorem Inv.after {Q : VK} {u : Value} (I : Inv X pins σ H s) (h : CE X.stack X.prog X.w H s Q u s') : EP X pins σ Q u s' := by
  obtain ⟨v, H', os, bare, un, hok, r, q⟩ := h
  obtain ⟨hh, g, d, t, os'⟩ := s'
  obtain rfl : os' = s.os := os
  exact ⟨v, H', I.call (h' := hh) (g' := g) (d' := d) (t' := t) (ch := []) un hok bare (fun b z => absurd z (by simp)), r, q⟩
end
def tCall (sp : Sp) (dvs : List V) (E : XK) (t : TA) : TE := fun σ H Q => t σ H fun vs H1 => sp (vs ++ dvs) H1 Q E
def tMeth (C : Addr) (m : Str) (sp : Sp) (dvs : List V) (E : XK) (ta : TE) (t : TA) : TE := fun σ H Q => ta σ H fun x H1 => ∃ a dx fs, x = .ref a ∧ H1 a = some (.ins C dx fs) ∧ fs.lookup m = none ∧
  t σ H1 fun vs H2 => sp (x :: (vs ++ dvs)) H2 Q E
def tMake (C : Addr) (sp : Sp) (dvs : List V) (E : XK) (t : TA) : TE := fun σ H Q => t σ H fun vs H1 => ∀ x dx, H1 x = none → H1 dx = none → dx ≠ x →
  sp (.ref x :: (vs ++ dvs)) (upd (upd H1 dx (.own x)) x (.ins C dx [])) (fun v H2 => v = .non ∧ Q (.ref x) H2) E
def Binds (K : PySem.W.Frag) (fd : FuncData) (ps : List Str) (ds : List Value) : Prop :=
  ∀ (s : Shared) (us : List Value), K.In s.heap → (us ++ ds).length = ps.length → BindsTo s fd ⟨us, []⟩ (ps.zip (us ++ ds))
theorem Binds.all {K : PySem.W.Frag} {fd : FuncData} {ps : List Str} (h : ∀ us : List Value, us.length = ps.length → bindArgs fd ⟨us, []⟩ = pure (ps.zip us)) : Binds K fd ps [] := fun s us _ hl => by
  rw [List.append_nil] at hl ⊢
  exact .of_eq (h us hl)
def Passes (CX : CXT) (X : Cx) (E : XK) : Prop := ∀ (pins : List (Addr × Obj)) (σ : St) (H : Hp) (s : Shared) (e : Value) (s' : Shared), Inv X pins σ H s → CX X.stack H s E e s' → X.xe e s'
section
variable {X : Cx} {CX : CXT} {k : Nat} {f C : Addr} {fd : FuncData} {ps : List Str} {sp : Sp} {dvs : List V} {ds : List Value} {E : XK} {x m : Str} {p pos apos : Pos} {e o : Expr} {es : List Expr} {ta : TE} {t : TA}
theorem run_fn {pins : List (Addr × Obj)} {σ : St} {H : Hp} {s : Shared} {Q : VK} {us : List Value} {vs : List V} (F : FnOk X.prog X.w X.K X.mg X.base CX k f fd ps sp) (hr : Room k X.A) (hb : Binds X.K fd ps ds) (hd : Vals dvs ds) (hx : Passes CX X E)
    (I : Inv X pins σ H s) (r : Vals vs us) (h : sp (vs ++ dvs) H Q E) : wpAny (model X.prog X.w) X.A (call (.ref f) us) (EP X pins σ Q) X.xe s := by
  have r2 : Vals (vs ++ dvs) (us ++ ds) := r.append hd
  have hl : (us ++ ds).length = ps.length := by rw [← r2.length]; exact F.len _ _ _ _ h
  refine wpAny_call (codeAny_mono (F.run X.A X.stack s H ⟨us, []⟩ (us ++ ds) (vs ++ dvs) Q E hr I.env0 (hb s us I.kIn hl) r2 h) fun r s' hq => ?_)
  cases r with
  | error e => exact hx pins σ H s e s' I hq
  | ok fl =>
    cases fl with
    | ret u => exact I.after hq
    | next => exact False.elim hq
    | brk => exact False.elim hq
    | cont => exact False.elim hq
theorem pe_call (F : FnOk X.prog X.w X.K X.mg X.base CX k f fd ps sp) (hr : Room k X.A) (hg : Gl X x) (hm : X.mg x = some (.ref f)) (hk : PySem.W.keepIn X.K (.ref f) = true) (hb : Binds X.K fd ps ds) (hd : Vals dvs ds) (hx : Passes CX X E)
    (ha : PA X (e :: es) t) (hdb : (x == ("__debug__" : Str)) = false := by decide) (he : starEach (e :: es) X.env = (false, eval e X.env) :: starEach es X.env := by rfl) (hpl : (backTo pos (starEach es X.env)).any (·.1) = false := by rfl) :
    PE X (.Call (.Name x p) (e :: es) [] pos) (tCall sp dvs E t) := by
  intro pins s σ H Q I h
  refine wpAny_Call_Name_kw (ld_glob I hg hm ?_ hdb)
  refine PySem.W.callWith_K (h₀ := X.base) I.ok.mod.kin hk (thn (ha pos pins s σ H _ I h) fun us s1 ⟨vs, H1, I1, r, q⟩ => ⟨I1.kIn, ?_⟩) he hpl
  exact run_fn F hr hb hd hx I1 r q
theorem pe_meth {pl : Sem Bool} (he : PE X o ta) (c : Cls X.K C) (hm : Meth X.K C m f) (F : FnOk X.prog X.w X.K X.mg X.base CX k f fd ps sp) (hr : Room k X.A) (hb : Binds X.K fd ps ds) (hd : Vals dvs ds) (hx : Passes CX X E) (ha : PA X (e :: es) t)
    (hst : starEach (e :: es) X.env = (false, eval e X.env) :: starEach es X.env := by rfl) (hpl : (backTo pos (starEach es X.env)).any (·.1) = false := by rfl)
    (ht : eval (.Call (.Attribute o m apos) (e :: es) [] pos) X.env = (do
      let ov ← eval o X.env
      standAt apos.atName
      let (f, first) ← holding [ov] (getMethod ov m pl)
      callWith pos f first (backTo pos (starEach (e :: es) X.env)) (backToKw pos (keywordEach [] X.env))) := by rfl) :
    PE X (.Call (.Attribute o m apos) (e :: es) [] pos) (tMeth C m sp dvs E ta t) := by
  intro pins s σ H Q I h
  refine PySem.W.methodCall_KW (pl := pl) (thn (he pins s σ H _ I h) fun u s1 ⟨x, H1, I1, rx, a, dx, fs, ex, ea, l, q⟩ => ?_) ht
  subst ex
  obtain rfl : u = Value.ref a := rx
  refine getmeth_ok I1 ea c hm l ?_
  refine PySem.W.callWith_K (first := [.ref a]) (h₀ := X.base) I.ok.mod.kin hm.kp (thn (ha pos pins s1 σ H1 _ I1 q) fun us s2 ⟨vs, H2, I2, r, q2⟩ => ⟨I2.kIn, ?_⟩) hst hpl
  exact run_fn (us := .ref a :: us) (vs := .ref a :: vs) F hr hb hd hx I2 (.cons rfl r) q2
theorem pe_meth0 {pl : Sem Bool} (he : PE X o ta) (c : Cls X.K C) (hm : Meth X.K C m f) (F : FnOk X.prog X.w X.K X.mg X.base CX k f fd ps sp) (hr : Room k X.A) (hb : Binds X.K fd ps ds) (hd : Vals dvs ds) (hx : Passes CX X E)
    (ht : eval (.Call (.Attribute o m apos) [] [] pos) X.env = (do
      let ov ← eval o X.env
      standAt apos.atName
      let (f, first) ← holding [ov] (getMethod ov m pl)
      callWith pos f first (backTo pos (starEach [] X.env)) (backToKw pos (keywordEach [] X.env))) := by rfl) :
    PE X (.Call (.Attribute o m apos) [] [] pos) (tMeth C m sp dvs E ta tNil) := by
  intro pins s σ H Q I h
  refine PySem.W.methodCall_KW (pl := pl) (thn (he pins s σ H _ I h) fun u s1 ⟨x, H1, I1, rx, a, dx, fs, ex, ea, l, q⟩ => ?_) ht
  subst ex
  obtain rfl : u = Value.ref a := rx
  refine getmeth_ok I1 ea c hm l ?_
  exact PySem.W.callWith_K0 (first := [.ref a]) I1.kIn hm.kp (run_fn (us := [.ref a]) (vs := [.ref a]) F hr hb hd hx I1 (.cons rfl .nil) q)
structure Mk (K : PySem.W.Frag) (C f : Addr) : Prop where
  makes : PySem.W.makesIn K C = true
  init : PySem.W.findIn K (.ref C) "__init__" = some (some (.ref f))
  fn : PySem.W.isFn K (.ref f) = true
  kp : PySem.W.keepIn K (.ref C) = true
theorem run_make {pins : List (Addr × Obj)} {σ : St} {H : Hp} {s : Shared} {Q : VK} {us : List Value} {vs : List V} (M : Mk X.K C f) (F : FnOk X.prog X.w X.K X.mg X.base CX k f fd ps sp) (hr : Room (k + 1) X.A) (hb : Binds X.K fd ps ds) (hd : Vals dvs ds)
    (hx : Passes CX X E) (I : Inv X pins σ H s) (r : Vals vs us)
    (h : ∀ x dx, H x = none → H dx = none → dx ≠ x → sp (.ref x :: (vs ++ dvs)) (upd (upd H dx (.own x)) x (.ins C dx [])) (fun v H2 => v = .non ∧ Q (.ref x) H2) E) :
    wpAny (model X.prog X.w) X.A (call (.ref C) us) (EP X pins σ Q) X.xe s := by
  have hq := h (s.heap.objs.size + 1) s.heap.objs.size (I.hok.fresh (Nat.le_succ _)) (I.hok.fresh (Nat.le_refl _)) (Nat.ne_of_lt (Nat.lt_succ_self _))
  have I2 := Inv.made (C := C) I
  have r2 : Vals (V.ref (s.heap.objs.size + 1) :: (vs ++ dvs)) (Value.ref (s.heap.objs.size + 1) :: (us ++ ds)) := .cons rfl (r.append hd)
  have hl : (Value.ref (s.heap.objs.size + 1) :: us ++ ds).length = ps.length := by
    have e := r2.length
    rw [F.len _ _ _ _ hq] at e
    exact e.symm
  refine wpAny_call (make_map (f := f) I.kIn M.makes M.init (beq_iff_eq.mp M.fn) (codeAny_mono (F.run _ X.stack _ _ ⟨Value.ref (s.heap.objs.size + 1) :: us, []⟩ (Value.ref (s.heap.objs.size + 1) :: (us ++ ds)) _ _ E (hr.make C us [])
    (I2.env0.make C us []) (hb _ (Value.ref (s.heap.objs.size + 1) :: us) I2.kIn hl) r2 hq) fun r s' hq' => ?_))
  cases r with
  | error e => exact hx pins σ _ _ e s' I2 hq'
  | ok fl =>
    cases fl with
    | ret u =>
      obtain ⟨v, H', I3, rv, ev, q3⟩ := I2.after hq'
      subst ev
      exact ⟨rv, ⟨V.ref (s.heap.objs.size + 1), H', I3, rfl, q3⟩⟩
    | next => exact False.elim hq'
    | brk => exact False.elim hq'
    | cont => exact False.elim hq'
theorem pe_make (M : Mk X.K C f) (F : FnOk X.prog X.w X.K X.mg X.base CX k f fd ps sp) (hr : Room (k + 1) X.A) (hg : Gl X x) (hm : X.mg x = some (.ref C)) (hb : Binds X.K fd ps ds) (hd : Vals dvs ds) (hx : Passes CX X E)
    (ha : PA X (e :: es) t) (hdb : (x == ("__debug__" : Str)) = false := by decide) (he : starEach (e :: es) X.env = (false, eval e X.env) :: starEach es X.env := by rfl) (hpl : (backTo pos (starEach es X.env)).any (·.1) = false := by rfl) :
    PE X (.Call (.Name x p) (e :: es) [] pos) (tMake C sp dvs E t) := by
  intro pins s σ H Q I h
  refine wpAny_Call_Name_kw (ld_glob I hg hm ?_ hdb)
  refine PySem.W.callWith_K (h₀ := X.base) I.ok.mod.kin M.kp (thn (ha pos pins s σ H _ I h) fun us s1 ⟨vs, H1, I1, r, q⟩ => ⟨I1.kIn, ?_⟩) he hpl
  exact run_make M F hr hb hd hx I1 r q
end
section
variable {X : Cx} {CX : CXT} {k : Nat} {f C : Addr} {fd : FuncData} {ps ks : List Str} {sp : Sp} {E : XK} {x m : Str} {p pos apos kpos : Pos} {e o : Expr} {es : List Expr} {kws : List Keyword} {te ta : TE} {t tk : TA} {nm : Option Str}
structure KBinds (K : PySem.W.Frag) (fd : FuncData) (ps ks : List Str) (g : List Value → List Value → List Value) (gV : List V → List V → List V) : Prop where
  to : ∀ (s : Shared) (us ws : List Value), K.In s.heap → (g us ws).length = ps.length → BindsTo s fd ⟨us, ks.zip ws⟩ (ps.zip (g us ws))
  rel : ∀ {vs : List V} {us : List Value} {zs : List V} {ws : List Value}, Vals vs us → Vals zs ws → Vals (gV vs zs) (g us ws)
variable {g : List Value → List Value → List Value} {gV : List V → List V → List V}
end
structure FnScope (N P : List Str) (sc : Scope) : Prop where
  kind : sc.kind = .function
  co : sc.isCoroutine = false
  gen : sc.isGenerator = false
  nd : N.Nodup
  pre : N.take P.length = P
  par : ∀ x ∈ P, sc.names.lookup x = some .local ∨ sc.names.lookup x = some .cell
  nofree : ∀ y ∈ sc.names, y.2 ≠ .free
theorem bindL_out {kindOf : Str → Option NameKind} {x : Str} : ∀ {binds : List (Str × Value)} {m : Str → Option Value}, (∀ v, (x, v) ∉ binds) → bindL kindOf binds m x = m x
  | [], _, _ => rfl
  | (n, v) :: r, m, h => by
    unfold bindL
    rw [bindL_out fun w hw => h w (List.mem_cons_of_mem _ hw)]
    split
    · have : x ≠ n := by rintro rfl; exact h v List.mem_cons_self
      simp [this]
    · rfl
theorem bindC_out {kindOf : Str → Option NameKind} {x : Str} : ∀ {binds : List (Str × Value)} {m : Str → Option Value}, (∀ v, (x, v) ∉ binds) → bindC kindOf binds m x = m x
  | [], _, _ => rfl
  | (n, v) :: r, m, h => by
    unfold bindC
    rw [bindC_out fun w hw => h w (List.mem_cons_of_mem _ hw)]
    split
    · rfl
    · have : x ≠ n := by rintro rfl; exact h v List.mem_cons_self
      simp [this]
theorem bindL_get {kindOf : Str → Option NameKind} {x : Str} {v : Value} : ∀ {P : List Str} {vs : List Value} {i : Nat} {m : Str → Option Value}, P.Nodup → P[i]? = some x → vs[i]? = some v → kindOf x = some .local →
    bindL kindOf (P.zip vs) m x = some v
  | [], _, _, _, _, h, _, _ => by simp at h
  | _ :: _, [], _, _, _, _, h, _ => by simp at h
  | p :: P, w :: vs, 0, m, nd, h1, h2, hk => by
    simp at h1 h2; subst h1; subst h2
    show bindL kindOf ((p, w) :: P.zip vs) m p = _
    unfold bindL
    rw [bindL_out fun v hv => (List.nodup_cons.mp nd).1 (List.of_mem_zip hv).1, if_pos hk]
    simp
  | p :: P, w :: vs, i + 1, m, nd, h1, h2, hk => by
    show bindL kindOf ((p, w) :: P.zip vs) m x = _
    unfold bindL
    exact bindL_get (i := i) (List.nodup_cons.mp nd).2 (by simpa using h1) (by simpa using h2) hk
theorem bindC_get {kindOf : Str → Option NameKind} {x : Str} {v : Value} : ∀ {P : List Str} {vs : List Value} {i : Nat} {m : Str → Option Value}, P.Nodup → P[i]? = some x → vs[i]? = some v → kindOf x ≠ some .local →
    bindC kindOf (P.zip vs) m x = some v
  | [], _, _, _, _, h, _, _ => by simp at h
  | _ :: _, [], _, _, _, _, h, _ => by simp at h
  | p :: P, w :: vs, 0, m, nd, h1, h2, hk => by
    simp at h1 h2; subst h1; subst h2
    show bindC kindOf ((p, w) :: P.zip vs) m p = _
    unfold bindC
    rw [bindC_out fun v hv => (List.nodup_cons.mp nd).1 (List.of_mem_zip hv).1, if_neg hk]
    simp
  | p :: P, w :: vs, i + 1, m, nd, h1, h2, hk => by
    show bindC kindOf ((p, w) :: P.zip vs) m x = _
    unfold bindC
    exact bindC_get (i := i) (List.nodup_cons.mp nd).2 (by simpa using h1) (by simpa using h2) hk
def start (N : List Str) (vs : List V) : St := vs.map some ++ List.replicate (N.length - vs.length) none
def cxOf (CX : CXT) (P : Program) (w : World) (K : PySem.W.Frag) (mg : Str → Option Value) (base : Heap) (N : List Str) (qual : Str) (scope : Scope) (f : Addr) (cd : Value) (A : Around) (outer : List Env) (s : Shared) (H : Hp) (E : XK) (fn : Str → Bool := fun _ => true) : Cx where
  prog := P
  w := w
  K := K
  mg := mg
  base := base
  A := A.deeper (envOfC qual scope s.heap.objs.size f cd)
  N := N
  s₀ := s
  H₀ := H
  env := envOfC qual scope s.heap.objs.size f cd
  outer := outer
  stack := envOfC qual scope s.heap.objs.size f cd :: outer
  ex := []
  calm := true
  fn := fn
  pn := []
  xe := fun e s' => wpAny (model P w) (A.deeper (envOfC qual scope s.heap.objs.size f cd)) (leaving (envOfC qual scope s.heap.objs.size f cd) e) (fun _ s'' => CX outer H s E e s'') (fun e' s'' => CX outer H s E e' s'') s'
theorem cell_has {sc : Scope} {n : Nat} {x : Str} (h : sc.names.lookup x = some .cell) : ∃ c, (cellsFrom n sc.names []).lookup x = some c := by
  have q := PySem.W.cellsFrom_some sc.names n [] (.inl h)
  exact Option.isSome_iff_exists.mp q
theorem inv_start {CX : CXT} {P : Program} {w : World} {K : PySem.W.Frag} {mg : Str → Option Value} {base : Heap} {N ps : List Str} {qual : Str} {scope : Scope} {f : Addr} {cd : Value} {A : Around} {outer : List Env} {s s1 : Shared} {H : Hp} {E : XK} {us : List Value} {vs : List V} {fn : Str → Bool}
    (S : FnScope N ps scope) (hd : A.handled = none) (e0 : Env0 P w K mg base A outer s H) (hl : vs.length = ps.length) (r : Vals vs us)
    (x : InCallC s s.heap.objs.size (bindL (envOfC qual scope s.heap.objs.size f cd).kindOf (ps.zip us) fun _ => none) (cellsFrom (s.heap.objs.size + 1) scope.names []) (bindC (envOfC qual scope s.heap.objs.size f cd).kindOf (ps.zip us) fun _ => none) s1) :
    Inv (cxOf CX P w K mg base N qual scope f cd A outer s H E fn) [] (start N vs) H s1 := by
  have hpl : ps.length ≤ N.length := by have := congrArg List.length S.pre; rw [List.length_take] at this; omega
  obtain ⟨h1, tk, rfl, hk⟩ := x.done
  have noA : ∀ b : Addr, b ∉ (cxOf CX P w K mg base N qual scope f cd A outer s H E fn).ex := fun b z => absurd (show b ∈ ([] : List Addr) from z) (by simp)
  refine ⟨⟨e0.mod, S.kind, rfl, rfl, Nat.le_refl _, fun y z c h1 h2 => ?_, fun y hy => ?_, fun y c _ h => ?_, fun _ => hd, Around.frames_deeper e0.frames, .inr ⟨rfl, rfl⟩, fun b z => absurd z (noA b), e0.bs, e0.bsz, fun b _ _ => noA b, fun b z => absurd z (noA b), e0.funs, e0.frf⟩,
    rfl, e0.bare, Un.kept hk, ⟨_, x.toInCall.ns, fun i y v h1 h2 h3 => ?_⟩, fun y c h => ⟨_, x.cell y c h⟩, e0.hok.fresh (Nat.le_refl _), fun y c h => ?_, fun p hp => absurd (show p ∈ ([] : List (Addr × Obj)) from hp) (by simp), e0.hok.kept hk, ?_⟩
  · exact name_of_addr x.apart (PySem.mem_of_lookup h1) (PySem.mem_of_lookup h2)
  · have hy : scope.names.lookup y = some .cell ∨ scope.names.lookup y = some .free := hy
    rcases hy with hy | hy
    · exact cell_has hy
    · exact absurd rfl (S.nofree _ (PySem.mem_of_lookup hy))
  · exact Nat.le_of_lt (x.above y c (PySem.mem_of_lookup h))
  · have hi : i < vs.length := by
      unfold start at h2
      by_cases hi : i < vs.length
      · exact hi
      · rw [List.getElem?_append_right (by simpa using hi)] at h2
        rw [List.getElem?_replicate] at h2
        split at h2 <;> cases h2
    have ha : vs[i]? = some v := by
      unfold start at h2
      rw [List.getElem?_append_left (by simpa using hi), List.getElem?_map] at h2
      cases e : vs[i]? with
      | none => rw [e] at h2; cases h2
      | some a => rw [e] at h2; cases h2; rfl
    obtain ⟨u, hu, rv⟩ := r.get ha
    have hp : ps[i]? = some y := by
      rw [← S.pre, List.getElem?_take_of_lt (by omega)]; exact h1
    have ndP : ps.Nodup := by rw [← S.pre]; exact S.nd.sublist (List.take_sublist _ _)
    refine ⟨u, rv, ?_⟩
    rcases S.par y (List.mem_of_getElem? hp) with k | k
    · exact .inl ⟨k, bindL_get ndP hp hu k⟩
    · obtain ⟨c, e⟩ := cell_has (n := s.heap.objs.size + 1) k
      refine .inr ⟨.inl k, c, e, ?_⟩
      have q := x.cell y c e
      rw [bindC_get ndP hp hu (by show scope.names.lookup y ≠ _; rw [k]; decide)] at q
      exact q
  · have z := e0.hok.fresh (Nat.le_of_lt (x.above y c (PySem.mem_of_lookup h)))
    exact ⟨fun _ => z, .inl z⟩
  · unfold start
    show _ = N.length
    rw [List.length_append, List.length_map, List.length_replicate]
    omega
theorem fn_of {CX : CXT} {P : Program} {w : World} {K : PySem.W.Frag} {mg : Str → Option Value} {base : Heap} {k : Nat} {f : Addr} {name qual : Str} {params : Arguments} {body : List Stmt} {scope : Scope} {dV kV doc pm cdv ct oc : Value} {an od : Option Addr}
    {osl : Array (Option Value)} {N ps : List Str} {sp : Sp} (lk : K.lookup f = some ⟨oc, od, .func (PySem.W.fnOf name qual params body scope dV kV doc pm an cdv ct), osl⟩) (hcd : PySem.W.codeIn K cdv qual = true) (S : FnScope N ps scope)
    (len : ∀ vs H Q E, sp vs H Q E → vs.length = ps.length)
    (hbody : ∀ (A : Around) (outer : List Env) (s : Shared) (H : Hp) (vs : List V) (Q : VK) (E : XK), Room k (A.deeper (envOfC qual scope s.heap.objs.size f cdv)) → sp vs H Q E →
      ∃ t, PSs (cxOf CX P w K mg base N qual scope f cdv A outer s H E) body t ∧ t { nx := fun _ H' => Q .non H', rt := Q } (start N vs) H) :
    FnOk P w K mg base CX (k + 1) f (PySem.W.fnOf name qual params body scope dV kV doc pm an cdv ct) ps sp := by
  refine ⟨len, fun A outer s H args us vs Q E hr e0 hb r hsp => ?_⟩
  have hl := len _ _ _ _ hsp
  have KX : K.In s.heap := e0.mod.kin.keeps fun b o e => (e0.bs b o e).1
  have lim : s.heap.NoLimit := e0.mod.nolimit.keeps fun b o e => (e0.bs b o e).1
  have hkind : ∀ y ∈ ps.zip us, scope.names.lookup y.1 = some .local ∨ (scope.names.lookup y.1 = some .cell ∧ ((cellsFrom (s.heap.objs.size + 1) scope.names []).lookup y.1).isSome = true) := fun ⟨n, v⟩ hy => by
    rcases S.par n (List.of_mem_zip hy).1 with q | q
    · exact .inl q
    · exact .inr ⟨q, PySem.W.cellsFrom_some _ _ _ (.inl q)⟩
  refine codeAny_call_function hr.depth (KX _ _ lk) rfl S.co S.gen rfl (PySem.W.codeRec_of KX hcd) (hb _ _ _ _ ?_)
  refine wpAny_newFunctionEnv_cells S.kind hkind fun env he s1 x => ?_
  subst he
  refine ⟨lim.keeps x.toInCall.keep, codeAny_func ?_⟩
  obtain ⟨t, ht, hq⟩ := hbody A outer s H vs Q E (hr.deeper _) hsp
  have I : Inv (cxOf CX P w K mg base N qual scope f cdv A outer s H E) [] (start N vs) H s1 := inv_start S hr.hd e0 hl r x
  refine wpAny_mono (ht [] s1 (start N vs) H _ I hq) (fun fl s' hs => ?_) fun e s' hs => hs
  have fin : ∀ {σ' : St} {H' : Hp} {v : V} {u : Value}, Inv (cxOf CX P w K mg base N qual scope f cdv A outer s H E) [] σ' H' s' → RelV v u → Q v H' → CE outer P w H s Q u s' :=
    fun {σ' H' v u} J rv q => ⟨v, H', J.os, J.bare, J.base, J.hok, rv, q⟩
  cases fl with
  | ret u =>
    obtain ⟨v, σ', H', J, rv, q⟩ := hs
    exact fin J rv q
  | next =>
    obtain ⟨σ', H', J, q⟩ := hs
    exact fin (v := V.non) (u := Value.none) J rfl q
  | brk =>
    obtain ⟨_, _, _, q⟩ := hs
    exact False.elim q
  | cont =>
    obtain ⟨_, _, _, q⟩ := hs
    exact False.elim q
end L2
namespace L2
open PySem PySem.Spec PyProof.Rows
section
variable {X : Cx} {x : Str} {p pos : Pos} {e : Expr} {es : List Expr} {t : TA} {id T : String} {r : List V → Hp → VK → Prop}
def tCB (r : List V → Hp → VK → Prop) (t : TA) : TE := fun σ H Q => t σ H fun vs H1 => r vs H1 Q
theorem pe_callB (hc : CallR X (.builtin id) r) (hg : Gl X x) (hm : X.mg x = none) (hv : bootBuiltins x = some (.builtin id)) (ha : PA X (e :: es) t) (hn : x ≠ "__name__" := by decide) (hdb : (x == ("__debug__" : Str)) = false := by decide)
    (he : starEach (e :: es) X.env = (false, eval e X.env) :: starEach es X.env := by rfl) (hpl : (backTo pos (starEach es X.env)).any (·.1) = false := by rfl) : PE X (.Call (.Name x p) (e :: es) [] pos) (tCB r t) := by
  intro pins s σ H Q I h
  refine wpAny_Call_Name_kw (ld_blt I hg hm hv ?_ hn hdb)
  exact PyProof.Rows.callWith_builtin1 (thn (ha pos pins s σ H _ I h) fun us s1 ⟨vs, H1, I1, r1, q1⟩ => hc pins s1 σ H1 vs us Q I1 r1 q1) he hpl
theorem pe_callTy (hc : CallR X (.type T) r) (hg : Gl X x) (hm : X.mg x = none) (hv : bootBuiltins x = some (.type T)) (ha : PA X (e :: es) t) (hn : x ≠ "__name__" := by decide) (hdb : (x == ("__debug__" : Str)) = false := by decide)
    (he : starEach (e :: es) X.env = (false, eval e X.env) :: starEach es X.env := by rfl) (hpl : (backTo pos (starEach es X.env)).any (·.1) = false := by rfl) : PE X (.Call (.Name x p) (e :: es) [] pos) (tCB r t) := by
  intro pins s σ H Q I h
  refine wpAny_Call_Name_kw (ld_blt I hg hm hv ?_ hn hdb)
  exact PyProof.Rows.callWith_type1 (thn (ha pos pins s σ H _ I h) fun us s1 ⟨vs, H1, I1, r1, q1⟩ => hc pins s1 σ H1 vs us Q I1 r1 q1) he hpl
end
end L2
namespace HT
open PySem PyProof.Rows
section
open PySem.SeqAt
open PySem.AutoSeq1 (wpAny_loadPart')
open PySem.MeetsSeq PySem.MeetsSeq2 PySem.MeetsSeq3
end
section
variable {prog : Program} {w : World} {A : Around} {E : Value → Shared → Prop} {s : Shared}
def sIx (n d : Nat) : Option Int → Nat
  | none => d
  | some v => if v < 0 then (v + (n : Int)).toNat else min v.toNat n
theorem sIx_none (n d : Nat) : sIx n d none = d := rfl
theorem sIx_nat (n d k : Nat) : sIx n d (some (k : Int)) = min k n := by
  show (if (k : Int) < 0 then ((k : Int) + (n : Int)).toNat else min (k : Int).toNat n) = min k n
  rw [if_neg (by omega), Int.toNat_natCast]
end
end HT
namespace L2
open PySem PySem.Spec PyProof.Rows
abbrev TO := St → Hp → (Option Int → Hp → Prop) → Prop
def PO (X : Cx) (e : Option Expr) (t : TO) : Prop :=
  ∀ (pins : List (Addr × Obj)) (s : Shared) (σ : St) (H : Hp) (Q : Option Int → Hp → Prop), Inv X pins σ H s → t σ H Q →
    wpAny (model X.prog X.w) X.A (evalPart e X.env) (fun u s' => ∃ o H', Inv X pins σ H' s' ∧ IsPart u o ∧ Q o H') X.xe s
def tNoPart : TO := fun _ H Q => Q none H
def tPart (t : TE) : TO := fun σ H Q => t σ H fun x H1 => ∃ i, x = .int i ∧ Q (some i) H1
theorem intsAre_of {ns : List Int} : ∀ {us : List Value}, Vals (ns.map V.int) us → IntsAre us ns := by
  induction ns with
  | nil => intro us r; rw [List.map_nil] at r; cases r; exact .nil
  | cons n ns ih =>
    intro us r
    rw [List.map_cons] at r
    cases r with
    | cons r1 r2 =>
      obtain ⟨t, e⟩ := r1
      subst e
      exact .cons n t (ih r2)
section
variable {X : Cx} {e : Expr} {te : TE} {lo hi : Option Expr} {tl th : TO} {pos p2 : Pos}
theorem po_none : PO X none tNoPart := by
  intro pins s σ H Q I h
  rw [evalPart_none]
  exact wpAny_pure ⟨none, H, I, .none, h⟩
theorem po_some (h : PE X e te) : PO X (some e) (tPart te) := by
  intro pins s σ H Q I hw
  rw [evalPart_some]
  refine thn (h pins s σ H _ I hw) fun u s1 ⟨x, H1, I1, r1, q1⟩ => ?_
  obtain ⟨i, rfl, q⟩ := q1
  obtain ⟨t, rfl⟩ := r1
  exact ⟨some i, H1, I1, .int i t, q⟩
def SlR (X : Cx) (r : V → Option Int → Option Int → Hp → VK → Prop) : Prop :=
  ∀ (pins : List (Addr × Obj)) (s : Shared) (σ : St) (H : Hp) (x : V) (v vl vu : Value) (lo hi : Option Int) (sl : Addr) (Q : VK), Inv X pins σ H s → RelV x v → s.heap.IsSliceOf sl vl vu .none → IsPart vl lo → IsPart vu hi → r x lo hi H Q →
    ∃ T id, typeLookup (.type T) "__getitem__" = pure (some (.builtin id)) ∧ s.TypeIs v T ∧ wpAny (model X.prog X.w) X.A (getItem v (.ref sl)) (EP X pins σ Q) X.xe s
theorem SlR.or {r r' : V → Option Int → Option Int → Hp → VK → Prop} (h : SlR X r) (h' : SlR X r') : SlR X (fun x lo hi H Q => r x lo hi H Q ∨ r' x lo hi H Q) := by
  intro pins s σ H x v vl vu lo hi sl Q I rx hs pl pu q
  rcases q with q | q
  · exact h pins s σ H x v vl vu lo hi sl Q I rx hs pl pu q
  · exact h' pins s σ H x v vl vu lo hi sl Q I rx hs pl pu q
def tSl (r : V → Option Int → Option Int → Hp → VK → Prop) (te : TE) (tl th : TO) : TE := fun σ H Q => te σ H fun x H1 => tl σ H1 fun l H2 => th σ H2 fun u H3 => r x l u H3 Q
theorem pe_slice {r : V → Option Int → Option Int → Hp → VK → Prop} (hr : SlR X r) (he : PE X e te) (hl : PO X lo tl) (hu : PO X hi th) : PE X (.Subscript e (.Slice lo hi none p2) pos) (tSl r te tl th) := by
  intro pins s σ H Q I h
  refine Subscript_ (thn (he pins s σ H _ I h) fun v s1 ⟨x, H1, I1, r1, q1⟩ => ?_)
  refine wpAny_Slice (thn (hl pins s1 σ H1 _ I1 q1) fun vl s2 ⟨l, H2, I2, pl, q2⟩ => thn (hu pins s2 σ H2 _ I2 q2) fun vu s3 ⟨u, H3, I3, pu, q3⟩ => ?_)
  rw [evalPart_none]
  refine wpAny_pure ?_
  have I4 : Inv X pins σ H3 { s3 with heap := s3.heap.push { cls := .type "slice", data := .fields #[vl, vu, .none] } } := I3.kept (t' := s3.toks) fun b ob q => Heap.get?_push_of_some _ q
  obtain ⟨T, id, hT, ht, hg⟩ := hr pins { s3 with heap := s3.heap.push { cls := .type "slice", data := .fields #[vl, vu, .none] } } σ H3 x v vl vu l u s3.heap.objs.size Q I4 r1 (Heap.IsSliceOf.new ..) pl pu q3
  show wpAny (model X.prog X.w) X.A (subscriptTail e (.Slice lo hi none p2) v (.ref s3.heap.objs.size)) (EP X pins σ Q) X.xe { s3 with heap := s3.heap.push { cls := .type "slice", data := .fields #[vl, vu, .none] } }
  exact tail_any (ops := [.ref s3.heap.objs.size, v]) ht hT hg (by with_unfolding_all rfl)
def cutV (xs : List V) (lo hi : Option Int) : List V := (xs.drop (HT.sIx xs.length 0 lo)).take (HT.sIx xs.length xs.length hi - HT.sIx xs.length 0 lo)
theorem cutV_length (xs : List V) (lo hi : Option Int) : (cutV xs lo hi).length ≤ xs.length := by
  unfold cutV
  rw [List.length_take, List.length_drop]
  omega
end
end L2
namespace L2
open PySem PySem.Spec PyProof.Rows
def ixN (n : Nat) (i : Int) : Option Nat := if 0 ≤ i then (if i < n then some i.toNat else none) else if -(n : Int) ≤ i then some (i + n).toNat else none
def atI {α : Type} (xs : List α) (i : Int) : Option α := (ixN xs.length i).bind fun j => xs[j]?
theorem ixN_seq {n : Nat} {i : Int} {j : Nat} (h : ixN n i = some j) : seqIndex? i n = some j ∧ j < n ∧ -(n : Int) ≤ i ∧ i < n := by
  unfold ixN at h
  by_cases h0 : 0 ≤ i
  · rw [if_pos h0] at h
    by_cases h1 : i < n
    · rw [if_pos h1] at h
      have e : i.toNat = j := Option.some.inj h
      exact ⟨by rw [seqIndex_of h0 h1, e], by omega, by omega, h1⟩
    · rw [if_neg h1] at h; cases h
  · rw [if_neg h0] at h
    by_cases h1 : -(n : Int) ≤ i
    · rw [if_pos h1] at h
      have e : (i + n).toNat = j := Option.some.inj h
      exact ⟨by rw [seqIndex_neg (by omega) h1, e], by omega, h1, by omega⟩
    · rw [if_neg h1] at h; cases h
theorem atI_get {α : Type} {xs : List α} {i : Int} {v : α} (h : atI xs i = some v) : ∃ j, seqIndex? i xs.length = some j ∧ xs[j]? = some v ∧ j < xs.length ∧ -(xs.length : Int) ≤ i ∧ i < xs.length := by
  unfold atI at h
  cases e : ixN xs.length i with
  | none => rw [e] at h; cases h
  | some j =>
    rw [e] at h
    obtain ⟨h1, h2, h3, h4⟩ := ixN_seq e
    exact ⟨j, h1, h, h2, h3, h4⟩
theorem atI_nat {α : Type} {xs : List α} {j : Nat} {v : α} (h : xs[j]? = some v) : atI xs (j : Int) = some v := by
  have hj : j < xs.length := (List.getElem?_eq_some_iff.mp h).1
  have e : ixN xs.length (j : Int) = some j := by
    unfold ixN
    rw [if_pos (by omega), if_pos (by omega)]; simp
  unfold atI; rw [e]; exact h
def PlainIx (b : Expr) : Prop := ∀ o i, subscripted b false o i = operate [o, i] (getItem o i)
def IxR (X : Cx) (r : R2) : Prop :=
  ∀ (value slice : Expr) (pins : List (Addr × Obj)) (s : Shared) (σ : St) (H : Hp) (x y : V) (v u : Value) (Q : VK), Inv X pins σ H s → RelV x v → RelV y u → r x y H Q →
    subscripted slice false v u = operate [v, u] (getItem v u) → wpAny (model X.prog X.w) X.A (subscriptTail value slice v u) (EP X pins σ Q) X.xe s
def MtR (X : Cx) (id : String) (r : V → List V → Hp → VK → Prop) : Prop :=
  ∀ (pins : List (Addr × Obj)) (s : Shared) (σ : St) (H : Hp) (x : V) (xs : List V) (v : Value) (us : List Value) (Q : VK), Inv X pins σ H s → RelV x v → Vals xs us → r x xs H Q →
    wpAny (model X.prog X.w) X.A (call (.builtin id) (v :: us)) (EP X pins σ Q) X.xe s
section
variable {X : Cx} {a b : Expr} {ta tb : TE} {pos : Pos}
theorem IxR.or {r r' : R2} (h : IxR X r) (h' : IxR X r') : IxR X (fun x y H Q => r x y H Q ∨ r' x y H Q) := by
  intro value slice pins s σ H x y v u Q I rx ry q hs
  rcases q with q | q
  · exact h value slice pins s σ H x y v u Q I rx ry q hs
  · exact h' value slice pins s σ H x y v u Q I rx ry q hs
theorem MtR.or {id : String} {r r' : V → List V → Hp → VK → Prop} (h : MtR X id r) (h' : MtR X id r') : MtR X id (fun x xs H Q => r x xs H Q ∨ r' x xs H Q) := by
  intro pins s σ H x xs v us Q I rx rs q
  rcases q with q | q
  · exact h pins s σ H x xs v us Q I rx rs q
  · exact h' pins s σ H x xs v us Q I rx rs q
theorem pe_ix {r : R2} (hr : IxR X r) (ha : PE X a ta) (hb : PE X b tb) (hs : PlainIx b) : PE X (.Subscript a b pos) (tOp r ta tb) := by
  intro pins s σ H Q I h
  exact Subscript_ (binT ha hb I h fun v u s2 x y H2 I2 rx ry q => hr a b pins s2 σ H2 x y v u Q I2 rx ry q (hs _ _))
def rIxL (K : PySem.W.Frag) : R2 := fun x y H Q => ∃ p xs i v, x = .ref p ∧ y = .int i ∧ SqL K H p xs ∧ atI xs i = some v ∧ Q v H
theorem ix_list : IxR X (rIxL X.K) := by
  intro value slice pins s σ H x y v u Q I rx ry h hs
  obtain ⟨p, xs, i, z, rfl, rfl, hq, he, q⟩ := h
  cases rx
  obtain ⟨t, rfl⟩ := ry
  obtain ⟨its, r, pl, hz⟩ := I.list hq
  obtain ⟨j, h1, h2, h3, h4, h5⟩ := atI_get he
  obtain ⟨w, ew, rw'⟩ := r.get h2
  have hl := r.length
  have hn := line63
  have fin : EP X pins σ Q w s := ⟨z, H, I, rw', q⟩
  by_cases h0 : 0 ≤ i
  · have hj : i.toNat = j := by
      rw [seqIndex_of h0 h5] at h1
      exact Option.some.inj h1
    exact item_listR pl.isList h0 (by omega) (by rw [hj]; simpa using ew) fin hs
  · have hj : (i + (its.toArray.size : Int)).toNat = j := by
      rw [seqIndex_neg (by omega) h4] at h1
      rw [List.size_toArray, ← hl]
      exact Option.some.inj h1
    exact subscriptTail_builtinR (x := w) pl.isList.typeIs slot_list_getitem.lookup
      (wpAny_getItem_list_neg (Q := fun r s' => r = w ∧ EP X pins σ Q r s') pl.isList (by omega) (by rw [List.size_toArray] <;> omega) (by omega) (by rw [hj]; simpa using ew) ⟨rfl, fin⟩) hs
theorem Inv.lst {pins : List (Addr × Obj)} {σ : St} {H : Hp} {s : Shared} {p : Addr} {xs : List V} (I : Inv X pins σ H s) (h : H p = some (.lst xs)) :
    ∃ (its : List Value) (n : Nat), Vals xs its ∧ s.heap.get? p = some { cls := .type "list", data := .seq its.toArray n } ∧ xs.length ≤ sizeLine := by
  obtain ⟨z, its, n, r, e⟩ := I.hok p _ h
  exact ⟨its, n, r, e, z⟩
theorem slice_bounds (lo hi : Option Int) (n : Nat) : (sliceBounds lo hi none n).1 = ((HT.sIx n 0 lo : Nat) : Int) ∧ (sliceBounds lo hi none n).2.1 = ((HT.sIx n n hi : Nat) : Int) ∧ (sliceBounds lo hi none n).2.2 = 1 := by
  refine ⟨?_, ?_, rfl⟩
  · cases lo with
    | none => simp [sliceBounds, HT.sIx]
    | some i =>
      simp only [sliceBounds, HT.sIx, Option.getD_none, show (1 : Int) > 0 by decide, if_true]
      by_cases h : i < 0
      · simp only [h, if_true] <;> omega
      · simp only [h, if_false] <;> omega
  · cases hi with
    | none => simp [sliceBounds, HT.sIx]
    | some i =>
      simp only [sliceBounds, HT.sIx, Option.getD_none, show (1 : Int) > 0 by decide, if_true]
      by_cases h : i < 0
      · simp only [h, if_true] <;> omega
      · simp only [h, if_false] <;> omega
theorem slicePick_cut (its : List Value) (lo hi : Option Int) : slicePick its.toArray lo hi none = ((its.drop (HT.sIx its.length 0 lo)).take (HT.sIx its.length its.length hi - HT.sIx its.length 0 lo)).toArray := by
  obtain ⟨h1, h2, h3⟩ := slice_bounds lo hi its.toArray.size
  unfold slicePick
  rw [h1, h2, h3]
  simp only [sliceRange_one, pick_run, List.size_toArray] <;> rfl
def rSlL (K : PySem.W.Frag) : V → Option Int → Option Int → Hp → VK → Prop := fun x lo hi H Q => ∃ a xs, x = .ref a ∧ SqL K H a xs ∧ ∀ p, H p = none → Q (.ref p) (upd H p (.lst (cutV xs lo hi)))
theorem sl_list : SlR X (rSlL X.K) := by
  intro pins s σ H x v vl vu lo hi sl Q I rx hs pl pu h
  obtain ⟨a, xs, rfl, hx, q⟩ := h
  cases rx
  obtain ⟨its, r, ht, hz⟩ := I.list hx
  have hlen := r.length
  refine ⟨"list", _, slot_list_getitem.lookup, ht.isList.typeIs, ?_⟩
  refine wpAny_getItem_list_slice ht.isList hs pl pu .none (by simp) ?_ (by rw [List.size_toArray] <;> omega)
  rw [slicePick_cut, ← hlen]
  refine ⟨.ref s.heap.objs.size, _, I.laid (t' := s.toks) (o := .lst (cutV xs lo hi)) (fun b ob q => Heap.get?_push_of_some _ q) (Nat.le_refl _) ?_, rfl, q _ (I.hok.fresh (Nat.le_refl _))⟩
  exact ⟨Nat.le_trans (cutV_length xs lo hi) hz, _, 0, (r.drop (HT.sIx xs.length 0 lo)).take (HT.sIx xs.length xs.length hi - HT.sIx xs.length 0 lo), Heap.get?_push_size _ rfl⟩
def flatV : V → Bool
  | .non => true
  | .bl _ => true
  | .int _ => true
  | .str _ => true
  | _ => false
def eqV : V → V → Bool
  | .non, .non => true
  | .bl a, .bl b => a == b
  | .bl a, .int b => (if a then 1 else 0) == b
  | .int a, .bl b => a == (if b then 1 else 0)
  | .int a, .int b => a == b
  | .str a, .str b => a == b
  | _, _ => false
theorem eqAt_V {A : Around} {s : Shared} {y x : V} {u v : Value} (ry : RelV y u) (rx : RelV x v) (fy : flatV y = true) (fx : flatV x = true) : SeqAt.EqAt A s u v (eqV y x) := by
  cases y with
  | non =>
    cases ry
    cases x with
    | non => cases rx; exact SeqAt.EqAt.same _
    | bl b => cases rx; exact SeqAt.EqAt.none_bool b
    | int b => obtain ⟨t, rfl⟩ := rx; exact SeqAt.EqAt.none_int b t
    | str b => obtain ⟨t, rfl⟩ := rx; exact SeqAt.EqAt.none_str b t
    | _ => exact absurd (show false = true from fx) Bool.false_ne_true
  | bl a =>
    cases ry
    cases x with
    | non => cases rx; exact SeqAt.EqAt.bool_none a
    | bl b => cases rx; exact SeqAt.EqAt.bool_bool a b
    | int b => obtain ⟨t, rfl⟩ := rx; exact SeqAt.EqAt.bool_int a b t
    | str b => obtain ⟨t, rfl⟩ := rx; exact SeqAt.EqAt.bool_str a b t
    | _ => exact absurd (show false = true from fx) Bool.false_ne_true
  | int a =>
    obtain ⟨t', rfl⟩ := ry
    cases x with
    | non => cases rx; exact SeqAt.EqAt.int_none a t'
    | bl b => cases rx; exact SeqAt.EqAt.int_bool a t' b
    | int b => obtain ⟨t, rfl⟩ := rx; exact SeqAt.EqAt.int_int a t' b t
    | str b => obtain ⟨t, rfl⟩ := rx; exact SeqAt.EqAt.int_str a t' b t
    | _ => exact absurd (show false = true from fx) Bool.false_ne_true
  | str a =>
    obtain ⟨t', rfl⟩ := ry
    cases x with
    | non => cases rx; exact SeqAt.EqAt.str_none a t'
    | bl b => cases rx; exact SeqAt.EqAt.str_bool a t' b
    | int b => obtain ⟨t, rfl⟩ := rx; exact SeqAt.EqAt.str_int a t' b t
    | str b => obtain ⟨t, rfl⟩ := rx; exact SeqAt.EqAt.str_str a t' b t
    | _ => exact absurd (show false = true from fx) Bool.false_ne_true
  | _ => exact absurd (show false = true from fy) Bool.false_ne_true
def eqU (x : V) (u : Value) : Bool := match u with
  | .none => eqV .non x
  | .bool b => eqV (.bl b) x
  | .int i _ => eqV (.int i) x
  | .str z _ => eqV (.str z) x
  | _ => false
theorem eqU_of {x y : V} {u : Value} (r : RelV y u) (f : flatV y = true) : eqU x u = eqV y x := by
  cases y with
  | non => cases r; rfl
  | bl b => cases r; rfl
  | int i => obtain ⟨t, rfl⟩ := r; rfl
  | str z => obtain ⟨t, rfl⟩ := r; rfl
  | _ => exact absurd (show false = true from f) Bool.false_ne_true
theorem any_eqU {x : V} : ∀ {xs : List V} {us : List Value}, Vals xs us → xs.all flatV = true → us.any (eqU x) = xs.any fun y => eqV y x
  | _, _, .nil, _ => rfl
  | y :: xs, u :: us, .cons r t, f => by
    rw [List.all_cons, Bool.and_eq_true] at f
    rw [List.any_cons, List.any_cons, eqU_of r f.1, any_eqU t f.2]
theorem mem_eqAt {A : Around} {s : Shared} {x : V} {v : Value} (rx : RelV x v) (fx : flatV x = true) : ∀ {xs : List V} {us : List Value}, Vals xs us → xs.all flatV = true → ∀ u ∈ us, SeqAt.EqAt A s u v (eqU x u)
  | _, _, .nil, _ => fun u hu => by cases hu
  | y :: xs, u :: us, .cons r t, f => fun u' hu => by
    rw [List.all_cons, Bool.and_eq_true] at f
    rcases List.mem_cons.mp hu with rfl | hu
    · rw [eqU_of r f.1]; exact eqAt_V r rx f.1 fx
    · exact mem_eqAt rx fx t f.2 u' hu
def inV (x : V) (xs : List V) : Bool := xs.any fun y => eqV y x
def rIn (K : PySem.W.Frag) (neg : Bool) : R2 := fun x y H Q => ∃ p xs, y = .ref p ∧ (SqL K H p xs ∨ SqT K H p xs) ∧ flatV x = true ∧ xs.all flatV = true ∧ Q (.bl (if neg then !inV x xs else inV x xs)) H
theorem op_in_seq : OpR X (compareOp .In) (rIn X.K false) := by
  intro pins s σ H x y v u Q I rx ry h
  obtain ⟨p, xs, rfl, hq, fx, fs, q⟩ := h
  cases ry
  rcases hq with hq | hq
  · obtain ⟨its, r, pl, hz⟩ := I.list hq
    refine SeqAt.in_listAt (eqU x) pl.isList (fun w hw => mem_eqAt rx fx r fs w (by simpa using hw)) ⟨.bl _, H, I, rfl, ?_⟩
    rw [show its.toArray.any (eqU x) = its.any (eqU x) by simp, any_eqU r fs]
    exact q
  · obtain ⟨its, r, pl, hz⟩ := I.tuple hq
    refine SeqAt.in_tupleAt (eqU x) pl (fun w hw => mem_eqAt rx fx r fs w (by simpa using hw)) ⟨.bl _, H, I, rfl, ?_⟩
    rw [show its.toArray.any (eqU x) = its.any (eqU x) by simp, any_eqU r fs]
    exact q
theorem op_notIn_seq : OpR X (compareOp .NotIn) (rIn X.K true) := by
  intro pins s σ H x y v u Q I rx ry h
  obtain ⟨p, xs, rfl, hq, fx, fs, q⟩ := h
  cases ry
  rcases hq with hq | hq
  · obtain ⟨its, r, pl, hz⟩ := I.list hq
    refine SeqAt.notIn_listAt (eqU x) pl.isList (fun w hw => mem_eqAt rx fx r fs w (by simpa using hw)) ⟨.bl _, H, I, rfl, ?_⟩
    rw [show its.toArray.any (eqU x) = its.any (eqU x) by simp, any_eqU r fs]
    exact q
  · obtain ⟨its, r, pl, hz⟩ := I.tuple hq
    refine SeqAt.notIn_tupleAt (eqU x) pl (fun w hw => mem_eqAt rx fx r fs w (by simpa using hw)) ⟨.bl _, H, I, rfl, ?_⟩
    rw [show its.toArray.any (eqU x) = its.any (eqU x) by simp, any_eqU r fs]
    exact q
theorem call_len_seq : CallR X (.builtin "len") (fun xs H Q => ∃ p ys, xs = [.ref p] ∧ (SqL X.K H p ys ∨ SqT X.K H p ys) ∧ Q (.int ys.length) H) := by
  intro pins s σ H xs us Q I r h
  obtain ⟨p, ys, rfl, hq, q⟩ := h
  obtain ⟨u, rfl, rx⟩ := vals1 r
  cases rx
  have hn := line63
  rcases hq with hq | hq
  · obtain ⟨its, r', pl, hz⟩ := I.list hq
    have hlen := r'.length
    exact Calls.call_len_list pl.isList (by simp only [List.size_toArray] <;> omega) ⟨.int ys.length, H, I.tok _, ⟨s.toks + 1, by rw [List.size_toArray, hlen]⟩, q⟩
  · obtain ⟨its, r', pl, hz⟩ := I.tuple hq
    have hlen := r'.length
    exact len_tuple pl (by simp only [List.size_toArray] <;> omega) ⟨.int ys.length, H, I.tok _, ⟨s.toks + 1, by rw [List.size_toArray, hlen]⟩, q⟩
theorem CallR.or {f : Value} {r r' : List V → Hp → VK → Prop} (h : CallR X f r) (h' : CallR X f r') : CallR X f (fun xs H Q => r xs H Q ∨ r' xs H Q) := by
  intro pins s σ H xs us Q I rs q
  rcases q with q | q
  · exact h pins s σ H xs us Q I rs q
  · exact h' pins s σ H xs us Q I rs q
theorem call_list_of : CallR X (.type "list") (fun xs H Q => ∃ p ys, xs = [.ref p] ∧ (SqL X.K H p ys ∨ SqT X.K H p ys) ∧ ∀ l, H l = none → Q (.ref l) (upd H l (.lst ys))) := by
  intro pins s σ H xs us Q I r h
  obtain ⟨p, ys, rfl, hq, q⟩ := h
  obtain ⟨u, rfl, rx⟩ := vals1 r
  cases rx
  have fin : ∀ (its : List Value), Vals ys its → ys.length ≤ sizeLine → ∀ (h' : Heap) (c' : Nat), (∀ b o', s.heap.get? b = some o' → h'.get? b = some o') →
      h'.get? s.heap.objs.size = some { cls := .type "list", dict := none, data := .seq its.toArray c', slots := #[] } → EP X pins σ Q (.ref s.heap.objs.size) { s with heap := h' } := fun its r' hz h' c' kp e =>
    ⟨.ref s.heap.objs.size, _, I.laid (t' := s.toks) kp (Nat.le_refl _) (show ObjOk X.prog X.w _ h' _ (.lst ys) from ⟨hz, its, c', r', e⟩), rfl, q _ (I.hok.fresh (Nat.le_refl _))⟩
  rcases hq with hq | hq
  · obtain ⟨its, r', pl, hz⟩ := I.list hq
    have hlen := r'.length
    obtain ⟨o, ho, hc, n, hd⟩ := pl.isList
    exact call_list_seq p (.inl rfl) ho hc hd (fun h' c' kp e => fin its r' hz h' c' kp e) (by simp only [List.size_toArray] <;> omega)
  · obtain ⟨its, r', pl, hz⟩ := I.tuple hq
    have hlen := r'.length
    obtain ⟨o, ho, hc, n, hd⟩ := pl
    exact call_list_seq p (.inr rfl) ho hc hd (fun h' c' kp e => fin its r' hz h' c' kp e) (by simp only [List.size_toArray] <;> omega)
def tyV (K : PySem.W.Frag) (T : String) (x : V) (H : Hp) : Prop := match x with
  | .str _ => T = "str"
  | .int _ => T = "int"
  | .ref p => (T = "list" ∧ ∃ xs, SqL K H p xs) ∨ (T = "tuple" ∧ ∃ o, K.lookup p = some o ∧ o.cls = .type "tuple" ∧ o.dict = none) ∨
      (T = "dict" ∧ ((∃ kvs, H p = some (.dK kvs)) ∨ ∃ kvs, H p = some (.dT kvs))) ∨ (T = "set" ∧ ∃ S n, H p = some (.set S n))
  | _ => False
theorem tyV_is {pins : List (Addr × Obj)} {σ : St} {H : Hp} {s : Shared} {T : String} {x : V} {v : Value} (I : Inv X pins σ H s) (r : RelV x v) (ty : tyV X.K T x H) :
    s.TypeIs v T ∧ ∀ a, v = .ref a → ∃ ob, s.heap.get? a = some ob ∧ ob.dict = none := by
  cases x with
  | str z =>
    obtain ⟨t, rfl⟩ := r
    cases (show T = "str" from ty)
    exact ⟨typeIs_str s z t, fun _ e => nomatch e⟩
  | int i =>
    obtain ⟨t, rfl⟩ := r
    cases (show T = "int" from ty)
    exact ⟨typeIs_int s i t, fun _ e => nomatch e⟩
  | ref p =>
    cases r
    rcases ty with ⟨rfl, xs, hq⟩ | ⟨rfl, o, hk, hc, hd⟩ | ⟨rfl, hk⟩ | ⟨rfl, S, n, hk⟩
    · obtain ⟨its, _, pl, _⟩ := I.list hq
      refine ⟨pl.isList.typeIs, fun a e => ?_⟩
      cases e
      obtain ⟨o, n, e, c, hd, _⟩ := pl
      exact ⟨o, e, hd⟩
    · refine ⟨⟨o, I.kIn p o hk, hc⟩, fun a e => ?_⟩
      cases e
      exact ⟨o, I.kIn _ o hk, hd⟩
    · have z : ∃ o, s.heap.get? p = some o ∧ o.ExactDict := by
        rcases hk with ⟨kvs, hk⟩ | ⟨kvs, hk⟩
        · obtain ⟨_, _, _, _, o, _, _, e, ex, _⟩ := I.hok p _ hk
          exact ⟨o, e, ex⟩
        · obtain ⟨_, _, _, _, o, _, _, e, ex, _⟩ := I.hok p _ hk
          exact ⟨o, e, ex⟩
      obtain ⟨o, e, ex⟩ := z
      refine ⟨⟨o, e, ex.1⟩, fun a e2 => ?_⟩
      cases e2
      exact ⟨o, e, ex.2.1⟩
    · obtain ⟨o, _, _, _, e, ex, _⟩ := I.hok p _ hk
      refine ⟨⟨o, e, ex.1⟩, fun a e2 => ?_⟩
      cases e2
      exact ⟨o, e, ex.2.1⟩
  | _ => exact False.elim ty
def tBM0 (K : PySem.W.Frag) (T : String) (r : V → List V → Hp → VK → Prop) (to : TE) : TE := fun σ H Q => to σ H fun x H1 => tyV K T x H1 ∧ r x [] H1 Q
def tBM (K : PySem.W.Frag) (T : String) (r : V → List V → Hp → VK → Prop) (to : TE) (t : TA) : TE := fun σ H Q => to σ H fun x H1 => tyV K T x H1 ∧ t σ H1 fun xs H2 => r x xs H2 Q
variable {o e : Expr} {es : List Expr} {to : TE} {t : TA} {name : Str} {apos cpos : Pos} {T id : String} {r : V → List V → Hp → VK → Prop}
theorem pe_bm0 (pa : PlainAttrs T) (slot : Slot T name id) (hty : typeOf (.builtin id) = pure (.type "method_descriptor")) (hm : MtR X id r) (ho : PE X o to)
    (hbase : attributeBase o name X.env (eval o X.env) = eval o X.env := by rfl) (hline : (apos.endLine == cpos.line) = true := by rfl) : PE X (.Call (.Attribute o name apos) [] [] cpos) (tBM0 X.K T r to) := by
  intro pins s σ H Q I h
  refine wpAny_Call_method0_late hbase hline (thn (ho pins s σ H _ I h) fun v s1 ⟨x, H1, I1, r1, ty, q1⟩ => ?_)
  obtain ⟨h1, h2⟩ := tyV_is I1 r1 ty
  exact ⟨T, id, pa, slot, hty, h1, h2, Calls.callWith_builtin rfl (PySem.evalArgs_none (hm pins s1 σ H1 x [] v [] Q I1 r1 .nil q1))⟩
theorem pe_bm (pa : PlainAttrs T) (slot : Slot T name id) (hty : typeOf (.builtin id) = pure (.type "method_descriptor")) (hm : MtR X id r) (ho : PE X o to) (ha : PA X (e :: es) t)
    (hbase : attributeBase o name X.env (eval o X.env) = eval o X.env := by rfl)
    (hfew : ((backTo cpos (starEach (e :: es) X.env)).all (fun x => !x.1) && (backToKw cpos (keywordEach [] X.env)).all (fun x => x.1.isSome)
      && decide ((e :: es).length + ([] : List Keyword).length + (if ([] : List Keyword).isEmpty then 0 else 1) < 30)) = true := by rfl)
    (hline : (apos.endLine == cpos.line) = true := by rfl) (hs : starEach (e :: es) X.env = (false, eval e X.env) :: starEach es X.env := by rfl) (hplain : (backTo cpos (starEach es X.env)).any (·.1) = false := by rfl) :
    PE X (.Call (.Attribute o name apos) (e :: es) [] cpos) (tBM X.K T r to t) := by
  intro pins s σ H Q I h
  refine wpAny_Call_method_late hbase hfew hline rfl (thn (ho pins s σ H _ I h) fun v s1 ⟨x, H1, I1, r1, ty, q1⟩ => ?_)
  obtain ⟨h1, h2⟩ := tyV_is I1 r1 ty
  refine ⟨T, id, pa, slot, hty, h1, h2, ?_⟩
  have hA := ha cpos pins s1 σ H1 _ I1 q1
  rw [hs] at hA ⊢
  refine Calls.callWith_builtin (by show (false || (backTo cpos (starEach es X.env)).any (·.1)) = false; rw [hplain] <;> rfl) (Calls.evalArgs_plain ?_)
  exact thn hA fun us s2 ⟨vs, H2, I2, r2, q2⟩ => hm pins s2 σ H2 x vs v us Q I2 r1 r2 q2
end
end L2
namespace L2
open PySem PySem.Spec PyProof.Rows
def MtM (X : Cx) (id : String) (r : V → List V → Hp → VK → Prop) : Prop :=
  ∀ (pins : List (Addr × Obj)) (s : Shared) (σ : St) (H : Hp) (x : V) (xs : List V) (v : Value) (us : List Value) (Q : VK), Inv X pins σ H s → RelV x v → Vals xs us → r x xs H Q →
    wpAny (model X.prog X.w) X.A (call (.builtin id) (v :: us)) (EP X pins σ Q) X.xe s
theorem Vals.one : ∀ {x : V} {us : List Value}, Vals [x] us → ∃ u, us = [u] ∧ RelV x u
  | _, _, .cons r .nil => ⟨_, rfl, r⟩
theorem Vals.zero : ∀ {us : List Value}, Vals [] us → us = []
  | _, .nil => rfl
theorem Vals.dropLast {xs : List V} {us : List Value} (h : Vals xs us) : Vals xs.dropLast us.dropLast := by
  induction h with
  | nil => exact .nil
  | cons r t ih =>
    cases t with
    | nil => exact .nil
    | cons q t' => exact .cons r ih
theorem Vals.eraseIdx : ∀ {xs : List V} {us : List Value} (i : Nat), Vals xs us → Vals (xs.eraseIdx i) (us.eraseIdx i)
  | _, _, _, .nil => .nil
  | _, _, 0, .cons _ t => t
  | _, _, i + 1, .cons r t => .cons r (Vals.eraseIdx i t)
theorem Vals.reverse {xs : List V} {us : List Value} (h : Vals xs us) : Vals xs.reverse us.reverse := by
  induction h with
  | nil => exact .nil
  | cons r t ih => rw [List.reverse_cons, List.reverse_cons]; exact Vals.append ih (.cons r .nil)
theorem erase_last {α : Type} (l : List α) : l.eraseIdx (l.length - 1) = l.dropLast := by
  induction l with
  | nil => rfl
  | cons a r ih =>
    cases r with
    | nil => rfl
    | cons b r =>
      have e : (a :: b :: r).length - 1 = ((b :: r).length - 1) + 1 := by
        have h1 : (a :: b :: r).length = r.length + 2 := rfl
        have h2 : (b :: r).length = r.length + 1 := rfl
        omega
      rw [e, List.eraseIdx_cons_succ, ih]
      all_goals rfl
section
variable {X : Cx} {pins : List (Addr × Obj)} {σ : St} {H : Hp} {s : Shared} {l b : Addr} {xs ys zs : List V}
theorem Inv.lset {its its' : List Value} {n : Nat} {f : Array Value → Array Value} {t' : Nat} (I : Inv X pins σ H s) (hH : H l = some (.lst xs))
    (e : s.heap.get? l = some { cls := .type "list", data := .seq its.toArray n }) (hf : f its.toArray = its'.toArray) (hv : Vals ys its') (hz : ys.length ≤ sizeLine) :
    Inv X pins σ (upd H l (.lst ys)) { s with heap := s.heap.update l (Obj.mapSeq f), toks := t' } := by
  have q := PySem.IsL.update e f
  rw [hf] at q
  refine I.write (x := l) (e := l) (by rw [hH]; exact trivial) (.inl rfl) (fun b' u hb hu => (Heap.get?_update_other s.heap (Obj.mapSeq f) (Ne.symm hb)).trans hu) ⟨_, q⟩ ?_
  exact ⟨hz, its', _, hv, q⟩
theorem Inv.lnew {its : List Value} {t' : Nat} (I : Inv X pins σ H s) (hv : Vals ys its) (hz : ys.length ≤ sizeLine) :
    Inv X pins σ (upd H s.heap.objs.size (.lst ys)) { s with heap := s.heap.push { cls := .type "list", data := .seq its.toArray }, toks := t' } :=
  I.laid (fun _ _ q => Heap.get?_push_of_some _ q) (Nat.le_refl _) ⟨hz, its, 0, hv, Heap.get?_push_size _ rfl⟩
theorem Inv.fresh (I : Inv X pins σ H s) : H s.heap.objs.size = none := I.hok.fresh (Nat.le_refl _)
theorem Inv.lstM (I : Inv X pins σ H s) (hH : H l = some (.lst xs)) : xs.length ≤ sizeLine ∧ ∃ (its : List Value) (n : Nat), Vals xs its ∧ xs.length = its.length ∧ s.heap.get? l = some { cls := .type "list", data := .seq its.toArray n } := by
  obtain ⟨z, its, n, r, e⟩ := I.hok l _ hH
  exact ⟨z, its, n, r, r.length, e⟩
theorem notLongL {n : Nat} (h : n ≤ sizeLine) : Builtin.List.listTooLong n = false := by
  unfold Builtin.List.listTooLong
  exact decide_eq_false (by omega)
end
section
variable {X : Cx}
def rAppend : V → List V → Hp → VK → Prop := fun x vs H Q => ∃ l xs y, x = .ref l ∧ vs = [y] ∧ H l = some (.lst xs) ∧ xs.length < sizeLine ∧ Q .non (upd H l (.lst (xs ++ [y])))
theorem mt_append : MtM X "list.append" rAppend := by
  intro pins s σ H x vs v us Q I rx rv h
  obtain ⟨l, xs, y, rfl, rfl, hH, hz, q⟩ := h
  cases rx
  obtain ⟨u, rfl, ru⟩ := rv.one
  obtain ⟨z, its, n, r, hl, e⟩ := I.lstM hH
  refine call_meets F.slot_list_append ⟨_, e, rfl⟩ F.entry_list_append (F.args_list_append_2 _ _) (PySem.list_append l its.toArray n u (by rw [List.size_toArray]; omega)) ⟨e, ?_⟩
  refine ⟨.non, _, I.lset (its' := its ++ [u]) hH e (by simp) (r.append (.cons ru .nil)) ?_, rfl, q⟩
  rw [List.length_append, List.length_singleton]
  omega
def rExtend : V → List V → Hp → VK → Prop := fun x vs H Q => ∃ l b xs zs, x = .ref l ∧ vs = [.ref b] ∧ H l = some (.lst xs) ∧ H b = some (.lst zs) ∧ xs.length + zs.length ≤ sizeLine ∧ Q .non (upd H l (.lst (xs ++ zs)))
theorem mt_extend : MtM X "list.extend" rExtend := by
  intro pins s σ H x vs v us Q I rx rv h
  obtain ⟨l, b, xs, zs, rfl, rfl, hH, hB, hz, q⟩ := h
  cases rx
  obtain ⟨u, rfl, ru⟩ := rv.one
  cases ru
  obtain ⟨z, its, n, r, hl, e⟩ := I.lstM hH
  obtain ⟨z2, its2, n2, r2, hl2, e2⟩ := I.lstM hB
  have hsz : its.toArray.size + its2.toArray.size ≤ sizeLine := by rw [List.size_toArray, List.size_toArray]; omega
  have hlong : ¬ (!its.toArray.isEmpty && Builtin.List.listTooLong (its.toArray.size + its2.toArray.size)) = true := by
    rw [notLongL hsz, Bool.and_false]
    exact Bool.false_ne_true
  refine call_meets F.slot_list_extend ⟨_, e, rfl⟩ F.entry_list_extend (F.args_list_extend_2 _ _)
    (AutoSeq1.list_extend_list_list_0 l its.toArray n b its2.toArray n2 hlong (by rw [List.size_toArray]; omega) (by omega)) ⟨e, e2, ?_⟩
  refine ⟨.non, _, I.lset (its' := its ++ its2) hH e (by simp) (r.append r2) ?_, rfl, q⟩
  rw [List.length_append]
  omega
def rPop : V → List V → Hp → VK → Prop := fun x vs H Q => ∃ l xs y, x = .ref l ∧ vs = [] ∧ H l = some (.lst xs) ∧ xs[xs.length - 1]? = some y ∧ Q y (upd H l (.lst xs.dropLast))
theorem mt_pop : MtM X "list.pop" rPop := by
  intro pins s σ H x vs v us Q I rx rv h
  obtain ⟨l, xs, y, rfl, rfl, hH, hy, q⟩ := h
  cases rx
  have hus := rv.zero
  subst hus
  obtain ⟨z, its, n, r, hl, e⟩ := I.lstM hH
  obtain ⟨u, hu, ru⟩ := r.get hy
  have hy' : its.toArray[its.toArray.size - 1]? = some u := by
    show its.toArray[its.length - 1]? = some u
    rw [← Array.getElem?_toList, ← hl]
    exact hu
  refine call_meets F.slot_list_pop ⟨_, e, rfl⟩ F.entry_list_pop (F.args_list_pop_1 _) (MeetsSeq.list_pop_last l its.toArray n u hy' (by rw [List.size_toArray]; omega)) ⟨e, ?_⟩
  refine ⟨y, _, I.lset (its' := its.dropLast) hH e ?_ r.dropLast ?_, ru, q⟩
  · show its.toArray.eraseIdxIfInBounds (its.toArray.size - 1) = its.dropLast.toArray
    rw [List.size_toArray, List.eraseIdxIfInBounds_toArray, erase_last]
  · rw [List.length_dropLast]
    omega
def rClear : V → List V → Hp → VK → Prop := fun x vs H Q => ∃ l xs, x = .ref l ∧ vs = [] ∧ H l = some (.lst xs) ∧ Q .non (upd H l (.lst []))
theorem mt_clear : MtM X "list.clear" rClear := by
  intro pins s σ H x vs v us Q I rx rv h
  obtain ⟨l, xs, rfl, rfl, hH, q⟩ := h
  cases rx
  have hus := rv.zero
  subst hus
  obtain ⟨z, its, n, r, hl, e⟩ := I.lstM hH
  refine call_meets F.slot_list_clear ⟨_, e, rfl⟩ F.entry_list_clear (F.args_list_clear_1 _) (AutoSeq1.list_clear_list_0 l its.toArray n (by rw [List.size_toArray]; omega)) ⟨e, ?_⟩
  exact ⟨.non, _, I.lset (its' := []) (ys := []) hH e rfl .nil (Nat.zero_le _), rfl, q⟩
def rCat : R2 := fun x y H Q => ∃ l b xs zs, x = .ref l ∧ y = .ref b ∧ H l = some (.lst xs) ∧ H b = some (.lst zs) ∧ xs.length + zs.length ≤ sizeLine ∧ ∀ p, H p = none → Q (.ref p) (upd H p (.lst (xs ++ zs)))
theorem op_cat : OpR X (binaryOp .Add) rCat := by
  intro pins s σ H x y v u Q I rx ry h
  obtain ⟨l, b, xs, zs, rfl, rfl, hH, hB, hz, q⟩ := h
  cases rx
  cases ry
  obtain ⟨z, its, n, r, hl, e⟩ := I.lstM hH
  obtain ⟨z2, its2, n2, r2, hl2, e2⟩ := I.lstM hB
  refine PySem.P.add_list e e2 ?_ (by rw [List.size_toArray, List.size_toArray]; omega)
  have ea : its.toArray ++ its2.toArray = (its ++ its2).toArray := by simp
  rw [ea]
  exact ⟨.ref _, _, I.lnew (t' := s.toks) (r.append r2) (by rw [List.length_append]; omega), rfl, q _ I.fresh⟩
end
section
variable {prog : Program} {w : World} {A : Around} {E : Value → Shared → Prop} {s : Shared}
set_option maxRecDepth 100000 in
end
section
variable {X : Cx}
end
end L2
namespace Att
open PySem PySem.W PySem.Calls PyProof.Rows
theorem ints_of_wellAll {P : Params} {h : Heap} : ∀ (ns : List Int) (vs : List Value), WellAll P h vs (ns.map WData.int) → IntsAre vs ns := by
  intro ns
  induction ns with
  | nil =>
    intro vs w
    rw [List.map_nil] at w
    cases w
    exact .nil
  | cons n ns ih =>
    intro vs w
    rw [List.map_cons] at w
    cases w with
    | cons a b =>
      cases a
      exact .cons _ _ (ih _ b)
theorem script_of {l : OpenLaw} {n : Nat} (hn : l.most = some n) {P : Params} {h : Heap} {args : List WData} {vals : List Value}
    (hpre : l.row.toRowW.claim.pre args = true) (hwl : WellAll P h vals args) :
    ∃ a vs ns, vals = [Value.ref a] ∧ args = [WData.list (ns.map WData.int)] ∧ h.get? a = some { cls := .type "list", data := .seq vs.toArray } ∧ IntsAre vs ns ∧ ns.length ≤ n := by
  have hsh : WShape.hasAll [] args [.list .int] = true := (pre_splitW hpre).1
  have hc : l.pre.holds [] { args := args } = true := (pre_splitW hpre).2
  obtain ⟨d, r, rfl, h1, h2⟩ := hasAllW_cons hsh
  obtain rfl := hasAllW_nil h2
  obtain ⟨xs, rfl, h3⟩ := hasW_list h1
  obtain ⟨ns, rfl⟩ := items_int h3
  have hlen : ns.length ≤ n := by
    unfold OpenLaw.pre at hc
    have h4 : (WTm.not (.lt (.lit (.int (n : Int))) (.len (.arg 0)))).holds [] { args := [.list (ns.map .int)] } = true := by
      have h4 := (holds_andW hc).1
      rw [hn] at h4
      exact h4
    have h5 := condW_of h4 (w_not (w_lt w_lit (w_len_list (w_arg rfl))))
    rw [List.length_map] at h5
    refine Nat.le_of_not_lt fun q => ?_
    have q' : (n : Int) < ((ns.length : Nat) : Int) := by omega
    first
      | (rw [decide_eq_true q'] at h5; exact absurd h5 (by decide))
      | (simp at h5; omega)
  cases hwl with
  | cons w1 w2 =>
    cases w2
    cases w1 with
    | list ho hall => exact ⟨_, _, ns, rfl, rfl, ho, ints_of_wellAll ns _ hall, hlen⟩
theorem post_true (l : OpenLaw) (args : List WData) : l.row.toRowW.claim.post args (.bool true) args = true :=
  postW_of (r := l.row.toRowW) (X := (true == true))
    (show WShape.has [] (.bool true) .bool = true by first | rfl | decide | simp [WShape.has, WShape.arms, WShape.armsAll])
    (show (WTm.eq .res (.lit (.bool true))).value [] { args := args, res := some (.bool true), after := args } = some (.bool (true == true)) from w_eq_bool (w_res rfl) w_lit) rfl
theorem attach_call {l : OpenLaw} {n : Nat} {q : Program} {loose : List Str} {XP : (Str → Option Value) → Heap → Prop} {YP : World → Heap → Prop} {d : DefRec}
    (hn : l.most = some n) (hdf : d.params.defaults = [])
    (call : ∀ (w : World) (s₀ s₁ : Shared) (mg mb : Str → Option Value) (fa : Addr) (o : Obj) (pm cd doc : Value) (a : Addr) (vs : List Value) (ns : List Int),
      Ground q loose [] XP w s₀ mg mb s₁.heap → YP w s₁.heap →
      s₁.heap.get? fa = some o → o.data = .func (docDef d.name d.params d.body d.scope pm cd doc) → s₁.heap.CodeRec cd d.name → mg d.name = some (.ref fa) →
      s₁.heap.get? a = some { cls := .type "list", data := .seq vs.toArray } → IntsAre vs ns → ns.length ≤ n → s₁.gens = #[] →
      codeAny (model l.prog w) callerA (.call (.ref fa) ⟨[.ref a], []⟩) (fun r s' => r = .ok (.ret (.bool true)) ∧ OldK s₁.heap s'.heap ∧ s'.os = s₁.os ∧ AllBare s'.gens) s₁) :
    WalkO q loose XP YP l.row.toRowW d [] (fun f vs => PySem.call f vs) := by
  intro w s₀ s₁ mg mb G Y fa o pm cd doc dV kV ho hd hcd hD hmg hg args vals as hpre hlay hrd hwl hlo
  obtain rfl : dV = .none := Dflts.none hD hdf
  obtain rfl : kV = .none := Dflts.noKw hD
  obtain ⟨a, vs, ns, rfl, rfl, hobj, hints, hlen⟩ := script_of hn hpre hwl
  refine enter_call (codeAny_mono (call w s₀ s₁ mg mb fa o pm cd doc a vs ns G Y ho (fd_plain hd) hcd hmg hobj hints hlen hg) fun r s' hq => ?_)
  obtain ⟨rfl, h2, h3, h4⟩ := hq
  exact ⟨.inl ⟨.bool true, .bool true, [], rfl, fun _ => rfl, .bool true, post_true l _, fun _ => ⟨List.Pairwise.nil, fun _ hm => (nomatch hm)⟩⟩, h2, h3, h4⟩
section
variable {prog : Program} {w : World} {A : Around} {E : Value → Shared → Prop} {s : Shared} {K : Frag}
end
end Att
namespace L2
open PySem PySem.Spec PyProof.Rows
theorem vals_ints : ∀ {vs : List Value} {ns : List Int}, IntsAre vs ns → Vals (ns.map V.int) vs
  | _, _, .nil => .nil
  | _, _, .cons n t h => .cons ⟨t, rfl⟩ (vals_ints h)
end L2
namespace L2
open PySem PySem.Spec PyProof.Rows
end L2
namespace L2
open PySem PySem.Spec PyProof.Rows
def inClass (s : Stmt) (j : Nat) : Stmt := match s with
  | .ClassDef _ _ _ body _ _ _ _ _ _ _ => body.getD j (.Pass ⟨0, 0, 0, 0⟩)
  | _ => .Pass ⟨0, 0, 0, 0⟩
def defArgs (s : Stmt) : Arguments := match s with
  | .FunctionDef _ a _ _ _ _ _ _ _ _ => a
  | _ => { posonlyargs := [], args := [], vararg := none, kwonlyargs := [], kw_defaults := [], kwarg := none, defaults := [] }
def defBody (s : Stmt) : List Stmt := match s with
  | .FunctionDef _ _ b _ _ _ _ _ _ _ => b
  | _ => []
def defScope (s : Stmt) : Scope := match s with
  | .FunctionDef _ _ _ _ _ _ sc _ _ _ => sc
  | _ => { kind := .function, names := [], isGenerator := false, isCoroutine := false }
abbrev CX0 : CXT := fun _ _ _ _ _ _ => False
abbrev E0 : XK := fun _ _ _ => False
theorem pass0 {X : Cx} : Passes CX0 X E0 := fun _ _ _ _ _ _ _ h => h.elim
structure Fun (K : PySem.W.Frag) (x qual : Str) (st : Stmt) (f : Addr) (fd : FuncData) : Prop where
  ex : ∃ (oc : Value) (od : Option Addr) (kV doc pm : Value) (an : Option Addr) (cdv ct : Value) (osl : Array (Option Value)),
    fd = PySem.W.fnOf x qual (defArgs st) (defBody st) (defScope st) .none kV doc pm an cdv ct ∧ K.lookup f = some ⟨oc, od, .func fd, osl⟩ ∧ PySem.W.codeIn K cdv qual = true
  kp : PySem.W.keepIn K (.ref f) = true
section
variable {P : Program} {w : World} {K : PySem.W.Frag} {mg : Str → Option Value} {base : Heap}
theorem Fun.ok {x qual : Str} {st : Stmt} {f : Addr} {fd : FuncData} {N ps : List Str} {k : Nat} {sp : Sp} (F : Fun K x qual st f fd) (S : FnScope N ps (defScope st)) (len : ∀ vs H Q E, sp vs H Q E → vs.length = ps.length)
    (hbody : ∀ (cdv : Value) (A : Around) (outer : List Env) (s : Shared) (H : Hp) (vs : List V) (Q : VK) (E : XK), Room k (A.deeper (envOfC qual (defScope st) s.heap.objs.size f cdv)) → sp vs H Q E →
      ∃ t, PSs (cxOf CX0 P w K mg base N qual (defScope st) f cdv A outer s H E).nox (defBody st) t ∧ t { nx := fun _ H' => Q .non H', rt := Q } (start N vs) H) : FnOk P w K mg base CX0 (k + 1) f fd ps sp := by
  obtain ⟨oc, od, kV, doc, pm, an, cdv, ct, osl, rfl, lk, hcd⟩ := F.ex
  refine fn_of lk hcd S len fun A outer s H vs Q E hr hsp => ?_
  obtain ⟨t, h, q⟩ := hbody cdv A outer s H vs Q E hr hsp
  exact ⟨t, h.nox, q⟩
theorem Fun.binds {x qual : Str} {st : Stmt} {f : Addr} {fd : FuncData} {ps : List Str} (F : Fun K x qual st f fd)
    (h : ∀ (kV doc pm : Value) (an : Option Addr) (cdv ct : Value) (us : List Value), us.length = ps.length → bindArgs (PySem.W.fnOf x qual (defArgs st) (defBody st) (defScope st) .none kV doc pm an cdv ct) ⟨us, []⟩ = pure (ps.zip us)) : Binds K fd ps [] := by
  obtain ⟨oc, od, kV, doc, pm, an, cdv, ct, osl, rfl, lk, hcd⟩ := F.ex
  exact .all (h kV doc pm an cdv ct)
theorem fun_mk {x qual : Str} {st : Stmt} {f : Addr} {oc : Value} {od an : Option Addr} {osl : Array (Option Value)} {kV doc pm cdv ct : Value} (l : K.lookup f = some ⟨oc, od, .func (PySem.W.fnOf x qual (defArgs st) (defBody st) (defScope st) .none kV doc pm an cdv ct), osl⟩)
    (c : PySem.W.codeIn K cdv qual = true) (k : PySem.W.keepIn K (.ref f) = true) : Fun K x qual st f (PySem.W.fnOf x qual (defArgs st) (defBody st) (defScope st) .none kV doc pm an cdv ct) := ⟨⟨oc, od, kV, doc, pm, an, cdv, ct, osl, rfl, l, c⟩, k⟩
end
theorem hu_of {A : Around} {k : Nat} (hr : Room k A) : A.units + 1 < cLine := Nat.lt_of_le_of_lt (Nat.add_le_add_left (by decide : 1 ≤ 64) _) hr.units
theorem small1000 {n : Nat} (h : n ≤ 1000) : n < sizeLine := Nat.lt_of_le_of_lt h (by decide)
section
variable {X : Cx}
theorem pv (i : Nat) {x : Str} {pos : Pos} (hN : X.N[i]? = some x := by rfl) (hv : Vis X.env.scope x := by first | exact Or.inl rfl | exact Or.inr (Or.inl rfl) | exact Or.inr (Or.inr rfl)) (hd : (x == ("__debug__" : Str)) = false := by decide)
    (hcd : (x == ("__classdict__" : Str)) = false := by decide) : PE X (.Name x pos) (tVar i) := pe_var hN hv hd hcd
end
theorem iteF {A B : Prop} (h : B) : if false = true then A else B := by
  rw [if_neg Bool.false_ne_true]
  exact h
theorem iteT {A B : Prop} (h : A) : if true = true then A else B := by
  rw [if_pos rfl]
  exact h
theorem ite2 {c A B : Prop} [Decidable c] (h1 : c → A) (h2 : ¬ c → B) : if c then A else B := by
  by_cases h : c
  · rw [if_pos h]
    exact h1 h
  · rw [if_neg h]
    exact h2 h
def Same (H H' : Hp) : Prop := ∀ b o, H b = some o → H' b = some o
theorem Same.refl (H : Hp) : Same H H := fun _ _ h => h
theorem Same.trans {H H1 H2 : Hp} (a : Same H H1) (b : Same H1 H2) : Same H H2 := fun c o h => b c o (a c o h)
theorem Same.free {H H' : Hp} (e : Same H H') {l : Addr} (h : H' l = Option.none) : H l = Option.none := by
  cases q : H l with
  | none => rfl
  | some o =>
    rw [e l o q] at h
    cases h
theorem Same.seq {K : PySem.W.Frag} {H H' : Hp} {a : Addr} {xs : List V} (e : Same H H') (h : SqL K H a xs) : SqL K H' a xs := by
  rcases h with (h | ⟨o, h⟩) | h
  · exact .inl (.inl (e _ _ h))
  · exact .inl (.inr ⟨o, e _ _ h⟩)
  · exact .inr h
end L2
set_option Elab.async false
set_option linter.all false
set_option maxRecDepth 100000
namespace L2
open PySem PySem.Spec PyProof.Rows
structure Df (K : PySem.W.Frag) (mg : Str → Option Value) (x : Str) (st : Stmt) (ps : List Str) where
  f : Addr
  fd : FuncData
  fn : Fun K x x st f fd
  hm : mg x = some (.ref f)
  b : Binds K fd ps []
section
variable {X : Cx} {x : Str} {st : Stmt} {ps : List Str} {k : Nat} {sp : Sp} {p pos : Pos} {e : Expr} {es : List Expr} {t : TA}
end
theorem bt_len : bootBuiltins "len" = some (.builtin "len") := by decide +kernel
theorem bt_isinstance : bootBuiltins "isinstance" = some (.builtin "isinstance") := by decide +kernel
theorem bt_sorted : bootBuiltins "sorted" = some (.builtin "sorted") := by decide +kernel
theorem bt_sum : bootBuiltins "sum" = some (.builtin "sum") := by decide +kernel
theorem bt_int : bootBuiltins "int" = some (.type "int") := by decide +kernel
theorem bt_bool : bootBuiltins "bool" = some (.type "bool") := by decide +kernel
theorem bt_list : bootBuiltins "list" = some (.type "list") := by decide +kernel
section
variable {X : Cx} {x : Str} {pos : Pos}
theorem pe_ty {T : String} (hg : Gl X x) (hm : X.mg x = none) (hv : bootBuiltins x = some (.type T)) (hn : x ≠ "__name__" := by decide) (hd : (x == ("__debug__" : Str)) = false := by decide) : PE X (.Name x pos) (tC (.ty T)) :=
  pe_bltn hg hm hv rfl hn hd
theorem call_isi : CallR X (.builtin "isinstance") (fun xs H Q => ∃ x T t b, xs = [x, .ty T] ∧ TyOf X.K H x t ∧ PySem.W.kitOne X.K t (.type T) = some b ∧ Q (.bl b) H) := by
  intro pins s σ H xs us Q I r h
  obtain ⟨x, T, t, b, rfl, ty, e, q⟩ := h
  obtain ⟨u, w', rfl, r1, r2⟩ := vals2 r
  cases (show w' = Value.type T from r2)
  exact isinst_ok I r1 ty e fun tk => ⟨.bl b, H, I.tok _, rfl, q⟩
end
theorem kit_int_int (K : PySem.W.Frag) : PySem.W.kitOne K (.type "int") (.type "int") = some true := by kernel_rfl
theorem kit_int_bool (K : PySem.W.Frag) : PySem.W.kitOne K (.type "int") (.type "bool") = some false := by kernel_rfl
theorem kit_bool_bool (K : PySem.W.Frag) : PySem.W.kitOne K (.type "bool") (.type "bool") = some true := by kernel_rfl
theorem kit_bool_int (K : PySem.W.Frag) : PySem.W.kitOne K (.type "bool") (.type "int") = some true := by kernel_rfl
theorem kit_list_list (K : PySem.W.Frag) : PySem.W.kitOne K (.type "list") (.type "list") = some true := by kernel_rfl
theorem kit_tuple_tuple (K : PySem.W.Frag) : PySem.W.kitOne K (.type "tuple") (.type "tuple") = some true := by kernel_rfl
theorem kit_str_str (K : PySem.W.Frag) : PySem.W.kitOne K (.type "str") (.type "str") = some true := by kernel_rfl
theorem kit_str_int (K : PySem.W.Frag) : PySem.W.kitOne K (.type "str") (.type "int") = some false := by kernel_rfl
theorem kit_none_int (K : PySem.W.Frag) : PySem.W.kitOne K (.type "NoneType") (.type "int") = some false := by kernel_rfl
theorem kit_none_str (K : PySem.W.Frag) : PySem.W.kitOne K (.type "NoneType") (.type "str") = some false := by kernel_rfl
theorem kit_int_str (K : PySem.W.Frag) : PySem.W.kitOne K (.type "int") (.type "str") = some false := by kernel_rfl
theorem kit_bool_str (K : PySem.W.Frag) : PySem.W.kitOne K (.type "bool") (.type "str") = some false := by kernel_rfl
theorem kit_list_str (K : PySem.W.Frag) : PySem.W.kitOne K (.type "list") (.type "str") = some false := by kernel_rfl
theorem kit_list_int (K : PySem.W.Frag) : PySem.W.kitOne K (.type "list") (.type "int") = some false := by kernel_rfl
theorem kit_tuple_str (K : PySem.W.Frag) : PySem.W.kitOne K (.type "tuple") (.type "str") = some false := by kernel_rfl
theorem kit_tuple_int (K : PySem.W.Frag) : PySem.W.kitOne K (.type "tuple") (.type "int") = some false := by kernel_rfl
theorem kit_dict_str (K : PySem.W.Frag) : PySem.W.kitOne K (.type "dict") (.type "str") = some false := by kernel_rfl
theorem kit_dict_int (K : PySem.W.Frag) : PySem.W.kitOne K (.type "dict") (.type "int") = some false := by kernel_rfl
section
variable {X : Cx} {pins : List (Addr × Obj)} {σ : St} {H : Hp} {s : Shared} {h' : Heap}
theorem Inv.turnT {t' : Nat} {ch : List Addr} {a : Addr} {o : HO} (I : Inv X pins σ H s) (k : ∀ b u, b ∉ ch → s.heap.get? b = some u → h'.get? b = some u) (hf : ∀ b ∈ ch, FpOk X pins H b)
    (ha : s.heap.objs.size ≤ a) (new : ObjOk X.prog X.w (upd H a o) h' a o) : Inv X pins σ (upd H a o) { s with heap := h', toks := t' } := by
  have hn : H a = none := I.hok.fresh ha
  have nch : ∀ b u, H b = some u → b ∉ ch := fun b u e z => by rw [(hf b z).1] at e; cases e
  refine I.step (g' := s.gens) (d' := s.drawn) (ch := ch) (fun b hb => ?_) (fun b u _ _ hc e _ => k b u hc e) (fun b u _ _ hc e _ => ⟨u.slots, k b u hc e⟩) (fun b u _ e n => ?_)
    (fun b u hc e => ⟨u, k b u hc e⟩) (fun b xs e => by rw [upd_ne (ne_of_none e hn)]; exact e) (fun b u xs e => by rw [upd_ne (ne_of_none e hn)]; exact e)
    (fun b ps e => ⟨#[], by rw [upd_ne (ne_of_none e hn), e]; simp⟩) (fun m hm => ?_) (fun b u e => ?_) I.bare
  · obtain ⟨f0, f1, f2, f3, f4, f5⟩ := hf b hb
    exact ⟨f3, f1, f4, f5⟩
  · rw [upd_ne (Nat.ne_of_lt (Nat.lt_of_lt_of_le (Heap.lt_size e) ha))]
    exact n
  · obtain ⟨u, es, ep, ho, r⟩ := hm
    exact ⟨u, es, ep, k _ u (fun z => (hf _ z).2.1 rfl) ho, r⟩
  · by_cases hb : b = a
    · subst hb
      rw [upd_same] at e
      cases e
      exact new
    · rw [upd_ne hb] at e
      refine (I.hok b u e).stay (fun c v hc q => k c v ?_ q) (fun c q => by rw [upd_ne (ne_of_none q hn)]; exact q) fun c xs q => by rw [upd_ne (ne_of_none q hn)]; exact q
      rcases hc with z | z
      · rw [z]
        exact nch b u e
      · exact nch c _ z
theorem Inv.turnN {t' : Nat} {ch : List Addr} (I : Inv X pins σ H s) (k : ∀ b u, b ∉ ch → s.heap.get? b = some u → h'.get? b = some u) (hf : ∀ b ∈ ch, FpOk X pins H b) : Inv X pins σ H { s with heap := h', toks := t' } := by
  have nch : ∀ b u, H b = some u → b ∉ ch := fun b u e z => by rw [(hf b z).1] at e; cases e
  refine I.step (g' := s.gens) (d' := s.drawn) (ch := ch) (fun b hb => ?_) (fun b u _ _ hc e _ => k b u hc e) (fun b u _ _ hc e _ => ⟨u.slots, k b u hc e⟩) (fun _ _ _ _ n => n)
    (fun b u hc e => ⟨u, k b u hc e⟩) (fun _ _ e => e) (fun _ _ _ e => e) (fun b ps e => ⟨#[], by rw [e]; simp⟩) (fun m hm => ?_) (fun b u e => ?_) I.bare
  · obtain ⟨f0, f1, f2, f3, f4, f5⟩ := hf b hb
    exact ⟨f3, f1, f4, f5⟩
  · obtain ⟨u, es, ep, ho, r⟩ := hm
    exact ⟨u, es, ep, k _ u (fun z => (hf _ z).2.1 rfl) ho, r⟩
  · refine (I.hok b u e).stay (fun c v hc q => k c v ?_ q) (fun _ q => q) fun _ _ q => q
    rcases hc with z | z
    · rw [z]
      exact nch b u e
    · exact nch c _ z
end
def Ite (K : PySem.W.Frag) (a : Addr) : It :=
  ⟨fun i H => ∃ xs x, SqL K H a xs ∧ xs[i]? = some x, fun i H x H' => ∃ t y, x = .ref t ∧ H t = none ∧ H' = upd H t (.tup [.int i, y]) ∧ ∀ xs, SqL K H a xs → xs[i]? = some y,
   fun i H => ∃ xs, SqL K H a xs ∧ xs.length ≤ i⟩
theorem turn_enum {P : Program} {w : World} {K : PySem.W.Frag} {es : List Expr} {k1 : Nat} {tp : Pos} (a e it : Addr) (hne : e ≠ it) :
    Turn P w K (.Tuple es k1 tp) (Ite K a) [e, it] e (fun i h => (∃ old, IsEnum h e it i old) ∧ h.IsListIter it a i) where
  mem := by simp
  obj := fun i h st b hb => by
    obtain ⟨⟨old, he⟩, o, e1, c, d⟩ := st
    rcases (show b = e ∨ b = it by simpa using hb) with rfl | rfl
    · exact ⟨_, he, fun v z => by cases z⟩
    · exact ⟨o, e1, fun v z => by rw [d] at z; cases z⟩
  keep := fun i h h' st k => ⟨st.1.imp fun old he => k e (by simp) _ he, st.2.at fun o q => k it (by simp) o q⟩
  item := by
    intro X hP hw hK hc i pins s σ H E I hf st hg
    subst hP hw hK
    obtain ⟨xs, x, hq, hx⟩ := hg
    obtain ⟨its, rv, p, hz⟩ := I.list hq
    obtain ⟨u, hu, ru⟩ := rv.get hx
    obtain ⟨⟨old, he⟩, hit⟩ := st
    have el : e < s.heap.objs.size := Heap.lt_size he
    have il : it < s.heap.objs.size := by
      obtain ⟨o, e1, _⟩ := hit
      exact Heap.lt_size e1
    refine wpAny_pyNext_enum_item he hit p.isList (x := u) (by simpa using hu) hne fun h' ho hit' ht hz' hk => ?_
    refine ⟨_, rfl, wpAny_letOwnedTupleGo_enum ho fun h2 he2 sb => ?_⟩
    replace sb : Heap.SameBut e h' h2 := sb
    have ht2 : h2.get? s.heap.objs.size = some { cls := .type "tuple", data := .seq #[.int i s.toks, u] } := (sb.2 _ (Nat.ne_of_gt el)).trans ht
    have I2 : Inv X pins σ (upd H s.heap.objs.size (.tup [.int i, x])) { s with heap := h2, toks := s.toks + 1 } :=
      I.turnT (ch := [e, it]) (fun b v hb q => (sb.2 b (fun z => hb (by simp [z]))).trans (hk b v (fun z => hb (by simp [z])) (fun z => hb (by simp [z])) q)) hf (Nat.le_refl _)
        ⟨by show 2 ≤ sizeLine; decide, [.int i s.toks, u], .cons ⟨_, rfl⟩ (.cons ru .nil), _, ht2, rfl, _, rfl⟩
    refine ⟨.ref s.heap.objs.size, _, I2, rfl, ⟨s.heap.objs.size, x, rfl, I.hok.fresh (Nat.le_refl _), rfl, fun ys hy => by rw [I.list_inj hy hq]; exact hx⟩,
      ⟨⟨u, by simpa using he2⟩, hit'.at fun o q => (sb.2 it (Ne.symm hne)).trans q⟩, fun b hb => ?_⟩
    rw [upd_ne, (hf b hb).1]
    rcases (show b = e ∨ b = it by simpa using hb) with rfl | rfl
    · exact Nat.ne_of_lt el
    · exact Nat.ne_of_lt il
  done := by
    intro X hP hw hK hc i pins s σ H E I hf st hg
    subst hP hw hK
    obtain ⟨xs, hq, hx⟩ := hg
    obtain ⟨its, rv, p, hz⟩ := I.list hq
    obtain ⟨⟨old, he⟩, hit⟩ := st
    have hl := rv.length
    exact wpAny_pyNext_enum_end (I.ok.hd hc) he hit p.isList (by simp; omega) fun h' eb => ⟨rfl, I.turnN (t' := s.toks) (ch := [e, it]) (fun b o hb q => eb b o (fun z => hb (by simp [z])) q) hf⟩
  self := fun _ _ _ _ _ st h => by
    obtain ⟨⟨old, he⟩, _⟩ := st
    exact wpAny_pyIter_enum he h
def iEnum (K : PySem.W.Frag) (ta : TA) : TI := fun σ H R => ta σ H fun vs H1 => ∃ a, vs = [.ref a] ∧ (∃ xs, SqL K H1 a xs) ∧ R (Ite K a) H1
theorem pi_enum {X : Cx} {es : List Expr} {k1 : Nat} {tp : Pos} {a : Expr} {ta : TA} {p pos : Pos} (hg : Gl X "enumerate") (hm : X.mg "enumerate" = none) (ha : PA X [a] ta) (hs : starEach [a] X.env = [(false, eval a X.env)] := by rfl) :
    PI X (.Tuple es k1 tp) (.Call (.Name "enumerate" p) [a] [] pos) (iEnum X.K ta) := by
  intro pins s σ H R I h
  refine Call_ (ld_blt I hg hm boot_enumerate (PyProof.Rows.callWith_type1 (thn (ha pos pins s σ H _ I h) fun us s1 ⟨vs, H1, I1, r1, q1⟩ => ?_) hs rfl))
  obtain ⟨l, e, ⟨xs, hq⟩, q⟩ := q1
  subst e
  obtain ⟨u, rfl, ru⟩ := vals1 r1
  cases (show u = Value.ref l from ru)
  obtain ⟨its, rv, pl, hz⟩ := I1.list hq
  refine call_enumerate_list pl.isList fun h' he hit hsz hk => wpAny_pyIter_enum he ?_
  have I2 : Inv X pins σ H1 { s1 with heap := h' } := I1.kept (t' := s1.toks) hk
  refine ⟨s1.heap.objs.size + 1, [s1.heap.objs.size + 1, s1.heap.objs.size], _, _, H1, rfl, I2, turn_enum l _ _ (Nat.succ_ne_self _), ⟨⟨.none, he⟩, hit⟩, fun b hb => ?_, q⟩
  rcases (show b = s1.heap.objs.size + 1 ∨ b = s1.heap.objs.size by simpa using hb) with rfl | rfl
  · exact I1.fpOk (Nat.le_succ _) (I1.hok.fresh (Nat.le_succ _))
  · exact I1.fpOk (Nat.le_refl _) (I1.hok.fresh (Nat.le_refl _))
theorem for_enum {K : PySem.W.Frag} {a : Addr} {xs : List V} {g : TG} {tb : TS} {D : Ends} {σ : St} {H : Hp} (Pv : Nat → St → Hp → Prop) (h0 : Pv 0 σ H) (hl : ∀ i σ H, i ≤ xs.length → Pv i σ H → SqL K H a xs)
    (hs : ∀ i x σ H t, xs[i]? = some x → Pv i σ H → H t = none → g (.ref t) σ (upd H t (.tup [.int i, x])) fun σ2 H2 => tb { D with nx := Pv (i + 1), ct := Pv (i + 1), bk := D.nx } σ2 H2) (hd : ∀ σ H, Pv xs.length σ H → D.nx σ H) :
    ∃ W : Nat → Nat → St → Hp → Prop, (∃ m, W 0 m σ H) ∧ ∀ i m σ H, W i m σ H →
      ((Ite K a).stop i H ∧ D.nx σ H) ∨ ((Ite K a).go i H ∧ ∃ N : St → Hp → Prop, (∀ σ' H', N σ' H' → ∃ m', m' < m ∧ W (i + 1) m' σ' H') ∧ ∀ x H', (Ite K a).yld i H x H' → g x σ H' fun σ2 H2 => tb { D with nx := N, ct := N, bk := D.nx } σ2 H2) := by
  refine ⟨fun i m σ H => m = xs.length - i ∧ i ≤ xs.length ∧ Pv i σ H, ⟨xs.length, by simp, Nat.zero_le _, h0⟩, ?_⟩
  rintro i m σ H ⟨rfl, hi, p⟩
  have q := hl i σ H hi p
  by_cases hlt : i < xs.length
  · refine .inr ⟨⟨xs, xs[i], q, by simp [hlt]⟩, Pv (i + 1), fun σ' H' p' => ⟨xs.length - (i + 1), by omega, rfl, hlt, p'⟩, fun x H' y => ?_⟩
    obtain ⟨t, z, rfl, ht, rfl, y⟩ := y
    exact hs i z σ _ t (y xs q) p ht
  · have e : i = xs.length := by omega
    subst e
    exact .inl ⟨⟨xs, q, Nat.le_refl _⟩, hd σ H p⟩
theorem iteD {c A B : Prop} [Decidable c] (hc : c) (h : A) : if decide c = true then A else B := by
  rw [decide_eq_true hc]
  exact iteT h
theorem iteDn {c A B : Prop} [Decidable c] (hc : ¬ c) (h : B) : if decide c = true then A else B := by
  rw [decide_eq_false hc]
  exact iteF h
theorem Same.lay {H H' : Hp} {p : Addr} {o : HO} (h : Same H H') (hp : H' p = none) : Same H (upd H' p o) := fun b u e => by
  rw [upd_ne (ne_of_none (h b u e) hp)]
  exact h b u e
theorem Same.new (H : Hp) {p : Addr} {o : HO} (hp : H p = none) : Same H (upd H p o) := (Same.refl H).lay hp
end L2
set_option Elab.async false
set_option linter.all false
set_option maxRecDepth 100000
namespace L2
open PySem PySem.Spec PyProof.Rows
def cxComp (X : Cx) (N' : List Str) (scope : Scope) (cl : List (Str × Addr)) (C : Addr) (s : Shared) (H : Hp) (fp : List Addr) : Cx where
  prog := X.prog
  w := X.w
  K := X.K
  mg := X.mg
  base := X.base
  A := X.A
  N := N'
  s₀ := s
  H₀ := H
  env := compEnvC scope cl C X.env
  outer := X.stack
  stack := X.stack
  ex := fp
  fn := fun _ => false
  calm := X.calm
  pn := []
  xe := fun _ _ => False
def PTs (X : Cx) (ifs : List Expr) (t : TT) : Prop :=
  ∀ (pins : List (Addr × Obj)) (s : Shared) (σ : St) (H : Hp) (Q : Bool → Hp → Prop), Inv X pins σ H s → t σ H Q →
    wpAny (model X.prog X.w) X.A (forIn ifs true fun c r => if r = true then do let ok ← isTrue c X.env (eval c X.env); pure (ForInStep.yield ok) else pure (ForInStep.yield r)) (TP X pins σ Q) X.xe s
def tYes : TT := fun _ H Q => Q true H
theorem pts_nil {X : Cx} : PTs X [] tYes := fun pins s σ H Q I h => wpAny_pure ⟨H, I, h⟩
theorem pts_one {X : Cx} {c : Expr} {t : TT} (hc : PT X c t) : PTs X [c] t := fun pins s σ H Q I h => by
  show wpAny _ _ (forIn [c] true _) _ _ s
  rw [List.forIn_cons]
  rw [if_pos rfl]
  refine wpAny_bind (wpAny_bind (thn (hc pins s σ H Q I h) fun b s1 h1 => wpAny_pure ?_))
  exact wpAny_pure h1
theorem closure_of {env : Env} : ∀ (names : List (Str × NameKind)) (acc : List (Str × Addr)),
    (∀ y ∈ names, y.2 = .free → ∃ c, env.cells.lookup y.1 = some c) → (∀ x c, acc.lookup x = some c → env.cells.lookup x = some c) →
    ∃ cl, (forIn names acc fun (x : Str × NameKind) cs => if (x.2 == NameKind.free) = true then (do let a ← cellOf env x.1; pure (ForInStep.yield ((x.1, a) :: cs))) else pure (ForInStep.yield cs) : Sem (List (Str × Addr))) = pure cl ∧
      (∀ x c, cl.lookup x = some c → env.cells.lookup x = some c) ∧ (∀ y ∈ names, y.2 = .free → ∃ c, cl.lookup y.1 = some c) ∧ (∀ x c, acc.lookup x = some c → cl.lookup x = some c)
  | [], acc, _, ha => ⟨acc, rfl, ha, fun y hy => (nomatch hy), fun _ _ h => h⟩
  | (n, k) :: r, acc, hn, ha => by
    rw [List.forIn_cons]
    by_cases hk : k = .free
    · obtain ⟨c, hc⟩ := hn (n, k) List.mem_cons_self hk
      have ha' : ∀ x d, ((n, c) :: acc).lookup x = some d → env.cells.lookup x = some d := fun x d h => by
        rw [List.lookup_cons] at h
        by_cases e : (x == n) = true
        · rw [e] at h
          have e' := beq_iff_eq.mp e
          cases h
          rw [e']
          exact hc
        · rw [Bool.eq_false_iff.mpr e] at h
          exact ha x d h
      obtain ⟨cl, e1, h1, h2, h3⟩ := closure_of r ((n, c) :: acc) (fun y hy => hn y (List.mem_cons_of_mem _ hy)) ha'
      refine ⟨cl, ?_, h1, fun y hy hf => ?_, fun x d h => ?_⟩
      · rw [if_pos (by rw [hk]; rfl)]
        show ((cellOf env n >>= fun a => pure (ForInStep.yield ((n, a) :: acc))) >>= _) = _
        have hco : cellOf env n = pure c := by unfold cellOf; rw [hc]
        rw [hco, pure_bind, pure_bind]
        exact e1
      · rcases List.mem_cons.mp hy with rfl | hy
        · exact ⟨c, h3 n c (by rw [List.lookup_cons]; simp)⟩
        · exact h2 y hy hf
      · by_cases e : (x == n) = true
        · have e' := beq_iff_eq.mp e
          subst e'
          have := ha x d h
          rw [hc] at this
          cases this
          exact h3 x c (by rw [List.lookup_cons]; simp)
        · exact h3 x d (by rw [List.lookup_cons, Bool.eq_false_iff.mpr e]; exact h)
    · obtain ⟨cl, e1, h1, h2, h3⟩ := closure_of r acc (fun y hy => hn y (List.mem_cons_of_mem _ hy)) ha
      refine ⟨cl, ?_, h1, fun y hy hf => ?_, h3⟩
      · rw [if_neg (by simpa using hk), pure_bind]
        exact e1
      · rcases List.mem_cons.mp hy with rfl | hy
        · exact absurd hf hk
        · exact h2 y hy hf
theorem closureFor_of {scope : Scope} {env : Env} (hn : ∀ y ∈ scope.names, y.2 = .free → ∃ c, env.cells.lookup y.1 = some c) :
    ∃ cl, closureFor scope env = pure cl ∧ (∀ x c, cl.lookup x = some c → env.cells.lookup x = some c) ∧ ∀ y ∈ scope.names, y.2 = .free → ∃ c, cl.lookup y.1 = some c := by
  obtain ⟨cl, e1, h1, h2, _⟩ := closure_of (env := env) scope.names [] hn (fun x c h => by cases h)
  refine ⟨cl, ?_, h1, h2⟩
  unfold closureFor
  rw [← e1, bind_pure]
theorem compLoop_go {prog : Program} {w : World} {A : Around} {R : Result → Shared → Prop} {s : Shared} {elt target iter : Expr} {ifs : List Expr} {scope : Scope} {pos : Pos} {it acc : Value} {env : Env} (I : Nat → Shared → Prop)
    (turn : ∀ n s, I n s → wpAny (model prog w) A (pyNext it) (fun r s₁ => match r with
      | none => R (.ok .next) s₁
      | some v => wpAny (model prog w) A (letOwnedTupleGo target it v) (fun _ s₁ => wpAny (model prog w) A (assign target env v) (fun _ s₂ =>
          wpAny (model prog w) A (forIn ifs true fun c r => if r = true then do let ok ← isTrue c env (eval c env); pure (ForInStep.yield ok) else pure (ForInStep.yield r)) (fun ok s₃ =>
            if ok = true then wpAny (model prog w) A (eval elt env) (fun x s₄ =>
              wpAny (model prog w) A (call (.builtin "list.append") [acc, x]) (fun _ s₅ => ∃ m, m < n ∧ I m s₅) (fun _ _ => False) s₄) (fun _ _ => False) s₃
            else ∃ m, m < n ∧ I m s₃) (fun _ _ => False) s₂) (fun _ _ => False) s₁) (fun _ _ => False) s₁) (fun _ _ => False) s)
    (n : Nat) (h : I n s) :
    codeAny (model prog w) A (.compLoop (.ListComp elt [⟨target, iter, ifs, 0⟩] scope pos) 0 it acc env) R s := by
  refine codeAny_loop rfl I (fun n s hI => ?_) n h
  show wpAny _ A ((compTurn (.ListComp elt [⟨target, iter, ifs, 0⟩] scope pos) 0 it acc env).onRaise (fun x => do noteFrame x env; theTreesLotGoes x)) _ _ s
  refine wpAny_noted ?_
  rw [compTurn_list]
  have ff : ∀ {E : Value → Shared → Prop} (v : Value) (s : Shared), False → E v s := fun _ _ z => z.elim
  refine wpAny_bind (wpAny_standAt (wpAny_bind (wpAny_mono (turn n s hI) (fun r s₁ h₁ => ?_) ff)))
  cases r with
  | none => exact wpAny_pure h₁
  | some v =>
    refine wpAny_bind (wpAny_mono h₁ (fun _ s₁' h₁' => ?_) ff)
    refine wpAny_bind (wpAny_mono h₁' (fun _ s₂ h₂ => wpAny_bind (wpAny_mono h₂ (fun ok s₃ h₃ => ?_) ff)) ff)
    cases ok with
    | false => exact wpAny_pure ⟨rfl, h₃⟩
    | true =>
      exact wpAny_bind (wpAny_bind (wpAny_mono h₃ (fun x s₄ h₄ => wpAny_bind (wpAny_mono h₄ (fun _ s₅ h₅ => wpAny_pure (wpAny_pure ⟨rfl, h₅⟩)) ff)) ff))
def CompW (J : It) (g : TG) (tc : TT) (te : TE) (Q : VK) (D : Addr) (σ : St) (H : Hp) : Prop := ∃ W : Nat → Nat → St → Hp → Prop, (∃ m, W 0 m σ H) ∧ ∀ i m σ' H', W i m σ' H' →
  (J.stop i H' ∧ Q (.ref D) H') ∨ (J.go i H' ∧ ∃ N : St → Hp → Prop, (∀ σ2 H2, N σ2 H2 → ∃ m', m' < m ∧ W (i + 1) m' σ2 H2) ∧ ∀ x H2, J.yld i H' x H2 → g x σ' H2 fun σ3 H3 => tc σ3 H3 fun b H4 =>
    if b = true then te σ3 H4 fun y H5 => ∃ acc, H5 D = some (.lst acc) ∧ acc.length < sizeLine ∧ N σ3 (upd H5 D (.lst (acc ++ [y]))) else N σ3 H4)
def tComp (wi : TI) (g : TG) (tc : TT) (te : TE) (cp : St → St) : TE := fun σ H Q => wi σ H fun J H1 => ∀ D, H1 D = none → CompW J g tc te Q D (cp σ) (upd H1 D (.lst []))
def cpOf (k : Nat) (caps : List Nat) : St → St := fun σ => List.replicate k none ++ caps.map fun i => σ.getD i none
structure CompText (X : Cx) (scope : Scope) (own : List Str) (caps : List Nat) (N' : List Str) : Prop where
  kind : scope.kind = .function
  nocell : ∀ y ∈ scope.names, y.2 ≠ .cell
  names : ∀ y ∈ scope.names, y.2 = .local → scope.names.lookup y.1 = some .local
  free : ∀ y ∈ scope.names, y.2 = .free → X.env.kindOf y.1 = some .cell ∨ X.env.kindOf y.1 = some .free
  hN : N' = own ++ caps.filterMap fun i => X.N[i]?
  cap : ∀ i ∈ caps, i < X.N.length
  capk : ∀ i ∈ caps, ∀ x, X.N[i]? = some x → scope.names.lookup x = some .free
  look : ∀ x, (relabel scope X.env).names.lookup x = some .cell ∨ (relabel scope X.env).names.lookup x = some .free → (x, NameKind.free) ∈ scope.names
theorem relabel_free {env : Env} : ∀ {names : List (Str × NameKind)} {x : Str}, names.lookup x = some .free →
    (names.map fun (n, k) => if (k == NameKind.free && env.scope.kind == .function && env.kindOf n == some .cell) then (n, NameKind.cell) else (n, k)).lookup x ≠ some .local
  | [], _, h => by simp at h
  | (n, k) :: r, x, h => by
    have ih := @relabel_free env r x
    show List.lookup x ((if (k == NameKind.free && env.scope.kind == .function && env.kindOf n == some .cell) = true then (n, NameKind.cell) else (n, k)) :: _) ≠ _
    cases hx : x == n with
    | true =>
      simp only [List.lookup_cons, hx] at h
      cases h
      by_cases hc : (NameKind.free == NameKind.free && env.scope.kind == .function && env.kindOf n == some .cell) = true
      · rw [if_pos hc]; simp [List.lookup_cons, hx]
      · rw [if_neg hc]; simp [List.lookup_cons, hx]
    | false =>
      simp only [List.lookup_cons, hx] at h
      by_cases hc : (k == NameKind.free && env.scope.kind == .function && env.kindOf n == some .cell) = true
      · rw [if_pos hc]; simp only [List.lookup_cons, hx]; exact ih h
      · rw [if_neg hc]; simp only [List.lookup_cons, hx]; exact ih h
section
variable {X : Cx} {scope : Scope} {own N' : List Str} {caps : List Nat}
theorem filterMap_get {α : Type} (N : List α) : ∀ (caps : List Nat), (∀ i ∈ caps, i < N.length) → ∀ (j : Nat) (x : α), (caps.filterMap fun i => N[i]?)[j]? = some x → ∃ i, caps[j]? = some i ∧ N[i]? = some x
  | [], _, j, x, h => by simp at h
  | a :: r, hc, j, x, h => by
    have ha := hc a List.mem_cons_self
    rw [List.filterMap_cons, List.getElem?_eq_getElem ha] at h
    cases j with
    | zero => exact ⟨a, rfl, by rw [List.getElem?_eq_getElem ha]; simpa using h⟩
    | succ j =>
      obtain ⟨i, h1, h2⟩ := filterMap_get N r (fun i hi => hc i (List.mem_cons_of_mem _ hi)) j x (by simpa using h)
      exact ⟨i, by simpa using h1, h2⟩
theorem filterMap_len {α : Type} (N : List α) : ∀ (caps : List Nat), (∀ i ∈ caps, i < N.length) → (caps.filterMap fun i => N[i]?).length = caps.length
  | [], _ => rfl
  | a :: r, hc => by
    have ha := hc a List.mem_cons_self
    rw [List.filterMap_cons, List.getElem?_eq_getElem ha]
    simp [filterMap_len N r fun i hi => hc i (List.mem_cons_of_mem _ hi)]
theorem Inv.enterComp {pins : List (Addr × Obj)} {σ : St} {H : Hp} {s : Shared} {cl : List (Str × Addr)} {fp : List Addr} {h1 : Heap} {tk : Nat} (I : Inv X pins σ H s) (T : CompText X scope own caps N')
    (hcl : ∀ x c, cl.lookup x = some c → X.env.cells.lookup x = some c) (hcl2 : ∀ y ∈ scope.names, y.2 = .free → ∃ c, cl.lookup y.1 = some c)
    (hf : ∀ b ∈ fp, FpOk X pins H b) (hfo : ∀ b ∈ fp, ∃ o, s.heap.get? b = some o) (hns : h1.Ns s.heap.objs.size (fun _ => none)) (hk : ∀ b o, s.heap.get? b = some o → h1.get? b = some o) :
    Inv (cxComp X N' scope cl s.heap.objs.size s H fp) [] (cpOf own.length caps σ) H { s with heap := h1, toks := tk } := by
  have lenN : N'.length = own.length + caps.length := by rw [T.hN, List.length_append, filterMap_len _ _ T.cap]
  refine ⟨⟨I.ok.mod, ?_, I.ok.glob, I.ok.blt, Nat.le_refl _, fun x y c h1 h2 => I.ok.inj x y c (hcl x c h1) (hcl y c h2), fun x hx => ?_, fun x c h => absurd h Bool.false_ne_true, I.ok.hd, I.ok.frames, .inl rfl,
      fun b hb => ⟨?_, fun x c e => (hf b hb).2.2.2.2.1 x c (hcl x c e)⟩, fun b o e => I.bs b o e, Nat.le_trans I.ok.bsz I.sz, fun b o e hb => ?_, fun b hb z => ?_, I.stack, I.stkFree⟩,
    rfl, I.bare, Un.kept hk, ⟨_, hns, fun i x v e1 e2 e3 => ?_⟩, fun x c e => ?_, I.hok.fresh (Nat.le_refl _), fun x c e => ⟨fun z => absurd z Bool.false_ne_true, (I.freeC x c (hcl x c e)).2⟩, fun p hp => absurd (show p ∈ ([] : List (Addr × Obj)) from hp) (by simp), I.hok.kept hk, ?_⟩
  · show (relabel scope X.env).kind = .function
    exact T.kind
  · exact hcl2 (x, .free) (T.look x hx) rfl
  · obtain ⟨o, e⟩ := hfo b hb
    exact Nat.ne_of_lt (Heap.lt_size e)
  · rcases (hf b hb).2.2.2.1 with z | z
    · exact I.ok.noex b o e z
    · exact absurd (Nat.lt_of_lt_of_le (Heap.lt_size e) (Nat.le_trans I.ok.bsz z)) (Nat.lt_irrefl _)
  · rcases List.mem_cons.mp (I.stkSub b z) with q | q
    · exact (hf b hb).2.1 q
    · exact (hf b hb).2.2.1 q
  · -- the values of the block's names
    have e1' : N'[i]? = some x := e1
    rw [T.hN] at e1'
    have e2' : (cpOf own.length caps σ)[i]? = some (some v) := e2
    unfold cpOf at e2'
    by_cases hi : i < own.length
    · rw [List.getElem?_append_left (by simpa using hi), List.getElem?_replicate, if_pos hi] at e2'
      cases e2'
    · rw [List.getElem?_append_right (by simpa using hi), List.length_replicate] at e2'
      rw [List.getElem?_append_right (by omega)] at e1'
      obtain ⟨j, hj, hx⟩ := filterMap_get X.N caps T.cap _ _ e1'
      rw [List.getElem?_map, hj] at e2'
      have e3' : σ.getD j none = some v := Option.some.inj e2'
      have hs : σ[j]? = some (some v) := by
        rw [List.getD_eq_getElem?_getD] at e3'
        cases q : σ[j]? with
        | none =>
          rw [q] at e3'
          cases e3'
        | some z =>
          rw [q] at e3'
          have : z = some v := e3'
          rw [this]
      have hfree := T.capk j (List.mem_of_getElem? hj) x hx
      have hmem : (x, NameKind.free) ∈ scope.names := PySem.mem_of_lookup hfree
      have hkd := T.free _ hmem rfl
      obtain ⟨m, hn, hl⟩ := I.loc
      obtain ⟨u, r, l⟩ := hl j x v hx hs (by
        rcases hkd with z | z
        · exact .inr (.inl z)
        · exact .inr (.inr z))
      rcases l with ⟨q, _⟩ | ⟨_, c, hc, hcell⟩
      · rcases hkd with z | z
        · rw [show X.env.kindOf x = some .local from q] at z; cases z
        · rw [show X.env.kindOf x = some .local from q] at z; cases z
      · obtain ⟨c', hc'⟩ := hcl2 _ hmem rfl
        have hc2 := hcl x c' hc'
        rw [hc] at hc2
        cases hc2
        refine ⟨u, r, .inr ⟨?_, c, hc', ?_⟩⟩
        · rcases e3 with z | z | z
          · -- a free name does not become local
            exfalso
            have : (relabel scope X.env).names.lookup x = some .local := z
            rw [show (relabel scope X.env).names = scope.names.map fun (n, k) => if (k == .free && X.env.scope.kind == .function && X.env.kindOf n == some .cell) then (n, .cell) else (n, k) from rfl] at this
            exact absurd this (relabel_free hfree)
          · exact .inl z
          · exact .inr z
        · obtain ⟨o, ho, hd⟩ := hcell
          exact ⟨o, hk _ _ ho, hd⟩
  · obtain ⟨v, o, ho, hd⟩ := I.cell x c (hcl x c e)
    exact ⟨v, o, hk _ _ ho, hd⟩
  · show (cpOf own.length caps σ).length = N'.length
    rw [lenN]
    unfold cpOf
    simp
theorem Inv.leaveComp {pins pins' : List (Addr × Obj)} {σ σ' : St} {H H' : Hp} {s s' : Shared} {cl : List (Str × Addr)} {fp : List Addr} {h2 : Heap} (I : Inv X pins σ H s) (hf : ∀ b ∈ fp, FpOk X pins H b)
    (J : Inv (cxComp X N' scope cl s.heap.objs.size s H fp) pins' σ' H' s') (hs : Heap.SameBut s.heap.objs.size s'.heap h2) : Inv X pins σ H' { s' with heap := h2 } := by
  have fr : H' s.heap.objs.size = none := J.free
  have ne : ∀ b o, s.heap.get? b = some o → b ≠ s.heap.objs.size := fun b o e => Nat.ne_of_lt (Heap.lt_size e)
  have U : Un (frs X.stack) fp H H' s.heap s'.heap := J.base
  refine I.call' (s' := { s' with heap := h2 }) (ch := fp) J.os ⟨fun b o e n hb hx => (hs.2 b (ne b o e)).trans (U.keep b o e n hb hx), fun b o e n hb hx => ?_, U.free, fun b o e hx => ?_, U.tups, U.frzs, U.tbls⟩ (fun a o e => ?_) J.bare fun b hb => ?_
  · obtain ⟨sl, q⟩ := U.slot b o e n hb hx
    exact ⟨sl, (hs.2 b (ne b o e)).trans q⟩
  · obtain ⟨o', q⟩ := U.there b o e hx
    exact ⟨o', (hs.2 b (ne b o e)).trans q⟩
  · refine (J.hok a o e).stay (fun b u hb q => (hs.2 b ?_).trans q) (fun _ q => q) fun _ _ q => q
    intro z
    rcases hb with hb | hb
    · rw [← hb, z, fr] at e
      cases e
    · rw [z, fr] at hb
      cases hb
  · obtain ⟨f0, f1, f2, f3, f4, f5⟩ := hf b hb
    exact ⟨f3, f1, f4, f5⟩
theorem comp_core {elt tg iter : Expr} {ifs : List Expr} {pos : Pos} {wi : TI} {g : TG} {tc : TT} {te : TE} (hc : X.calm = true) (T : CompText X scope own caps N') (hi : PI X tg iter wi)
    (hg : ∀ cl C s H fp, PG (cxComp X N' scope cl C s H fp) tg g) (ht : ∀ cl C s H fp, PTs (cxComp X N' scope cl C s H fp) ifs tc) (he : ∀ cl C s H fp, PE (cxComp X N' scope cl C s H fp) elt te)
    {pins : List (Addr × Obj)} {σ : St} {H : Hp} {s : Shared} {Q : VK} (I : Inv X pins σ H s) (h : tComp wi g tc te (cpOf own.length caps) σ H Q) {cl : List (Str × Addr)}
    (hcl : ∀ x c, cl.lookup x = some c → X.env.cells.lookup x = some c) (hcl2 : ∀ y ∈ scope.names, y.2 = .free → ∃ c, cl.lookup y.1 = some c) {RR : Value → Addr → Result → Shared → Prop}
    (k : ∀ {s3 : Shared} {H3 : Hp} {D : Addr} {fp : List Addr} {σ5 : St} {H5 : Hp} {s6 : Shared}, Inv X pins σ H3 s3 → (∀ b ∈ fp, FpOk X pins H3 b) → Inv (cxComp X N' scope cl s3.heap.objs.size s3 H3 fp) [] σ5 H5 s6 → Q (.ref D) H5 → RR (.ref D) s3.heap.objs.size (.ok .next) s6) :
    wpAny (model X.prog X.w) X.A (eval iter X.env) (fun x s₁ => wpAny (model X.prog X.w) X.A (pyIter x) (fun it s₂ => wpAny (model X.prog X.w) X.A (newList []) (fun acc s₃ =>
      wpAny (model X.prog X.w) X.A (newFunctionEnv scope X.env.globals cl [] X.env.qual none .none (some X.env)) (fun cenv s₄ =>
        codeAny (model X.prog X.w) X.A (.compStart (.ListComp elt [⟨tg, iter, ifs, 0⟩] scope pos) 0 it acc { cenv with scope := relabel scope X.env }) (RR acc cenv.locals) s₄) X.xe s₃) X.xe s₂) X.xe s₁) X.xe s := by
  refine thn (hi pins s σ H _ I h) fun xv s1 h1 => thn h1 fun itv s2 h2 => ?_
  obtain ⟨it, fp, tn, J, H2, rfl, I2, TU, st2, f2, q2⟩ := h2
  have fo : ∀ b ∈ fp, ∃ o, s2.heap.get? b = some o := fun b hb => let ⟨o, e, _⟩ := TU.obj _ _ st2 b hb; ⟨o, e⟩
  obtain ⟨W, ⟨m0, w0⟩, turn⟩ := q2 s2.heap.objs.size I2.fresh
  refine wpAny_newObj_type ?_
  have I3 : Inv X pins σ (upd H2 s2.heap.objs.size (.lst [])) { s2 with heap := s2.heap.push { cls := .type "list", data := .seq ([] : List Value).toArray } } := I2.lnew (t' := s2.toks) .nil (Nat.zero_le _)
  generalize hs3 : ({ s2 with heap := s2.heap.push { cls := .type "list", data := .seq ([] : List Value).toArray } } : Shared) = s3 at I3
  have k3 : ∀ b o, s2.heap.get? b = some o → s3.heap.get? b = some o := fun b o e => by rw [← hs3]; exact Heap.get?_push_of_some _ e
  have f3 : ∀ b ∈ fp, FpOk X pins (upd H2 s2.heap.objs.size (.lst [])) b := fun b hb => by
    obtain ⟨o, e⟩ := fo b hb
    exact ⟨by rw [upd_ne (Nat.ne_of_lt (Heap.lt_size e))]; exact (f2 b hb).1, (f2 b hb).2⟩
  have fo3 : ∀ b ∈ fp, ∃ o, s3.heap.get? b = some o := fun b hb => let ⟨o, e⟩ := fo b hb; ⟨o, k3 b o e⟩
  have st3 : tn 0 s3.heap := TU.keep _ _ _ st2 fun b hb o e => k3 b o e
  show wpAny _ _ _ _ _ s3
  refine wpAny_newFunctionEnv T.nocell (fun y hy => (nomatch hy)) (fun h4 hns hsb => ?_) T.kind
  have k4 : ∀ b o, s3.heap.get? b = some o → h4.get? b = some o := fun b o e => (hsb.2 b (Nat.ne_of_lt (Heap.lt_size e))).trans (Heap.get?_push_of_some _ e)
  have J4 : Inv (cxComp X N' scope cl s3.heap.objs.size s3 (upd H2 s2.heap.objs.size (.lst [])) fp) [] (cpOf own.length caps σ) (upd H2 s2.heap.objs.size (.lst [])) { s3 with heap := h4, toks := s3.toks + 0 } :=
    I3.enterComp T hcl hcl2 f3 fo3 hns k4
  have st4 : tn 0 h4 := TU.keep _ _ _ st3 fun b hb o e => k4 b o e
  have stat : ∀ {H' : Hp}, (∀ b ∈ fp, H' b = none) → ∀ b ∈ fp, FpOk (cxComp X N' scope cl s3.heap.objs.size s3 (upd H2 s2.heap.objs.size (.lst [])) fp) [] H' b := fun hn b hb => by
    obtain ⟨o, e⟩ := fo3 b hb
    refine ⟨hn b hb, Nat.ne_of_lt (Heap.lt_size e), fun z => ?_, .inl hb, fun x c q => (f3 b hb).2.2.2.2.1 x c (hcl x c q), fun p hp => absurd (show p ∈ ([] : List (Addr × Obj)) from hp) (by simp)⟩
    rcases List.mem_cons.mp (I3.stkSub b z) with q | q
    · exact (f3 b hb).2.1 q
    · exact (f3 b hb).2.2.1 q
  have loop : codeAny (model X.prog X.w) X.A (.compLoop (.ListComp elt [⟨tg, iter, ifs, 0⟩] scope pos) 0 (.ref it) (.ref s2.heap.objs.size) (compEnvC scope cl s3.heap.objs.size X.env))
      (RR (.ref s2.heap.objs.size) s3.heap.objs.size) { s3 with heap := h4, toks := s3.toks + 0 } := by
    refine compLoop_go (fun n s' => ∃ i σ' H', Inv (cxComp X N' scope cl s3.heap.objs.size s3 (upd H2 s2.heap.objs.size (.lst [])) fp) [] σ' H' s' ∧ tn i s'.heap ∧ (∀ b ∈ fp, H' b = none) ∧ W i n σ' H') ?_ m0
      ⟨0, _, _, J4, st4, fun b hb => (f3 b hb).1, w0⟩
    rintro n s5 ⟨i, σ5, H5, I5, st5, fr5, w5⟩
    rcases turn i n σ5 H5 w5 with ⟨stop, qn⟩ | ⟨go, N, hN, step⟩
    · refine thn (TU.done (cxComp X N' scope cl s3.heap.objs.size s3 (upd H2 s2.heap.objs.size (.lst [])) fp) rfl rfl rfl hc i [] s5 σ5 H5 (fun _ _ => False) I5 (stat fr5) st5 stop) fun r s6 ⟨hr, I6⟩ => ?_
      subst hr
      exact k I3 f3 I6 qn
    · refine thn (TU.item (cxComp X N' scope cl s3.heap.objs.size s3 (upd H2 s2.heap.objs.size (.lst [])) fp) rfl rfl rfl hc i [] s5 σ5 H5 (fun _ _ => False) I5 (stat fr5) st5 go) fun r s6 ⟨u, hr, h6⟩ => ?_
      subst hr
      refine thn h6 fun _ s7 ⟨x, H7, I7, r7, y7, st7, fr7⟩ => ?_
      have I7' := I7.pinned (stat fr7) (TU.obj _ _ st7)
      have again : ∀ {σ' : St} {H' : Hp} {s' : Shared}, Inv (cxComp X N' scope cl s3.heap.objs.size s3 (upd H2 s2.heap.objs.size (.lst [])) fp) ([] ++ pinsAt fp s7.heap) σ' H' s' → N σ' H' →
          ∃ m, m < n ∧ ∃ i σ' H', Inv (cxComp X N' scope cl s3.heap.objs.size s3 (upd H2 s2.heap.objs.size (.lst [])) fp) [] σ' H' s' ∧ tn i s'.heap ∧ (∀ b ∈ fp, H' b = none) ∧ W i m σ' H' := fun {σ' H' s'} I' n' => by
        obtain ⟨m', hm, w'⟩ := hN σ' H' n'
        refine ⟨m', hm, i + 1, σ', H', I'.unpinned, TU.keep _ _ _ st7 fun b hb o e => (I'.pin (b, o) (List.mem_append_right _ (List.mem_append_right _ (mem_pinsAt hb e)))).1, fun b hb => ?_, w'⟩
        obtain ⟨o, e, d⟩ := TU.obj _ _ st7 b hb
        exact (I'.pin (b, o) (List.mem_append_right _ (List.mem_append_right _ (mem_pinsAt hb e)))).2.1
      refine thn (hg _ _ _ _ _ _ s7 σ5 H7 x u _ I7' r7 (step x H7 y7)) fun _ s8 ⟨σ8, H8, I8, q8⟩ => ?_
      refine thn (ht _ _ _ _ _ _ s8 σ8 H8 _ I8 q8) fun b s9 ⟨H9, I9, q9⟩ => ?_
      cases b with
      | false =>
        rw [if_neg Bool.false_ne_true] at q9 ⊢
        exact again I9 q9
      | true =>
        rw [if_pos rfl] at q9 ⊢
        refine thn (he _ _ _ _ _ _ s9 σ8 H9 _ I9 q9) fun v s10 ⟨y, H10, I10, r10, acc, hD, hl, hn⟩ => ?_
        refine thn (mt_append _ s10 σ8 H10 (.ref s2.heap.objs.size) [y] (.ref s2.heap.objs.size) [v] (fun _ H' => N σ8 H') I10 rfl (.cons r10 .nil) ⟨_, acc, y, rfl, rfl, hD, hl, hn⟩) fun _ s11 ⟨_, H11, I11, _, n11⟩ => ?_
        exact again I11 n11
  exact codeAny_compStart_list loop (TU.self _ 0 _ _ _ st4 loop)
theorem pe_comp {elt tg iter : Expr} {ifs : List Expr} {pos : Pos} {wi : TI} {g : TG} {tc : TT} {te : TE} (hc : X.calm = true) (T : CompText X scope own caps N') (hi : PI X tg iter wi)
    (hg : ∀ cl C s H fp, PG (cxComp X N' scope cl C s H fp) tg g) (ht : ∀ cl C s H fp, PTs (cxComp X N' scope cl C s H fp) ifs tc) (he : ∀ cl C s H fp, PE (cxComp X N' scope cl C s H fp) elt te)
    (hs : ∀ x, foldedSetIterable iter X.env x = pure x := by intro _; rfl) : PE X (.ListComp elt [⟨tg, iter, ifs, 0⟩] scope pos) (tComp wi g tc te (cpOf own.length caps)) := by
  intro pins s σ H Q I h
  obtain ⟨cl, hclos, hcl, hcl2⟩ := closureFor_of (scope := scope) (env := X.env) (fun y hy hf => I.ok.has y.1 (T.free y hy hf))
  rw [eval_ListComp]
  refine wpAny_comprehension_free (use := none) rfl hs hclos T.kind T.names (comp_core hc T hi hg ht he I h hcl hcl2 (RR := fun acc C => compPost (model X.prog X.w) X.A X.xe none (EP X pins σ Q) acc C) ?_)
  intro s3 H3 D fp σ5 H5 s6 I3 f3 I6 qn
  obtain ⟨m, hn, _⟩ := I6.loc
  exact ⟨m, hn, fun h' hs' => ⟨.ref D, H5, I3.leaveComp f3 I6 hs', rfl, qn⟩⟩
theorem ps_setC {elt tg iter : Expr} {ifs : List Expr} {pos spos py : Pos} {y : Str} {i : Nat} {wi : TI} {g : TG} {tc : TT} {te : TE} (hN : X.N.Nodup) (hi' : X.N[i]? = some y) (hx : Loc X.env.scope y) (hc : X.calm = true) (T : CompText X scope own caps N') (hi : PI X tg iter wi)
    (hg : ∀ cl C s H fp, PG (cxComp X N' scope cl C s H fp) tg g) (ht : ∀ cl C s H fp, PTs (cxComp X N' scope cl C s H fp) ifs tc) (he : ∀ cl C s H fp, PE (cxComp X N' scope cl C s H fp) elt te)
    (hsw : swapsWith (.ListComp elt [⟨tg, iter, ifs, 0⟩] scope pos) (some (.Name y py)) spos.line X.env = pure true := by rfl) (hs : ∀ x, foldedSetIterable iter X.env x = pure x := by intro _; rfl)
    (hf : X.fn y = true ∨ X.env.scope.names.lookup y = some .local := by first | exact .inl rfl | exact .inr rfl | assumption) :
    PS X (.Assign [.Name y py] (.ListComp elt [⟨tg, iter, ifs, 0⟩] scope pos) spos) (tAsg (tComp wi g tc te (cpOf own.length caps)) (gName i)) := by
  intro pins s σ H Dn I h
  obtain ⟨cl, hclos, hcl, hcl2⟩ := closureFor_of (scope := scope) (env := X.env) (fun y hy hf => I.ok.has y.1 (T.free y hy hf))
  rw [exec_Assign_Name_used _ _ _ _ hsw]
  refine wpAny_bind (wpAny_standAt (wpAny_bind ?_))
  show wpAny _ X.A (do let _ ← comprehension (.ListComp elt [⟨tg, iter, ifs, 0⟩] scope pos) scope X.env _ (newList []) false (eval iter X.env) (some (assign (.Name y py) X.env))) _ _ s
  refine wpAny_bind (wpAny_mono (wpAny_comprehension_free (use := some (assign (.Name y py) X.env)) (Q := fun _ s' => SP X pins Dn .next s') rfl hs hclos T.kind T.names
    (comp_core hc T hi hg ht he I h hcl hcl2 (RR := fun acc C => compPost (model X.prog X.w) X.A X.xe (some (assign (.Name y py) X.env)) (fun _ s' => SP X pins Dn .next s') acc C) ?_)) (fun _ s' hq => wpAny_pure (wpAny_pure hq)) fun _ _ e => e)
  intro s3 H3 D fp σ5 H5 s6 I3 f3 I6 qn
  obtain ⟨m, ⟨oC, es, ep, hoC, hdC, rC⟩, _⟩ := I6.loc
  have I7 : Inv X pins σ H5 { s6 with heap := s6.heap } := I3.leaveComp f3 I6 (Heap.SameBut.refl _ _)
  have fC : FpOk X pins H5 s3.heap.objs.size := I3.fpOk (Nat.le_refl _) I6.free
  have I8 : Inv X (pins ++ [(s3.heap.objs.size, oC)]) σ H5 s6 := I7.pins_of fun p hp => by
    rcases List.mem_append.mp hp with z | z
    · exact I7.pin p (List.mem_append_right _ z)
    · rw [List.mem_singleton.mp z]
      exact ⟨hoC, fC.1, fC.2.1, fC.2.2.1, fun v q => by rw [hdC] at q; cases q⟩
  show wpAny _ X.A (assign (.Name y py) X.env (.ref D)) _ _ s6
  refine wpAny_assign_Name (store_ok I8 hN hi' hx (v := .ref D) rfl (fun s9 I9 => ?_) hf)
  have hC9 := (I9.pin (s3.heap.objs.size, oC) (List.mem_append_right _ (List.mem_append_right _ List.mem_cons_self))).1
  refine ⟨m, ⟨oC, es, ep, hC9, hdC, rC⟩, fun h' hs' => ?_⟩
  have I10 : Inv X pins (σ.set i (some (.ref D))) H5 s9 := I9.unpinned
  exact ⟨_, H5, I10.turnN (t' := s9.toks) (ch := [s3.heap.objs.size]) (fun b u hb q => (hs'.2 b (fun z => hb (by simp [z]))).trans q) fun b hb => by rw [List.mem_singleton.mp hb]; exact fC, qn⟩
end
def compOk (outer : Scope) (N : List Str) (scope : Scope) (own : List Str) (caps : List Nat) (N' : List Str) : Bool :=
  (scope.kind == .function) && scope.names.all (fun y => y.2 != .cell) && scope.names.all (fun y => y.2 != .local || scope.names.lookup y.1 == some .local) &&
  scope.names.all (fun y => y.2 != .free || (outer.names.lookup y.1 == some .cell || outer.names.lookup y.1 == some .free)) && decide (N' = own ++ caps.filterMap fun i => N[i]?) &&
  caps.all (fun i => match N[i]? with | some x => scope.names.lookup x == some .free | none => false)
theorem relabel_look {env : Env} : ∀ {names : List (Str × NameKind)} {x : Str}, (∀ y ∈ names, y.2 ≠ .cell) →
    ((names.map fun (n, k) => if (k == NameKind.free && env.scope.kind == .function && env.kindOf n == some .cell) then (n, NameKind.cell) else (n, k)).lookup x = some .cell ∨
     (names.map fun (n, k) => if (k == NameKind.free && env.scope.kind == .function && env.kindOf n == some .cell) then (n, NameKind.cell) else (n, k)).lookup x = some .free) → (x, NameKind.free) ∈ names
  | [], _, _, h => by simp at h
  | (n, k) :: r, x, hn, h => by
    have ih := @relabel_look env r x (fun y hy => hn y (List.mem_cons_of_mem _ hy))
    have hk : k ≠ .cell := hn (n, k) List.mem_cons_self
    change List.lookup x ((if (k == NameKind.free && env.scope.kind == .function && env.kindOf n == some .cell) = true then (n, NameKind.cell) else (n, k)) :: _) = _ ∨
      List.lookup x ((if (k == NameKind.free && env.scope.kind == .function && env.kindOf n == some .cell) = true then (n, NameKind.cell) else (n, k)) :: _) = _ at h
    cases hx : x == n with
    | true =>
      have e := beq_iff_eq.mp hx
      subst e
      by_cases hc : (k == NameKind.free && env.scope.kind == .function && env.kindOf x == some .cell) = true
      · have : k = .free := by
          rw [Bool.and_eq_true, Bool.and_eq_true] at hc
          simpa using hc.1.1
        rw [this]
        exact List.mem_cons_self
      · rw [if_neg hc] at h
        simp only [List.lookup_cons, hx] at h
        rcases h with h | h
        · exact absurd (Option.some.inj h) hk
        · rw [Option.some.inj h]
          exact List.mem_cons_self
    | false =>
      refine List.mem_cons_of_mem _ (ih ?_)
      by_cases hc : (k == NameKind.free && env.scope.kind == .function && env.kindOf n == some .cell) = true
      · rw [if_pos hc] at h
        simpa only [List.lookup_cons, hx] using h
      · rw [if_neg hc] at h
        simpa only [List.lookup_cons, hx] using h
theorem compText_of {X : Cx} {scope : Scope} {own N' : List Str} {caps : List Nat} (h : compOk X.env.scope X.N scope own caps N' = true) : CompText X scope own caps N' := by
  unfold compOk at h
  simp only [Bool.and_eq_true] at h
  obtain ⟨⟨⟨⟨⟨h1, h2⟩, h3⟩, h4⟩, h5⟩, h6⟩ := h
  have nc : ∀ y ∈ scope.names, y.2 ≠ .cell := fun y hy => by simpa using List.all_eq_true.mp h2 y hy
  have cp : ∀ i ∈ caps, ∃ x, X.N[i]? = some x ∧ scope.names.lookup x = some .free := fun i hi => by
    have q := List.all_eq_true.mp h6 i hi
    cases e : X.N[i]? with
    | none =>
      rw [e] at q
      cases q
    | some x =>
      rw [e] at q
      exact ⟨x, rfl, by simpa using q⟩
  refine ⟨by simpa using h1, nc, fun y hy hl => ?_, fun y hy hf => ?_, of_decide_eq_true h5, fun i hi => ?_, fun i hi x e => ?_, fun x hx => relabel_look nc hx⟩
  · have q := List.all_eq_true.mp h3 y hy
    rw [hl] at q
    simpa using q
  · have q := List.all_eq_true.mp h4 y hy
    rw [hf] at q
    simp at q
    exact q
  · obtain ⟨x, e, _⟩ := cp i hi
    exact (List.getElem?_eq_some_iff.mp e).1
  · obtain ⟨y, e', q⟩ := cp i hi
    rw [e] at e'
    cases e'
    exact q
theorem comp_list {K : PySem.W.Frag} {a D : Addr} {xs : List V} {g : TG} {tc : TT} {te : TE} {Q : VK} {σ : St} {H : Hp} (Pv : Nat → St → Hp → Prop) (h0 : Pv 0 σ H) (hl : ∀ i σ H, i ≤ xs.length → Pv i σ H → SqL K H a xs)
    (hs : ∀ i x σ H, xs[i]? = some x → Pv i σ H → g x σ H fun σ3 H3 => tc σ3 H3 fun b H4 => if b = true then te σ3 H4 fun y H5 => ∃ acc, H5 D = some (.lst acc) ∧ acc.length < sizeLine ∧ Pv (i + 1) σ3 (upd H5 D (.lst (acc ++ [y]))) else Pv (i + 1) σ3 H4)
    (hd : ∀ σ H, Pv xs.length σ H → Q (.ref D) H) :
    CompW (Itl K a) g tc te Q D σ H := by
  refine ⟨fun i m σ H => m = xs.length - i ∧ i ≤ xs.length ∧ Pv i σ H, ⟨xs.length, by simp, Nat.zero_le _, h0⟩, ?_⟩
  rintro i m σ H ⟨rfl, hi, p⟩
  have q := hl i σ H hi p
  by_cases hlt : i < xs.length
  · refine .inr ⟨⟨xs, xs[i], q, by simp [hlt]⟩, Pv (i + 1), fun σ' H' p' => ⟨xs.length - (i + 1), by omega, rfl, hlt, p'⟩, fun x H' y => ?_⟩
    obtain ⟨e, y⟩ := y
    subst e
    exact hs i x σ _ (y xs q) p
  · have e : i = xs.length := by omega
    subst e
    exact .inl ⟨⟨xs, q, Nat.le_refl _⟩, hd σ H p⟩
theorem comp_range {lo : Int} {n : Nat} {D : Addr} {g : TG} {tc : TT} {te : TE} {Q : VK} {σ : St} {H : Hp} (Pv : Nat → St → Hp → Prop) (h0 : Pv 0 σ H)
    (hs : ∀ i σ H, i < n → Pv i σ H → g (.int (lo + i)) σ H fun σ3 H3 => tc σ3 H3 fun b H4 => if b = true then te σ3 H4 fun y H5 => ∃ acc, H5 D = some (.lst acc) ∧ acc.length < sizeLine ∧ Pv (i + 1) σ3 (upd H5 D (.lst (acc ++ [y]))) else Pv (i + 1) σ3 H4)
    (hd : ∀ σ H, Pv n σ H → Q (.ref D) H) :
    CompW (Itr lo n) g tc te Q D σ H := by
  refine ⟨fun i m σ H => m = n - i ∧ i ≤ n ∧ Pv i σ H, ⟨n, by simp, Nat.zero_le _, h0⟩, ?_⟩
  rintro i m σ H ⟨rfl, hi, p⟩
  by_cases hlt : i < n
  · refine .inr ⟨hlt, Pv (i + 1), fun σ' H' p' => ⟨n - (i + 1), by omega, rfl, hlt, p'⟩, fun x H' y => ?_⟩
    obtain ⟨e, y⟩ := y
    subst e y
    exact hs i σ _ hlt p
  · have e : i = n := by omega
    subst e
    exact .inl ⟨Nat.le_refl _, hd σ H p⟩
end L2
set_option Elab.async false
set_option linter.all false
set_option maxRecDepth 100000
namespace L2
open PySem PySem.Spec PyProof.Rows
mutual
def DV (K : PySem.W.Frag) (H : Hp) : PyData → V → Prop
  | .none, v => v = .non
  | .bool b, v => v = .bl b
  | .int i, v => v = .int i
  | .str x, v => v = .str x
  | .list ds, v => ∃ a xs, v = .ref a ∧ SqL K H a xs ∧ DVs K H ds xs
  | .tuple ds, v => ∃ a xs, v = .ref a ∧ SqT K H a xs ∧ DVs K H ds xs
  | .dict _, _ => False
def DVs (K : PySem.W.Frag) (H : Hp) : List PyData → List V → Prop
  | [], xs => xs = []
  | d :: ds, xs => ∃ x r, xs = x :: r ∧ DV K H d x ∧ DVs K H ds r
end
section
variable {X : Cx} {pins : List (Addr × Obj)} {σ : St} {H : Hp} {s : Shared}
mutual
theorem Inv.reads (I : Inv X pins σ H s) : ∀ (d : PyData) (v : V) (u : Value), DV X.K H d v → RelV v u → ∃ as, Reads s.heap u d as
  | .none, v, u, h, r => by
    unfold DV at h
    subst h
    cases (show u = Value.none from r)
    exact ⟨_, .none⟩
  | .bool b, v, u, h, r => by
    unfold DV at h
    subst h
    cases (show u = Value.bool b from r)
    exact ⟨_, .bool b⟩
  | .int i, v, u, h, r => by
    unfold DV at h
    subst h
    obtain ⟨t, rfl⟩ := (show ∃ t, u = Value.int i t from r)
    exact ⟨_, .int i t⟩
  | .str x, v, u, h, r => by
    unfold DV at h
    subst h
    obtain ⟨t, rfl⟩ := (show ∃ t, u = Value.str x t from r)
    exact ⟨_, .str x t⟩
  | .list ds, v, u, h, r => by
    unfold DV at h
    obtain ⟨a, xs, rfl, hq, hd⟩ := h
    cases (show u = Value.ref a from r)
    obtain ⟨its, rv, p, _⟩ := I.list hq
    obtain ⟨as, ra⟩ := Inv.readsAll I ds xs its hd rv
    obtain ⟨o, e, c, n, q⟩ := p.isList
    exact ⟨_, .list e c q (by simpa using ra)⟩
  | .tuple ds, v, u, h, r => by
    unfold DV at h
    obtain ⟨a, xs, rfl, hq, hd⟩ := h
    cases (show u = Value.ref a from r)
    obtain ⟨its, rv, p, _⟩ := I.tuple hq
    obtain ⟨as, ra⟩ := Inv.readsAll I ds xs its hd rv
    obtain ⟨o, e, c, n, q⟩ := (show s.heap.IsTuple a its.toArray from p)
    exact ⟨_, .tuple e c q (by simpa using ra)⟩
  | .dict _, v, u, h, r => by
    unfold DV at h
    exact h.elim
theorem Inv.readsAll (I : Inv X pins σ H s) : ∀ (ds : List PyData) (xs : List V) (us : List Value), DVs X.K H ds xs → Vals xs us → ∃ as, ReadsAll s.heap us ds as
  | [], xs, us, h, r => by
    unfold DVs at h
    subst h
    cases r
    exact ⟨_, .nil⟩
  | d :: ds, xs, us, h, r => by
    unfold DVs at h
    obtain ⟨x, xr, rfl, h1, h2⟩ := h
    cases r with
    | cons r1 r2 =>
      obtain ⟨as, ra⟩ := Inv.reads I d x _ h1 r1
      obtain ⟨bs, rb⟩ := Inv.readsAll I ds xr _ h2 r2
      exact ⟨_, .cons ra rb⟩
end
end
def rEqD (K : PySem.W.Frag) (neg : Bool) : R2 := fun x y H Q => ∃ da db, DV K H da x ∧ DV K H db y ∧ da.canLay0 = true ∧ db.canLay0 = true ∧ da.depth ≤ 64 ∧ Q (.bl (if neg then !PyData.eqv da db else PyData.eqv da db)) H
theorem op_eqD {X : Cx} (hu : X.A.units + 64 < cLine) : OpR X (compareOp .Eq) (rEqD X.K false) := by
  intro pins s σ H x y v u Q I rx ry h
  obtain ⟨da, db, h1, h2, c1, c2, hd, q⟩ := h
  obtain ⟨as, ra⟩ := I.reads da x v h1 rx
  obtain ⟨bs, rb⟩ := I.reads db y u h2 ry
  exact SeqAt.compareEq_reads ra rb c1 c2 (by have := Nat.min_le_left da.depth db.depth; omega) ⟨.bl _, H, I, rfl, q⟩
theorem op_neD {X : Cx} (hu : X.A.units + 64 < cLine) : OpR X (compareOp .NotEq) (rEqD X.K true) := by
  intro pins s σ H x y v u Q I rx ry h
  obtain ⟨da, db, h1, h2, c1, c2, hd, q⟩ := h
  obtain ⟨as, ra⟩ := I.reads da x v h1 rx
  obtain ⟨bs, rb⟩ := I.reads db y u h2 ry
  exact SeqAt.compareNe_reads ra rb c1 c2 (by have := Nat.min_le_left da.depth db.depth; omega) ⟨.bl _, H, I, rfl, q⟩
theorem dvs_ints {K : PySem.W.Frag} {H : Hp} : ∀ ns : List Int, DVs K H (ns.map PyData.int) (ns.map V.int)
  | [] => by unfold DVs; rfl
  | n :: r => by
    unfold DVs
    exact ⟨_, _, rfl, by unfold DV; rfl, dvs_ints r⟩
theorem dv_ints {K : PySem.W.Frag} {H : Hp} {a : Addr} {ns : List Int} (h : SqL K H a (ns.map V.int)) : DV K H (.list (ns.map PyData.int)) (.ref a) := by
  unfold DV
  exact ⟨a, _, rfl, h, dvs_ints ns⟩
theorem lay_ints : ∀ ns : List Int, PyData.canLayAll0 (ns.map PyData.int) = true
  | [] => by unfold PyData.canLayAll0; rfl
  | n :: r => by
    show PyData.canLayAll0 (PyData.int n :: r.map PyData.int) = true
    unfold PyData.canLayAll0
    rw [lay_ints r]
    unfold PyData.canLay0
    rfl
theorem deep_ints : ∀ ns : List Int, PyData.depthAll (ns.map PyData.int) = 0
  | [] => by unfold PyData.depthAll; rfl
  | n :: r => by
    show PyData.depthAll (PyData.int n :: r.map PyData.int) = 0
    unfold PyData.depthAll
    rw [deep_ints r]
    unfold PyData.depth
    rfl
def rEqL (K : PySem.W.Frag) (neg : Bool) : R2 := fun x y H Q => ∃ (a b : Addr) (ns ms : List Int), x = .ref a ∧ y = .ref b ∧ SqL K H a (ns.map V.int) ∧ SqL K H b (ms.map V.int) ∧ Q (.bl (if neg then !decide (ns = ms) else decide (ns = ms))) H
theorem rEqL_D {K : PySem.W.Frag} {neg : Bool} {x y : V} {H : Hp} {Q : VK} (h : rEqL K neg x y H Q) : rEqD K neg x y H Q := by
  obtain ⟨a, b, ns, ms, rfl, rfl, h1, h2, q⟩ := h
  have e : PyData.eqv (.list (ns.map PyData.int)) (.list (ms.map PyData.int)) = decide (ns = ms) := by
    unfold PyData.eqv
    exact PySem.W.ked_eqvAll ns ms
  refine ⟨.list (ns.map PyData.int), .list (ms.map PyData.int), dv_ints h1, dv_ints h2, ?_, ?_, ?_, ?_⟩
  · unfold PyData.canLay0
    exact lay_ints ns
  · unfold PyData.canLay0
    exact lay_ints ms
  · unfold PyData.depth
    rw [deep_ints]
    decide
  · rw [e]
    exact q
theorem op_eqL {X : Cx} (hu : X.A.units + 64 < cLine) : OpR X (compareOp .Eq) (rEqL X.K false) := fun pins s σ H x y v u Q I rx ry h => op_eqD hu pins s σ H x y v u Q I rx ry (rEqL_D h)
theorem op_neL {X : Cx} (hu : X.A.units + 64 < cLine) : OpR X (compareOp .NotEq) (rEqL X.K true) := fun pins s σ H x y v u Q I rx ry h => op_neD hu pins s σ H x y v u Q I rx ry (rEqL_D h)
theorem mt_bitlen {X : Cx} : MtR X "int.bit_length" (fun x xs H Q => ∃ i, x = .int i ∧ xs = [] ∧ Q (.int (Builtin.Int.intBits i : Nat)) H) := by
  intro pins s σ H x xs v us Q I rx rs h
  obtain ⟨i, rfl, rfl, q⟩ := h
  obtain ⟨t, rfl⟩ := rx
  cases rs
  exact call_int_bit_length ⟨.int (Builtin.Int.intBits i : Nat), H, I.tok _, ⟨_, rfl⟩, q⟩
theorem pe_bitlen {X : Cx} {o : Expr} {to : TE} {apos cpos : Pos} (ho : PE X o to) (hbase : attributeBase o "bit_length" X.env (eval o X.env) = eval o X.env := by rfl) (hline : (apos.endLine == cpos.line) = true := by rfl) :
    PE X (.Call (.Attribute o "bit_length" apos) [] [] cpos) (tBM0 X.K "int" (fun x xs H Q => ∃ i, x = .int i ∧ xs = [] ∧ Q (.int (Builtin.Int.intBits i : Nat)) H) to) :=
  pe_bm0 PySem.F.plainAttrs_int PySem.F.slot_int_bit_length PySem.F.type_int_bit_length mt_bitlen ho hbase hline
end L2
set_option Elab.async false
set_option linter.all false
set_option maxRecDepth 100000
namespace L2
open PySem PySem.Spec PyProof.Rows
def CellV (H : Hp) (c : Addr) (v : V) : Prop := ∃ o u k, H c = some (.frz o k) ∧ o.data = .cell (some u) ∧ RelV v u
theorem CellV.same {H H' : Hp} {c : Addr} {v : V} (x : CellV H c v) (h : ∀ o k, H c = some (.frz o k) → H' c = some (.frz o k)) : CellV H' c v := by
  obtain ⟨o, u, k, e, r⟩ := x
  exact ⟨o, u, k, h o k e, r⟩
section
variable {X : Cx} {pins : List (Addr × Obj)} {σ : St} {H : Hp} {s : Shared}
theorem Inv.freeze {x : Str} {c : Addr} {o : Obj} (I : Inv X pins σ H s) (hfn : X.fn x = false) (hc : X.env.cells.lookup x = some c) (hn : H c = none) (hab : X.s₀.heap.objs.size ≤ c) (ho : s.heap.get? c = some o) :
    Inv X pins σ (upd H c (.frz o (.own c))) s := by
  have ne : ∀ b u, H b = some u → b ≠ c := fun b u e => ne_of_none e hn
  obtain ⟨w, oc, hoc, hdc⟩ := I.cell x c hc
  rw [ho] at hoc
  cases hoc
  refine ⟨I.ok, I.os, I.bare, ⟨I.base.keep, I.base.slot, fun b u e n hx => ?_, I.base.there, fun b xs e => ?_, fun b u k e => ?_, fun b ps e => ?_⟩, I.loc, I.cell, ?_, fun y c' e => ?_, fun p hp => ?_, fun b u e => ?_, I.len⟩
  · rw [upd_ne (Nat.ne_of_lt (Nat.lt_of_lt_of_le (Heap.lt_size e) hab))]
    exact I.base.free b u e n hx
  · have z := I.base.tups b xs e
    rw [upd_ne (ne b _ z)]
    exact z
  · have z := I.base.frzs b u k e
    rw [upd_ne (ne b _ z)]
    exact z
  · obtain ⟨m, z⟩ := I.base.tbls b ps e
    exact ⟨m, by rw [upd_ne (ne b _ z)]; exact z⟩
  · rw [upd_ne (fun z => I.cne x c hc z.symm)]
    exact I.free
  · by_cases hcc : c' = c
    · subst hcc
      have := I.ok.inj _ _ _ e hc
      subst this
      exact ⟨fun z => absurd (hfn.symm.trans z) Bool.false_ne_true, .inr ⟨o, _, upd_same⟩⟩
    · rw [upd_ne hcc]
      exact I.freeC y c' e
  · obtain ⟨e, n, ne', nf, d⟩ := I.pin p hp
    refine ⟨e, ?_, ne', nf, d⟩
    rw [upd_ne]
    · exact n
    · intro z
      rw [z, ho] at e
      cases e
      exact d _ hdc
  · by_cases hb : b = c
    · subst hb
      rw [upd_same] at e
      cases e
      exact ⟨ho, o, ho⟩
    · rw [upd_ne hb] at e
      exact (I.hok b u e).stay (fun _ _ _ q => q) (fun d q => by rw [upd_ne (ne d _ q)]; exact q) fun d xs q => by rw [upd_ne (ne d _ q)]; exact q
end
section
variable {P : Program} {w : World} {K : PySem.W.Frag} {mg : Str → Option Value} {base : Heap}
theorem freezeAll {X : Cx} {σ : St} {s : Shared} {Hb : Hp} (N ps : List Str) (vs : List V) (hps : ∀ (i : Nat) x v, ps[i]? = some x → vs[i]? = some v → X.N[i]? = some x ∧ σ[i]? = some (some v)) (hab : ∀ x c, X.env.cells.lookup x = some c → X.s₀.heap.objs.size ≤ c) :
    ∀ (fz : List Str) (H : Hp), (∀ x ∈ fz, X.fn x = false ∧ X.env.scope.names.lookup x = some .cell) → Inv X [] σ H s → Same Hb H → (∀ x c, X.env.cells.lookup x = some c → Hb c = none) →
      ∃ H1, Inv X [] σ H1 s ∧ Same Hb H1 ∧ (∀ b o, H b = some o → H1 b = some o) ∧ ∀ (i : Nat) x v, x ∈ fz → ps[i]? = some x → vs[i]? = some v → ∃ c, X.env.cells.lookup x = some c ∧ CellV H1 c v
  | [], H, _, I, sm, _ => ⟨H, I, sm, fun _ _ e => e, fun _ _ _ hx => (nomatch hx)⟩
  | x :: r, H, hf, I, sm, hb => by
    have hx := hf x List.mem_cons_self
    obtain ⟨c, hc⟩ := I.ok.has x (.inl hx.2)
    obtain ⟨w', oc, hoc, hdc⟩ := I.cell x c hc
    obtain ⟨H2, I2, s2, k2, hz⟩ : ∃ H2, Inv X [] σ H2 s ∧ Same Hb H2 ∧ (∀ b o, H b = some o → H2 b = some o) ∧ ∃ k, H2 c = some (.frz oc k) := by
      rcases (I.freeC x c hc).2 with z | ⟨o, u, z⟩
      · refine ⟨_, I.freeze hx.1 hc z (hab x c hc) hoc, fun b o e => ?_, fun b o e => ?_, _, upd_same⟩
        · rw [upd_ne (ne_of_none (sm b o e) z)]
          exact sm b o e
        · rw [upd_ne (ne_of_none e z)]
          exact e
      · obtain ⟨z1, _⟩ := I.hok c _ z
        rw [hoc] at z1
        cases z1
        exact ⟨H, I, sm, fun _ _ e => e, u, z⟩
    obtain ⟨H3, I3, s3, k3, h3⟩ := freezeAll N ps vs hps hab r H2 (fun y hy => hf y (List.mem_cons_of_mem _ hy)) I2 s2 hb
    refine ⟨H3, I3, s3, fun b o e => k3 b o (k2 b o e), fun i y v hy e1 e2 => ?_⟩
    by_cases hyx : y = x
    · subst hyx
      obtain ⟨hN, hσ⟩ := hps i y v e1 e2
      obtain ⟨m, hn, hl⟩ := I.loc
      obtain ⟨u, ru, l⟩ := hl i y v hN hσ (.inr (.inl hx.2))
      rcases l with ⟨q, _⟩ | ⟨_, c', hc', o', ho', hd'⟩
      · rw [show X.env.kindOf y = some .cell from hx.2] at q
        cases q
      · rw [hc] at hc'
        cases hc'
        rw [hoc] at ho'
        cases ho'
        obtain ⟨k, z⟩ := hz
        exact ⟨c, hc, oc, u, k, k3 c _ z, hd', ru⟩
    · rcases List.mem_cons.mp hy with q | q
      · exact absurd q hyx
      · exact h3 i y v q e1 e2
theorem fn_ofZ {k : Nat} {f : Addr} {name qual : Str} {params : Arguments} {body : List Stmt} {scope : Scope} {dV kV doc pm cdv ct oc : Value} {an od : Option Addr}
    {osl : Array (Option Value)} {N ps fz : List Str} {sp : Sp} (lk : K.lookup f = some ⟨oc, od, .func (PySem.W.fnOf name qual params body scope dV kV doc pm an cdv ct), osl⟩) (hcd : PySem.W.codeIn K cdv qual = true) (S : FnScope N ps scope)
    (hfz : ∀ x ∈ fz, scope.names.lookup x = some .cell) (len : ∀ vs H Q E, sp vs H Q E → vs.length = ps.length)
    (hbody : ∀ (A : Around) (outer : List Env) (s : Shared) (H : Hp) (vs : List V) (Q : VK) (E : XK), Room k (A.deeper (envOfC qual scope s.heap.objs.size f cdv)) → sp vs H Q E →
      ∀ H1 : Hp, Same H H1 → (∀ (i : Nat) x v, x ∈ fz → ps[i]? = some x → vs[i]? = some v → ∃ c, (envOfC qual scope s.heap.objs.size f cdv).cells.lookup x = some c ∧ CellV H1 c v) →
      ∃ t, PSs (cxOf CX0 P w K mg base N qual scope f cdv A outer s H E (fun x => !fz.contains x)).nox body t ∧ t { nx := fun _ H' => Q .non H', rt := Q } (start N vs) H1) :
    FnOk P w K mg base CX0 (k + 1) f (PySem.W.fnOf name qual params body scope dV kV doc pm an cdv ct) ps sp := by
  refine ⟨len, fun A outer s H args us vs Q E hr e0 hb r hsp => ?_⟩
  have hl := len _ _ _ _ hsp
  have KX : K.In s.heap := e0.mod.kin.keeps fun b o e => (e0.bs b o e).1
  have lim : s.heap.NoLimit := e0.mod.nolimit.keeps fun b o e => (e0.bs b o e).1
  have hpl : ps.length ≤ N.length := by have := congrArg List.length S.pre; rw [List.length_take] at this; omega
  have hkind : ∀ y ∈ ps.zip us, scope.names.lookup y.1 = some .local ∨ (scope.names.lookup y.1 = some .cell ∧ ((cellsFrom (s.heap.objs.size + 1) scope.names []).lookup y.1).isSome = true) := fun ⟨n, v⟩ hy => by
    rcases S.par n (List.of_mem_zip hy).1 with q | q
    · exact .inl q
    · exact .inr ⟨q, PySem.W.cellsFrom_some _ _ _ (.inl q)⟩
  refine codeAny_call_function hr.depth (KX _ _ lk) rfl S.co S.gen rfl (PySem.W.codeRec_of KX hcd) (hb _ _ _ _ ?_)
  refine wpAny_newFunctionEnv_cells S.kind hkind fun env he s1 x => ?_
  subst he
  refine ⟨lim.keeps x.toInCall.keep, codeAny_func ?_⟩
  have I : Inv (cxOf CX0 P w K mg base N qual scope f cdv A outer s H E (fun x => !fz.contains x)) [] (start N vs) H s1 := inv_start S hr.hd e0 hl r x
  have hst : ∀ (i : Nat) y v, ps[i]? = some y → vs[i]? = some v → N[i]? = some y ∧ (start N vs)[i]? = some (some v) := fun i y v e1 e2 => by
    have hi : i < ps.length := (List.getElem?_eq_some_iff.mp e1).1
    refine ⟨?_, ?_⟩
    · rw [← S.pre, List.getElem?_take_of_lt hi] at e1
      exact e1
    · unfold start
      rw [List.getElem?_append_left (by simp; omega), List.getElem?_map, e2]
      rfl
  obtain ⟨H1, I1, sm, _, hcv⟩ := freezeAll (X := cxOf CX0 P w K mg base N qual scope f cdv A outer s H E (fun x => !fz.contains x)) (Hb := H) N ps vs hst
    (fun y c e => Nat.le_of_lt (x.above y c (PySem.mem_of_lookup e))) fz H (fun y hy => ⟨by show (!fz.contains y) = false; simp [hy], hfz y hy⟩) I (Same.refl H) (fun y c e => e0.hok.fresh (Nat.le_of_lt (x.above y c (PySem.mem_of_lookup e))))
  obtain ⟨t, ht, hq⟩ := hbody A outer s H vs Q E (hr.deeper _) hsp H1 sm hcv
  refine wpAny_mono (ht.nox [] s1 (start N vs) H1 _ I1 hq) (fun fl s' hs => ?_) fun e s' hs => hs
  have fin : ∀ {σ' : St} {H' : Hp} {v : V} {u : Value}, Inv (cxOf CX0 P w K mg base N qual scope f cdv A outer s H E (fun x => !fz.contains x)) [] σ' H' s' → RelV v u → Q v H' → CE outer P w H s Q u s' :=
    fun {σ' H' v u} J rv q => ⟨v, H', J.os, J.bare, J.base, J.hok, rv, q⟩
  cases fl with
  | ret u =>
    obtain ⟨v, σ', H', J, rv, q⟩ := hs
    exact fin J rv q
  | next =>
    obtain ⟨σ', H', J, q⟩ := hs
    exact fin (v := V.non) (u := Value.none) J rfl q
  | brk =>
    obtain ⟨_, _, _, q⟩ := hs
    exact False.elim q
  | cont =>
    obtain ⟨_, _, _, q⟩ := hs
    exact False.elim q
end
def CodeShape (oc : Obj) (qual : Str) : Prop := ∃ vs t, oc.data = .fields vs ∧ vs[1]? = some (.str qual t)
structure FnShape (name qual : Str) (params : Arguments) (body : List Stmt) (scope : Scope) (cells : List (Str × Addr)) (fo : Obj) (clos : List (Str × Addr)) (c' : Addr) : Prop where
  ob : ∃ doc pm ctv, fo = PySem.W.fnMade name qual params body scope clos doc pm c' ctv
  sub : ∀ x c, clos.lookup x = some c → cells.lookup x = some c
  free : ∀ x c, clos.lookup x = some c → (x, NameKind.free) ∈ scope.names
  all : ∀ y ∈ scope.names, y.2 = .free → ∃ c, clos.lookup y.1 = some c
  inj : ∀ x y c, clos.lookup x = some c → clos.lookup y = some c → x = y
structure FunV (H : Hp) (f : Addr) (name qual : Str) (params : Arguments) (body : List Stmt) (scope : Scope) (fr : List Str) (cv : List V) (fd : FuncData) : Prop where
  ex : ∃ fo cells clos c' oc k k', H f = some (.frz fo k) ∧ FnShape name qual params body scope cells fo clos c' ∧ fo.data = .func fd ∧ fd.closure = clos ∧ fd.code = .ref c' ∧ H c' = some (.frz oc k') ∧ CodeShape oc qual ∧
    ∀ (i : Nat) x v, fr[i]? = some x → cv[i]? = some v → ∃ c, clos.lookup x = some c ∧ CellV H c v
theorem FunV.same {H H' : Hp} {f : Addr} {name qual : Str} {params : Arguments} {body : List Stmt} {scope : Scope} {fr : List Str} {cv : List V} {fd : FuncData} (x : FunV H f name qual params body scope fr cv fd) (h : ∀ a o k, H a = some (.frz o k) → H' a = some (.frz o k)) :
    FunV H' f name qual params body scope fr cv fd := by
  obtain ⟨fo, cells, clos, c', oc, k, k', e1, s, e2, e3, e4, e5, cs, hv⟩ := x.ex
  exact ⟨fo, cells, clos, c', oc, k, k', h _ _ _ e1, s, e2, e3, e4, h _ _ _ e5, cs, fun i y v a b => let ⟨c, q, z⟩ := hv i y v a b; ⟨c, q, z.same fun o k => h c o k⟩⟩
structure CloScope (N ps fr : List Str) (sc : Scope) : Prop where
  kind : sc.kind = .function
  co : sc.isCoroutine = false
  gen : sc.isGenerator = false
  nd : N.Nodup
  pre : N.take (ps ++ fr).length = ps ++ fr
  par : ∀ x ∈ ps, sc.names.lookup x = some .local
  fre : ∀ x ∈ fr, sc.names.lookup x = some .free
  nocell : ∀ y ∈ sc.names, y.2 ≠ .cell
  allfr : ∀ y ∈ sc.names, y.2 = .free → y.1 ∈ fr
  look : ∀ y ∈ sc.names, sc.names.lookup y.1 = some y.2
def envClo (qual : Str) (scope : Scope) (clos : List (Str × Addr)) (L a : Addr) (cd : Value) : Env :=
  { scope := scope, locals := L, globals := mainGlobals, cells := clos, qual := qual ++ ".<locals>.", func := some a, code := cd, frame := some L, builtins := builtinsNs }
def cxClo (P : Program) (w : World) (K : PySem.W.Frag) (mg : Str → Option Value) (base : Heap) (N : List Str) (qual : Str) (scope : Scope) (clos : List (Str × Addr)) (f : Addr) (cd : Value) (A : Around) (outer : List Env) (s : Shared) (H : Hp) : Cx where
  prog := P
  w := w
  K := K
  mg := mg
  base := base
  A := A.deeper (envClo qual scope clos s.heap.objs.size f cd)
  N := N
  s₀ := s
  H₀ := H
  env := envClo qual scope clos s.heap.objs.size f cd
  outer := outer
  stack := envClo qual scope clos s.heap.objs.size f cd :: outer
  ex := []
  calm := true
  fn := fun _ => false
  pn := []
  xe := fun _ _ => False
theorem lookup_zip_rev {us : List Value} {x : Str} {u : Value} : ∀ {ps : List Str} {us : List Value} {i : Nat}, ps.Nodup → ps[i]? = some x → us[i]? = some u → (ps.zip us).reverse.lookup x = some u := by
  intro ps us i nd h1 h2
  have mem : (x, u) ∈ (ps.zip us).reverse := by
    rw [List.mem_reverse]
    refine List.mem_of_getElem? (i := i) ?_
    rw [List.getElem?_zip_eq_some]
    exact ⟨h1, h2⟩
  have key : ∀ (l : List (Str × Value)), (∀ v, (x, v) ∈ l → v = u) → (x, u) ∈ l → l.lookup x = some u := by
    intro l
    induction l with
    | nil => intro _ h; cases h
    | cons p r ih =>
      intro hu hm
      obtain ⟨n, v⟩ := p
      rw [List.lookup_cons]
      by_cases e : (x == n) = true
      · rw [e]
        have e' := beq_iff_eq.mp e
        subst e'
        exact congrArg some (hu v List.mem_cons_self)
      · rw [Bool.eq_false_iff.mpr e]
        refine ih (fun v hv => hu v (List.mem_cons_of_mem _ hv)) ?_
        rcases List.mem_cons.mp hm with q | q
        · cases q
          exact absurd (beq_self_eq_true x) e
        · exact q
  refine key _ (fun v hv => ?_) mem
  rw [List.mem_reverse] at hv
  obtain ⟨j, hj⟩ := List.getElem?_of_mem hv
  rw [List.getElem?_zip_eq_some] at hj
  have : j = i := nodup_ix nd hj.1 h1
  subst this
  rw [h2] at hj
  exact (Option.some.inj hj.2).symm
section
variable {P : Program} {w : World} {K : PySem.W.Frag} {mg : Str → Option Value} {base : Heap}
end
end L2
set_option Elab.async false
set_option linter.all false
set_option maxRecDepth 100000
namespace L2
open PySem PySem.Spec PyProof.Rows
section
variable {X : Cx}
theorem closureFor_free {env : Env} : ∀ (names : List (Str × NameKind)) (acc cl : List (Str × Addr)),
    (forIn names acc fun (x : Str × NameKind) cs => if (x.2 == NameKind.free) = true then (do let a ← cellOf env x.1; pure (ForInStep.yield ((x.1, a) :: cs))) else pure (ForInStep.yield cs) : Sem (List (Str × Addr))) = pure cl →
    (∀ y ∈ names, y.2 = .free → ∃ c, env.cells.lookup y.1 = some c) → ∀ x c, cl.lookup x = some c → (x, NameKind.free) ∈ names ∨ ∃ d, acc.lookup x = some d
  | [], acc, cl, e, _, x, c, h => by
    have e' : (pure acc : Sem (List (Str × Addr))) = pure cl := e
    have : acc = cl := by injection e'
    subst this
    exact .inr ⟨c, h⟩
  | (n, k) :: r, acc, cl, e, hn, x, c, h => by
    rw [List.forIn_cons] at e
    by_cases hk : k = .free
    · obtain ⟨d, hd⟩ := hn (n, k) List.mem_cons_self hk
      rw [if_pos (by rw [hk]; rfl)] at e
      have hco : cellOf env n = pure d := by unfold cellOf; rw [hd]
      change ((cellOf env n >>= fun a => pure (ForInStep.yield ((n, a) :: acc))) >>= _) = _ at e
      rw [hco, pure_bind, pure_bind] at e
      rcases closureFor_free r ((n, d) :: acc) cl e (fun y hy => hn y (List.mem_cons_of_mem _ hy)) x c h with z | ⟨d', z⟩
      · exact .inl (List.mem_cons_of_mem _ z)
      · rw [List.lookup_cons] at z
        by_cases hx : (x == n) = true
        · have hx' := beq_iff_eq.mp hx
          subst hx' hk
          exact .inl List.mem_cons_self
        · rw [Bool.eq_false_iff.mpr hx] at z
          exact .inr ⟨d', z⟩
    · rw [if_neg (by simpa using hk), pure_bind] at e
      rcases closureFor_free r acc cl e (fun y hy => hn y (List.mem_cons_of_mem _ hy)) x c h with z | z
      · exact .inl (List.mem_cons_of_mem _ z)
      · exact .inr z
theorem closureFor_all {scope : Scope} {env : Env} (hn : ∀ y ∈ scope.names, y.2 = .free → ∃ c, env.cells.lookup y.1 = some c) :
    ∃ cl, closureFor scope env = pure cl ∧ (∀ x c, cl.lookup x = some c → env.cells.lookup x = some c) ∧ (∀ y ∈ scope.names, y.2 = .free → ∃ c, cl.lookup y.1 = some c) ∧ ∀ x c, cl.lookup x = some c → (x, NameKind.free) ∈ scope.names := by
  obtain ⟨cl, e1, h1, h2, _⟩ := closure_of (env := env) scope.names [] hn (fun x c h => by cases h)
  refine ⟨cl, ?_, h1, h2, fun x c h => ?_⟩
  · unfold closureFor
    rw [← e1, bind_pure]
  · rcases closureFor_free scope.names [] cl e1 hn x c h with z | ⟨d, z⟩
    · exact z
    · cases z
end
def Tab (H : Hp) (P : Addr) (pos : Pos) (qual : Str) : Prop := ∃ ps, H P = some (.tbl ps) ∧ TriplesOk ps.toList ∧
  (codeAmong pos ps.toList = none ∨ ∃ c' oc k, codeAmong pos ps.toList = some (.ref c') ∧ H c' = some (.frz oc k) ∧ CodeShape oc qual)
theorem Tab.new {H : Hp} {P : Addr} {pos : Pos} {qual : Str} (h : H P = some (.tbl #[])) : Tab H P pos qual := ⟨#[], h, trivial, .inl rfl⟩
def But (P : Addr) (H H' : Hp) : Prop := (∀ b o, b ≠ P → H b = some o → H' b = some o) ∧ ∀ pos qual, Tab H P pos qual → Tab H' P pos qual
theorem triples_snoc {a b c : Value} {i j : Int} {t u : Tok} (ha : a = .int i t) (hb : b = .int j u) : ∀ {l : List Value}, TriplesOk l → TriplesOk (l ++ [a, b, c])
  | [], _ => by rw [ha, hb]; exact trivial
  | .int _ _ :: .int _ _ :: _ :: r, h => triples_snoc (l := r) ha hb h
theorem Same.but {H H' : Hp} (P : Addr) (h : Same H H') : But P H H' := by
  refine ⟨fun b o _ e => h b o e, fun pos qual t => ?_⟩
  obtain ⟨ps, e, ht, z⟩ := t
  refine ⟨ps, h _ _ e, ht, ?_⟩
  rcases z with z | ⟨c', oc, k, z1, z2, z3⟩
  · exact .inl z
  · exact .inr ⟨c', oc, k, z1, h _ _ z2, z3⟩
theorem But.trans {P : Addr} {H H1 H2 : Hp} (a : But P H H1) (b : But P H1 H2) : But P H H2 := ⟨fun c o hc e => b.1 c o hc (a.1 c o hc e), fun pos qual t => b.2 pos qual (a.2 pos qual t)⟩
theorem law_callT {P : Program} {w : World} {K : PySem.W.Frag} {mg mb : Str → Option Value} {k : Nat} {fa a : Addr} {fd : FuncData} {x : Str} {sp : Sp} {s₁ : Shared} {vs : List Value} {ns : List Int} (tabs : List (Addr × Addr))
    (hT : PySem.W.TabsAt tabs s₁.heap) (hKT : ∀ q ∈ tabs, K.lookup q.2 = none) (hBm : ∃ bm o, mg "__builtins__" = some (.ref bm) ∧ bm ≠ builtinsNs ∧ bm ≠ mainGlobals ∧ s₁.heap.get? bm = some o ∧ o.cls = .type "module" ∧ o.dict = some builtinsNs ∧ o.data = .plain)
    (KX : K.In s₁.heap) (hns : s₁.heap.Ns mainGlobals mg) (hb : s₁.heap.Ns builtinsNs mb) (hbb : ∀ x : Str, x ≠ "__name__" → mb x = bootBuiltins x) (hlim : s₁.heap.NoLimit) (hg : s₁.gens = #[])
    (ha : s₁.heap.get? a = some { cls := .type "list", data := .seq vs.toArray }) (hi : IntsAre vs ns) (hl : ns.length ≤ sizeLine) (hr : Room k callerA)
    (F : ∀ base : Heap, K.In base → base.Ns mainGlobals mg → (∀ q ∈ tabs, base.BuiltinsAt mg q.2) → FnOk P w K mg base CX0 k fa fd [x] sp) (hbind : ∀ (s : Shared) (u : Value), BindsTo s fd ⟨[u], []⟩ [(x, u)])
    (hsp : ∀ H : Hp, SqL K H a (ns.map V.int) → (∀ q ∈ tabs, H q.2 = some (.tbl #[])) → sp [.ref a] H (fun v _ => v = .bl true) fun _ _ _ => False) :
    codeAny (model P w) callerA (.call (.ref fa) ⟨[.ref a], []⟩) (fun r s' => r = .ok (.ret (.bool true)) ∧ OldK s₁.heap s'.heap ∧ s'.os = s₁.os ∧ AllBare s'.gens) s₁ := by
  have rv := vals_ints hi
  have lenV := hi.length
  have naP : ∀ q ∈ tabs, a ≠ q.2 := fun q hq z => by
    have e := (hT q hq).2
    rw [← z, ha] at e
    cases e
  have core : ∀ (H0 : Option HO), (H0 = none ∨ ∃ o xs, H0 = some (.frz o (.lst xs))) → (∀ H : Hp, H a = H0 → SqL K H a (ns.map V.int)) → (∀ u, H0 = some u → ∀ H : Hp, ObjOk P w H s₁.heap a u) → (H0 ≠ none → K.lookup a = none) →
      codeAny (model P w) callerA (.call (.ref fa) ⟨[.ref a], []⟩) (fun r s' => r = .ok (.ret (.bool true)) ∧ OldK s₁.heap s'.heap ∧ s'.os = s₁.os ∧ AllBare s'.gens) s₁ := by
    intro H0 hO hS hok0 hK0
    let H : Hp := fun b => if b = a then H0 else if b ∈ tabs.map (·.2) then some (.tbl #[]) else none
    have Ha : H a = H0 := if_pos rfl
    have Ht : ∀ q ∈ tabs, H q.2 = some (.tbl #[]) := fun q hq => by
      show (if q.2 = a then H0 else _) = _
      rw [if_neg (naP q hq).symm, if_pos (List.mem_map_of_mem hq)]
    have Hn : ∀ b, b ≠ a → b ∉ tabs.map (·.2) → H b = none := fun b h1 h2 => by
      show (if b = a then H0 else _) = _
      rw [if_neg h1, if_neg h2]
    have notTab : ∀ {b : Addr} {o : Obj}, s₁.heap.get? b = some o → o.cls ≠ .none → b ∉ tabs.map (·.2) := fun {b o} e hc z => by
      obtain ⟨q, hq, rfl⟩ := List.mem_map.mp z
      rw [(hT q hq).2] at e
      cases e
      exact hc rfl
    have hok : HOk P w H s₁.heap := fun b u z => by
      by_cases hb : b = a
      · subst hb
        rw [Ha] at z
        exact hok0 u z H
      · by_cases hb2 : b ∈ tabs.map (·.2)
        · obtain ⟨q, hq, rfl⟩ := List.mem_map.mp hb2
          rw [Ht q hq] at z
          cases z
          exact (hT q hq).2
        · rw [Hn b hb hb2] at z
          cases z
    have base_of : ∀ {b : Addr} {o : Obj}, s₁.heap.get? b = some o → H b = none → (hidT s₁.heap H).get? b = some o := fun e n => hidT_get e n
    have noA : ∀ {b : Addr} {o : Obj}, s₁.heap.get? b = some o → (∀ xs n, o.data ≠ .seq xs n) → (∀ xs, o.data ≠ .fields xs) → H b = none := fun {b o} e d1 d2 => by
      refine Hn b (fun z => ?_) (fun z => ?_)
      · rw [z, ha] at e
        cases e
        exact d1 _ _ rfl
      · obtain ⟨q, hq, rfl⟩ := List.mem_map.mp z
        rw [(hT q hq).2] at e
        cases e
        exact d2 _ rfl
    have nsK : ∀ {b : Addr} {m : Str → Option Value}, s₁.heap.Ns b m → (hidT s₁.heap H).Ns b m := fun {b m} ⟨o, es, ep, e, d, r⟩ => ⟨o, es, ep, base_of e (noA e (fun _ _ z => by rw [d] at z; cases z) (fun _ z => by rw [d] at z; cases z)), d, r⟩
    have hKb : K.In (hidT s₁.heap H) := fun b o e => base_of (KX b o e) (by
      by_cases hb : b = a
      · subst hb
        rw [Ha]
        cases q : H0 with
        | none => rfl
        | some u =>
          rw [hK0 (by rw [q]; simp)] at e
          cases e
      · refine Hn b hb fun z => ?_
        obtain ⟨q, hq, rfl⟩ := List.mem_map.mp z
        rw [hKT q hq] at e
        cases e)
    have hM : Mod K mg (hidT s₁.heap H) := ⟨hKb, nsK hns, ⟨mb, nsK hb, hbb⟩, let ⟨mc, h1, h2⟩ := hlim; ⟨mc, nsK h1, h2⟩⟩
    have e0 : Env0 P w K mg (hidT s₁.heap H) callerA [] s₁ H := ⟨rfl, hM, fun b o e => of_hidT e, Nat.le_of_eq (hidT_size _ _), trivial, fun b hb => absurd (show b ∈ ([] : List Addr) from hb) (by simp), hok, .of_eq hg⟩
    have hBt : ∀ q ∈ tabs, (hidT s₁.heap H).BuiltinsAt mg q.2 := fun q hq => by
      obtain ⟨bm, o, a1, a2, a3, a4, a5, a6, a7⟩ := hBm
      refine ⟨bm, o, a1, a2, a3, fun z => ?_, base_of a4 (noA a4 (fun _ _ z => by rw [a7] at z; cases z) (fun _ z => by rw [a7] at z; cases z)), a5, a6, a7⟩
      rw [z, (hT q hq).2] at a4
      cases a4
      cases a7
    refine codeAny_mono ((F _ hKb (nsK hns) hBt).run callerA [] s₁ H ⟨[.ref a], []⟩ [.ref a] [.ref a] _ _ hr e0 (hbind s₁ (.ref a)) (.cons rfl .nil) (hsp H (hS H Ha) Ht)) fun r s' h => ?_
    cases r with
    | error e => exact False.elim h
    | ok fl =>
      cases fl with
      | next => exact False.elim h
      | brk => exact False.elim h
      | cont => exact False.elim h
      | ret u =>
        obtain ⟨v, H', os, bare, un, hok', r', q⟩ := h
        have q' : v = .bl true := q
        subst q'
        obtain rfl : u = Value.bool true := r'
        refine ⟨rfl, ⟨fun b o e => ?_, fun b o e => un.there b o e (by simp)⟩, os, bare⟩
        by_cases hb2 : b ∈ tabs.map (·.2)
        · obtain ⟨q, hq, rfl⟩ := List.mem_map.mp hb2
          obtain ⟨more, z⟩ := un.tbls q.2 _ (Ht q hq)
          have z2 : s'.heap.get? q.2 = some { cls := .none, data := .fields (#[] ++ more) } := hok' q.2 _ z
          have e2 := (hT q hq).2
          rw [e] at e2
          cases e2
          exact .inr (.inl ⟨((hT q hq).1.tab (hT q hq).2).isCodeTable, rfl, #[], more, rfl, z2⟩)
        · by_cases hb : b = a
          · subst hb
            rcases hO with z | ⟨ob, xs, z⟩
            · exact .inl (un.keep b o e (by rw [Ha]; exact z) (by intro z; exact absurd (show b ∈ ([] : List Addr) from z) (by simp)) (by simp))
            · have z1 : H b = some (.frz ob (.lst xs)) := by rw [Ha]; exact z
              have z2 := un.frzs b ob _ z1
              obtain ⟨e1, _⟩ := hok b _ z1
              obtain ⟨e2, _⟩ := hok' b _ z2
              rw [e] at e1
              cases e1
              exact .inl e2
          · exact .inl (un.keep b o e (Hn b hb hb2) (by intro z; exact absurd (show b ∈ ([] : List Addr) from z) (by simp)) (by simp))
  cases hk : K.lookup a with
  | some o =>
    have e := KX a o hk
    rw [ha] at e
    cases e
    exact core none (.inl rfl) (fun H _ => .inr ⟨_, vs.toArray, _, hk, rfl, rfl, rfl, by rw [List.size_toArray, lenV]; exact hl, by simpa using rv⟩) (fun u z => by cases z) fun z => absurd rfl z
  | none =>
    exact core (some (.frz { cls := .type "list", data := .seq vs.toArray } (.lst (ns.map V.int)))) (.inr ⟨_, _, rfl⟩) (fun H e => .inl (.inr ⟨_, e⟩)) (fun u z H => by cases z; exact ⟨ha, by rw [List.length_map]; exact hl, vs, _, rv, ha⟩) fun _ => hk
theorem walk_ofT {l : PySem.W.OpenLaw} {n k : Nat} {q : Program} {loose : List Str} {XP : (Str → Option Value) → Heap → Prop} {YP : World → Heap → Prop} {d : DefRec} {K : Params → PySem.W.Frag} {ts : List Addr} {sp : PySem.W.Frag → List (Addr × Addr) → Sp} {x : Str}
    (hn : l.most = some n) (hn2 : n ≤ sizeLine) (hdf : d.params.defaults = []) (hr : Room k callerA)
    (hY : ∀ (w : World) (h : Heap), YP w h → (K w.params).In h) (hYT : ∀ (w : World) (h : Heap), YP w h → ∀ P ∈ ts, h.get? P = some (PySem.W.tabObj #[]))
    (F : ∀ (w : World) (mg : Str → Option Value) (fa : Addr) (h : Heap), (K w.params).In h → h.Ns mainGlobals mg → mg d.name = some (.ref fa) →
      ∃ (fd : FuncData) (tabs : List (Addr × Addr)), (∀ q ∈ tabs, q.2 ∈ ts ∧ PySem.W.codeHdIn (K w.params) q.1 q.2 = true ∧ (K w.params).lookup q.2 = none) ∧ (∀ (s : Shared) (u : Value), BindsTo s fd ⟨[u], []⟩ [(x, u)]) ∧
        ∀ base : Heap, (K w.params).In base → base.Ns mainGlobals mg → (∀ q ∈ tabs, base.BuiltinsAt mg q.2) → FnOk l.prog w (K w.params) mg base CX0 k fa fd [x] (sp (K w.params) tabs))
    (hsp : ∀ (K : PySem.W.Frag) (tabs : List (Addr × Addr)) (H : Hp) (a : Addr) (ns : List Int), ns.length ≤ n → SqL K H a (ns.map V.int) → (∀ q ∈ tabs, H q.2 = some (.tbl #[])) → sp K tabs [.ref a] H (fun v _ => v = .bl true) fun _ _ _ => False) :
    PySem.W.WalkO q loose XP YP l.row.toRowW d [] (fun f vs => PySem.call f vs) := by
  refine Att.attach_call hn hdf fun w s₀ s₁ mg mb fa o pm cd doc a vs ns G Y ho hd hcd hmg hobj hints hlen hg => ?_
  have KX := hY w _ Y
  obtain ⟨fd, tabs, hT, hb, hF⟩ := F w mg fa _ KX G.T.g hmg
  have hBm : ∃ bm o, mg "__builtins__" = some (.ref bm) ∧ bm ≠ builtinsNs ∧ bm ≠ mainGlobals ∧ s₁.heap.get? bm = some o ∧ o.cls = .type "module" ∧ o.dict = some builtinsNs ∧ o.data = .plain := by
    obtain ⟨bm, ob, b1, b2, b3, b4, b5, b6⟩ := G.T.bmain
    refine ⟨bm, ob, b1, b2, fun z => ?_, b3, b4, b5, b6⟩
    obtain ⟨o, es, ep, e, hd, _⟩ := G.T.g
    rw [z, e] at b3
    cases b3
    rw [hd] at b6
    cases b6
  exact law_callT tabs (fun q hq => ⟨PySem.W.codeHd_of_K KX (hT q hq).2.1, hYT w _ Y _ (hT q hq).1⟩) (fun q hq => (hT q hq).2.2) hBm KX G.T.g G.T.b G.T.builtins G.T.nolimit hg hobj hints (Nat.le_trans hlen hn2) hr hF hb (fun H hS hTt => hsp _ tabs H a ns hlen hS hTt)
end L2
set_option Elab.async false
set_option linter.all false
set_option maxRecDepth 100000
namespace L2
open PySem PySem.Spec PyProof.Rows
def NAs (K : PySem.W.Frag) (C : Addr) : List Str → Prop
  | [] => True
  | a :: r => NoAttr K C a ∧ NAs K C r
structure DfC (K : PySem.W.Frag) (mg : Str → Option Value) (x : Str) (as : List Str) where
  C : Addr
  hm : mg x = some (.ref C)
  cl : Cls K C
  na : NAs K C as
  mks : PySem.W.makesIn K C = true
  kp : PySem.W.keepIn K (.ref C) = true
structure DfM (K : PySem.W.Frag) (C : Addr) (m qual : Str) (st : Stmt) (ps : List Str) where
  f : Addr
  fd : FuncData
  fn : Fun K m qual st f fd
  me : Meth K C m f
  b : Binds K fd ps []
theorem DfM.mk' {K : PySem.W.Frag} {mg : Str → Option Value} {x q : Str} {as ps : List Str} {st : Stmt} (D : DfC K mg x as) (I : DfM K D.C "__init__" q st ps) : Mk K D.C I.f := ⟨D.mks, I.me.at_, I.me.fn, D.kp⟩
structure DfF (K : PySem.W.Frag) (mg : Str → Option Value) (x : Str) (st : Stmt) (ps : List Str) where
  f : Addr
  c : Addr
  P : Addr
  fd : FuncData
  ex : ∃ (oc : Value) (od : Option Addr) (kV doc pm : Value) (an : Option Addr) (ct : Value) (osl : Array (Option Value)),
    fd = PySem.W.fnOf x x (defArgs st) (defBody st) (defScope st) .none kV doc pm an (.ref c) ct ∧ K.lookup f = some ⟨oc, od, .func fd, osl⟩
  cd : PySem.W.codeIn K (.ref c) x = true
  ch : PySem.W.codeHdIn K c P = true
  nt : K.lookup P = none
  kp : PySem.W.keepIn K (.ref f) = true
  hm : mg x = some (.ref f)
  b : Binds K fd ps []
section
variable {P : Program} {w : World} {K : PySem.W.Frag} {mg : Str → Option Value} {base : Heap}
theorem DfF.ok {x : Str} {st : Stmt} {N ps fz : List Str} {k : Nat} {sp : Sp} (D : DfF K mg x st ps) (hK : K.In base) (S : FnScope N ps (defScope st)) (hfz : ∀ x ∈ fz, (defScope st).names.lookup x = some .cell) (len : ∀ vs H Q E, sp vs H Q E → vs.length = ps.length)
    (hbody : ∀ (A : Around) (outer : List Env) (s : Shared) (H : Hp) (vs : List V) (Q : VK) (E : XK), Room k (A.deeper (envOfC x (defScope st) s.heap.objs.size D.f (.ref D.c))) → sp vs H Q E →
      ∀ H1 : Hp, Same H H1 → (∀ (i : Nat) y v, y ∈ fz → ps[i]? = some y → vs[i]? = some v → ∃ c, (envOfC x (defScope st) s.heap.objs.size D.f (.ref D.c)).cells.lookup y = some c ∧ CellV H1 c v) → PySem.W.CodeHd base D.c D.P →
      ∃ t, PSs (cxOf CX0 P w K mg base N x (defScope st) D.f (.ref D.c) A outer s H E (fun y => !fz.contains y)).nox (defBody st) t ∧ t { nx := fun _ H' => Q .non H', rt := Q } (start N vs) H1) :
    FnOk P w K mg base CX0 (k + 1) D.f D.fd ps sp := by
  have hC := PySem.W.codeHd_of_K hK D.ch
  obtain ⟨f, c, T, fd, ⟨oc, od, kV, doc, pm, an, ct, osl, rfl, lk⟩, cd, ch, nt, kp, hm, b⟩ := D
  exact fn_ofZ lk cd S hfz len fun A outer s H vs Q E hr hsp H1 sm hc => hbody A outer s H vs Q E hr hsp H1 sm hc hC
end
def freeOk (outer inner : Scope) : Bool := inner.names.all fun y => y.2 != .free || (outer.names.lookup y.1 == some .cell || outer.names.lookup y.1 == some .free)
theorem defFree_of {X : Cx} {scope : Scope} (h : freeOk X.env.scope scope = true) : ∀ y ∈ scope.names, y.2 = .free → X.env.kindOf y.1 = some .cell ∨ X.env.kindOf y.1 = some .free := fun y hy hf => by
  have q := List.all_eq_true.mp h y hy
  rw [hf] at q
  simp at q
  exact q
theorem erase_at {n : Int} : ∀ {ns : List Int}, n ∈ ns → ns.erase n = ns.eraseIdx (ns.idxOf n)
  | [], h => nomatch h
  | a :: r, h => by
    by_cases e : a = n
    · subst e
      simp
    · have h' : n ∈ r := by
        rcases List.mem_cons.mp h with z | z
        · exact absurd z.symm e
        · exact z
      have e' : (a == n) = false := by simpa using e
      rw [List.erase_cons, if_neg (by simpa using e), List.idxOf_cons, e', cond_false, List.eraseIdx_cons_succ, erase_at h']
theorem not_idxOf {n : Int} : ∀ {ns : List Int} {i : Nat} (h : i < ns.length), i < ns.idxOf n → ns[i] ≠ n
  | [], _, h, _ => nomatch h
  | a :: r, i, h, hi => by
    rw [List.idxOf_cons] at hi
    by_cases e : a = n
    · subst e
      simp at hi
    · rw [show (a == n) = false by simpa using e, cond_false] at hi
      cases i with
      | zero => exact e
      | succ i => exact not_idxOf (ns := r) (i := i) (by simpa using h) (by omega)
theorem eraseIdx_map {α β : Type} (f : α → β) : ∀ (l : List α) (i : Nat), (l.map f).eraseIdx i = (l.eraseIdx i).map f
  | [], _ => rfl
  | _ :: _, 0 => rfl
  | a :: r, i + 1 => by simp [eraseIdx_map f r i]
def rRemove : V → List V → Hp → VK → Prop := fun x vs H Q => ∃ (l : Addr) (ns : List Int) (n : Int), x = .ref l ∧ vs = [.int n] ∧ H l = some (.lst (ns.map V.int)) ∧ n ∈ ns ∧ Q .non (upd H l (.lst ((ns.erase n).map V.int)))
theorem mt_remove {X : Cx} : MtM X "list.remove" rRemove := by
  intro pins s σ H x vs v us Q I rx rv h
  obtain ⟨l, ns, n, rfl, rfl, hH, hn, q⟩ := h
  cases rx
  obtain ⟨u, rfl, t, rfl⟩ := rv.one
  obtain ⟨z, its, m, r, hl, e⟩ := I.lstM hH
  rw [List.length_map] at hl
  have at_ : ∀ i (hi : i < its.length), ∃ t, its[i] = Value.int (ns[i]'(by omega)) t := fun i hi => by
    have hi' : i < ns.length := by omega
    obtain ⟨u, e1, e2⟩ := r.get (i := i) (x := V.int ns[i]) (by simp [hi'])
    obtain ⟨t, rfl⟩ := e2
    rw [List.getElem?_eq_getElem hi] at e1
    exact ⟨t, Option.some.inj e1⟩
  have hj : ns.idxOf n < ns.length := List.idxOf_lt_length_of_mem hn
  refine call_meets F.slot_list_remove ⟨_, e, rfl⟩ F.entry_list_remove (F.args_list_remove_2 _ _)
    (MeetsSeq.list_remove l its.toArray m (.int n t) (fun y => match y with | .int a _ => a == n | _ => false) (fun y hy => ?_) (ns.idxOf n) (by rw [List.size_toArray]; omega) ?_ (fun i hi hlt => ?_) (by rw [List.size_toArray, ← hl]; simpa using z)) ⟨e, ?_⟩
  · have hy' : y ∈ its := by simpa using hy
    obtain ⟨i, hi, rfl⟩ := List.getElem_of_mem hy'
    obtain ⟨t', e'⟩ := at_ i hi
    rw [e']
    exact MeetsSeq.EqGives.int _ n t' t
  · have hi : ns.idxOf n < its.length := by omega
    obtain ⟨t', e'⟩ := at_ _ hi
    rw [List.getElem_toArray, e', List.getElem_idxOf]
    simp
  · have hi' : i < its.length := by simpa using hi
    obtain ⟨t', e'⟩ := at_ i hi'
    rw [List.getElem_toArray, e']
    have := not_idxOf (by omega) hlt
    simpa using this
  · refine ⟨.non, _, I.lset (its' := its.eraseIdx (ns.idxOf n)) hH e ?_ ?_ ?_, rfl, q⟩
    · show its.toArray.eraseIdxIfInBounds (ns.idxOf n) = _
      rw [List.eraseIdxIfInBounds_toArray]
    · rw [erase_at hn, ← eraseIdx_map]
      exact r.eraseIdx _
    · rw [List.length_map]
      have := List.length_erase_of_mem hn
      rw [List.length_map] at z
      omega
theorem int_of_get {ns : List Int} {i : Nat} {y : V} (hi : (ns.map V.int)[i]? = some y) : ∃ n, n ∈ ns ∧ y = V.int n := by
  obtain ⟨h1, h2⟩ := List.getElem?_eq_some_iff.mp hi
  rw [List.getElem_map] at h2
  exact ⟨_, List.getElem_mem _, h2.symm⟩
theorem snoc_all {ns : List Int} {y : Int} {p : Int → Prop} (h : ∀ x ∈ ns, p x) (hy : p y) : ∀ x ∈ ns ++ [y], p x := fun x hx => by
  rcases List.mem_append.mp hx with z | z
  · exact h x z
  · rw [List.mem_singleton.mp z]
    exact hy
theorem Same.put {H H2 : Hp} {p : Addr} {o : HO} (h : Same H H2) (hp : H p = none) : Same H (upd H2 p o) := fun b u e => by
  rw [upd_ne (ne_of_none e hp)]
  exact h b u e
theorem inV_int {n : Int} {ns : List Int} : inV (V.int n) (ns.map V.int) = decide (n ∈ ns) := by
  unfold inV
  induction ns with
  | nil => rfl
  | cons a r ih =>
    rw [List.map_cons, List.any_cons, ih]
    by_cases h : a = n
    · subst h
      simp [eqV]
    · simp [eqV, h, Ne.symm h]
theorem flat_ints : ∀ ns : List Int, (ns.map V.int).all flatV = true
  | [] => rfl
  | a :: r => by
    rw [List.map_cons, List.all_cons, flat_ints r]
    rfl
theorem cut_ints (ss : List Int) (lo hi : Option Int) : ∃ ts : List Int, cutV (ss.map V.int) lo hi = ts.map V.int ∧ ts.length ≤ ss.length := by
  unfold cutV
  refine ⟨(ss.drop _).take _, by rw [← List.map_drop, ← List.map_take], ?_⟩
  rw [List.length_take, List.length_drop]
  omega
theorem cut1 (x : Int) (ns : List Int) : cutV ((x :: ns).map V.int) (some 1) none = ns.map V.int := by
  unfold cutV
  have e1 : HT.sIx ((x :: ns).map V.int).length 0 (some 1) = 1 := by
    have := HT.sIx_nat ((x :: ns).map V.int).length 0 1
    rw [show ((1 : Nat) : Int) = 1 from rfl] at this
    rw [this]
    simp
  rw [e1, HT.sIx_none, List.map_cons, List.drop_succ_cons, List.drop_zero]
  exact List.take_of_length_le (by simp)
def But1 (p : Addr) (H H' : Hp) : Prop := ∀ c o, H c = some o → c ≠ p → H' c = some o
structure Hold (p : Prop) : Prop where
  out : p
@[irreducible] def tMid (t u : TS) : TS := tSeq t u
theorem pss_consM {X : Cx} {st : Stmt} {rest : List Stmt} {t u : TS} (h1 : PS X st t) (h2 : PSs X rest u) : PSs X (st :: rest) (tMid t u) := by
  unfold tMid
  exact pss_cons h1 h2
theorem mid {t u : TS} {D : Ends} {σ : St} {H : Hp} (Mid : St → Hp → Prop) (hu : ∀ σ H, Mid σ H → u D σ H) (ht : ∀ U : St → Hp → Prop, (∀ σ H, Mid σ H → U σ H) → t { D with nx := U } σ H) : tMid t u D σ H := by
  unfold tMid
  exact ht (u D) hu
theorem SqL.keep {K : PySem.W.Frag} {H H' : Hp} {a : Addr} {xs : List V} (h : SqL K H a xs) (hk : ∀ o, (∀ ps, o ≠ .tbl ps) → H a = some o → H' a = some o) : SqL K H' a xs := by
  rcases h with (h | ⟨o, h⟩) | h
  · exact .inl (.inl (hk _ (fun _ z => nomatch z) h))
  · exact .inl (.inr ⟨o, hk _ (fun _ z => nomatch z) h⟩)
  · exact .inr h
theorem atI_zero {α : Type} (v : α) (vs : List α) : atI (v :: vs) 0 = some v := atI_nat (xs := v :: vs) (j := 0) rfl
end L2
set_option Elab.async false
set_option linter.all false
set_option maxRecDepth 100000
namespace L2
open PySem PySem.Spec PyProof.Rows
section
variable {X : Cx}
end
theorem comp_filter {K : PySem.W.Frag} {a D : Addr} {ns : List Int} {tc : TT} {Q : VK} {σr : St} {H : Hp} (p : Int → Bool) (hD : H D = none) (ha : SqL K H a (ns.map V.int)) (hlen : ns.length ≤ 1000)
    (ht : ∀ x ∈ ns, ∀ H' (Qt : Bool → Hp → Prop), Same H H' → (∀ H'', Same H' H'' → Qt (p x) H'') → tc (some (.int x) :: σr) H' Qt)
    (hq : ∀ H', Same H H' → H' D = some (.lst ((ns.filter p).map V.int)) → Q (.ref D) H') :
    CompW (Itl K a) (gName 0) tc (tVar 0) Q D (none :: σr) (upd H D (.lst [])) := by
  refine comp_list (xs := ns.map V.int) (fun i σ H' => ∃ v, σ = v :: σr ∧ Same H H' ∧ H' D = some (.lst (((ns.take i).filter p).map V.int))) ⟨none, rfl, Same.new H hD, upd_same⟩ (fun i σ H' _ ⟨v, _, s, _⟩ => s.seq ha) ?_ ?_
  · rintro i x σ H' hi ⟨v, rfl, s, hd⟩
    obtain ⟨h1, h2⟩ := List.getElem?_eq_some_iff.mp hi
    rw [List.getElem_map] at h2
    subst h2
    rw [List.length_map] at h1
    have et : ns.take (i + 1) = ns.take i ++ [ns[i]] := by rw [List.take_succ_eq_append_getElem h1]
    refine ht ns[i] (List.getElem_mem h1) H' _ s fun H'' s2 => ?_
    have hd2 := s2 _ _ hd
    by_cases hp : p ns[i] = true
    · rw [if_pos hp]
      refine ⟨_, rfl, _, hd2, ?_, ⟨_, rfl, (s.trans s2).put hD, ?_⟩⟩
      · rw [List.length_map]
        have := List.length_filter_le p (ns.take i)
        rw [List.length_take] at this
        exact small1000 (by omega)
      · rw [upd_same, et, List.filter_append, List.map_append]
        simp [hp]
    · rw [if_neg hp]
      refine ⟨_, rfl, s.trans s2, ?_⟩
      rw [hd2, et, List.filter_append]
      simp [hp]
  · rintro σ H' ⟨v, rfl, s, hd⟩
    rw [List.length_map, List.take_length] at hd
    exact hq H' s hd
section
variable {X : Cx} {K : PySem.W.Frag}
end
end L2
set_option Elab.async false
set_option linter.all false
set_option maxRecDepth 100000
namespace L2
open PySem PySem.Spec PyProof.Rows
def Ris (xs : Array Nat) : Prop := ∀ (i k : Nat) (hk : k < xs.size) (hi : i < k), xs[i] < xs[k]
theorem Ris.list {xs : Array Nat} (h : Ris xs) : xs.toList.Pairwise (· < ·) := List.pairwise_iff_getElem.mpr fun i k hi hk hik => by
  have := h i k (by simpa using hk) hik
  simpa using this
structure TabOk (led : Bool) (t : SetTable) : Prop where
  ris : Ris t.place
  led : t.led = led
end L2
set_option Elab.async false
set_option linter.all false
set_option maxRecDepth 100000
namespace L2
open PySem PySem.Spec PyProof.Rows
def ledOf (w : World) : Bool := !w.params.followText "set-order"
def SetX (P : Program) (w : World) (h : Heap) (a : Addr) (ks : List Int) : Prop :=
  ∃ o es ep t, h.get? a = some o ∧ o.ExactSet ∧ o.data = .set es ep t ∧ ElemsOf (intKind P w) es.toList ∧ (∀ k, k ∈ ks ↔ ∃ e ∈ es.toList, (intKind P w).is k e.2 = true) ∧ es.size < scanBound ∧ t.fits es.size = true ∧ es.size = ks.length ∧ TabOk (ledOf w) t
section
variable {P : Program} {w : World} {A : Around} {E : Value → Shared → Prop} {s : Shared}
theorem SetX.keep {h h' : Heap} {a : Addr} {ks : List Int} (x : SetX P w h a ks) (k : ∀ o, h.get? a = some o → h'.get? a = some o) : SetX P w h' a ks := by
  obtain ⟨o, es, ep, t, ho, r⟩ := x
  exact ⟨o, es, ep, t, k o ho, r⟩
set_option maxHeartbeats 4000000 in
end
end L2
set_option Elab.async false
set_option linter.all false
set_option maxRecDepth 100000
namespace L2
open PySem PySem.Spec PyProof.Rows
namespace SF
end SF
def IsSI (h : Heap) (it a : Addr) (first : Value) (i n ep : Nat) : Prop := ∃ o, h.get? it = some o ∧ o.cls = .type "set_iterator" ∧ o.data = .fields #[first, .int i 0, .ref a, .int n 0, .int ep 0]
section
variable {P : Program} {w : World} {A : Around} {E : Value → Shared → Prop} {s : Shared}
theorem IsSI.typeIs {it a : Addr} {f : Value} {i n ep : Nat} (x : IsSI s.heap it a f i n ep) : s.TypeIs (.ref it) "set_iterator" := let ⟨o, ho, hc, _⟩ := x; ⟨o, ho, hc⟩
end
end L2
set_option Elab.async false
set_option linter.all false
set_option maxRecDepth 100000
namespace L2
open PySem PySem.Spec PyProof.Rows
section
variable {P : Program} {w : World} {A : Around} {E : Value → Shared → Prop}
end
end L2
set_option Elab.async false
set_option linter.all false
set_option maxRecDepth 100000
namespace L2
open PySem PySem.Spec PyProof.Rows
section
variable {P : Program} {w : World} {A : Around} {E : Value → Shared → Prop}
end
end L2
set_option Elab.async false
set_option linter.all false
set_option maxRecDepth 100000
namespace L2
open PySem PySem.Spec PyProof.Rows
section
variable {P : Program} {w : World} {A : Around} {E : Value → Shared → Prop}
end
def sortI (ns : List Int) : List Int := ns.mergeSort (fun a b => decide (a ≤ b))
theorem sortI_perm (ns : List Int) : (sortI ns).Perm ns := List.mergeSort_perm _ _
theorem sortI_sorted (ns : List Int) : (sortI ns).Pairwise (· ≤ ·) := by
  have h := List.pairwise_mergeSort (le := fun a b : Int => decide (a ≤ b)) (by intro a b c h1 h2; simp at *; omega) (by intro a b; simp; omega) ns
  exact h.imp fun h => by simpa using h
theorem sorted_eq : ∀ {a b : List Int}, a.Perm b → a.Pairwise (· ≤ ·) → b.Pairwise (· ≤ ·) → a = b
  | [], b, p, _, _ => (List.nil_perm.mp p).symm
  | x :: r, [], p, _, _ => absurd p.symm (by intro z; exact absurd (List.nil_perm.mp z) (by simp))
  | x :: r, y :: q, p, h1, h2 => by
    obtain ⟨hx, hr⟩ := List.pairwise_cons.mp h1
    obtain ⟨hy, hq⟩ := List.pairwise_cons.mp h2
    have e : x = y := by
      have m1 : x ∈ y :: q := p.subset (.head _)
      have m2 : y ∈ x :: r := p.symm.subset (.head _)
      rcases List.mem_cons.mp m1 with e | m1
      · exact e
      · rcases List.mem_cons.mp m2 with e | m2
        · exact e.symm
        · have := hx y m2
          have := hy x m1
          omega
    subst e
    rw [sorted_eq (List.Perm.cons_inv p) hr hq]
theorem sortI_of {a b : List Int} (p : a.Perm b) (h : a.Pairwise (· ≤ ·)) : a = sortI b := sorted_eq (p.trans (sortI_perm b).symm) h (sortI_sorted b)
theorem sortI_len (ns : List Int) : (sortI ns).length = ns.length := (sortI_perm ns).length_eq
section
variable {X : Cx}
theorem call_sorted : CallR X (.builtin "sorted") (fun xs H Q => ∃ (p : Addr) (ns : List Int), xs = [.ref p] ∧ SqL X.K H p (ns.map V.int) ∧ ns.length < 64 ∧ ∀ l, H l = none → Q (.ref l) (upd H l (.lst ((sortI ns).map V.int)))) := by
  intro pins s σ H xs us Q I r h
  obtain ⟨p, ns, rfl, hq, hl, q⟩ := h
  obtain ⟨u, rfl, ru⟩ := vals1 r
  cases (show u = Value.ref p from ru)
  obtain ⟨its, rv, pl, hz⟩ := I.list hq
  have hi : IntsAre its ns := intsAre_of rv
  have hlen := hi.length
  refine sorted_ints (vs := its) pl.isList hi (by omega) fun out ns' a1 a2 a3 => ?_
  obtain ⟨e, he⟩ := sortedAll_at s.heap its out
  have e2 := sortI_of a2 a3
  subst e2
  refine ⟨.ref (s.heap.objs.size + 1), _, I.laid (a := s.heap.objs.size + 1) (o := .lst ((sortI ns).map V.int)) (t' := s.toks) (fun b o e => sortedAll_old e) (Nat.le_succ _) ?_, rfl, q _ (I.hok.fresh (Nat.le_succ _))⟩
  exact ⟨by rw [List.length_map, sortI_len]; exact Nat.le_trans (Nat.le_of_lt hl) (by decide), out.toList, e, vals_ints a1, he⟩
end
end L2
set_option Elab.async false
set_option linter.all false
set_option maxRecDepth 100000
namespace L2
open PySem PySem.Spec PyProof.Rows
section
variable {X : Cx}
def FnV (K : PySem.W.Frag) (H : Hp) (f : Addr) (fd : FuncData) : Prop := (∃ fo k0, H f = some (.frz fo k0) ∧ fo.data = .func fd) ∨ ∃ oc od osl, K.lookup f = some ⟨oc, od, .func fd, osl⟩
theorem FnV.same {K : PySem.W.Frag} {H H' : Hp} {f : Addr} {fd : FuncData} (h : FnV K H f fd) (s : Same H H') : FnV K H' f fd := by
  rcases h with ⟨fo, k0, h1, h2⟩ | h
  · exact .inl ⟨fo, k0, s _ _ h1, h2⟩
  · exact .inr h
theorem FnV.at {pins : List (Addr × Obj)} {σ : St} {H : Hp} {s : Shared} {f : Addr} {fd : FuncData} (I : Inv X pins σ H s) (h : FnV X.K H f fd) : PySem.W.FnAt f s.heap := by
  rcases h with ⟨fo, k0, h1, h2⟩ | ⟨oc, od, osl, h⟩
  · obtain ⟨z, _⟩ := I.hok f _ h1
    obtain ⟨oc, od, dt, sl⟩ := fo
    cases (show dt = Data.func fd from h2)
    exact ⟨oc, od, fd, sl, z⟩
  · exact ⟨oc, od, fd, osl, I.kIn _ _ h⟩
def tCallw (K : PySem.W.Frag) (R : Addr → FuncData → Prop) (sp : Addr → FuncData → Sp) (tf : TE) (t : TA) : TE := fun σ H Q => tf σ H fun v H1 => ∃ f fd, v = .ref f ∧ FnV K H1 f fd ∧ R f fd ∧ t σ H1 fun vs H2 => FnV K H2 f fd ∧ sp f fd vs H2 Q E0
theorem pe_callw {x : Str} {p pos : Pos} {e : Expr} {es : List Expr} {tf : TE} {t : TA} {k : Nat} {ps : List Str} {R : Addr → FuncData → Prop} {sp : Addr → FuncData → Sp} (hfe : PE X (.Name x p) tf)
    (G : ∀ f fd, R f fd → FnOk X.prog X.w X.K X.mg X.base CX0 k f fd ps (sp f fd)) (hb : ∀ f fd, R f fd → Binds X.K fd ps []) (hr : Room k X.A) (ha : PA X (e :: es) t)
    (he : starEach (e :: es) X.env = (false, eval e X.env) :: starEach es X.env := by rfl) (hpl : (backTo pos (starEach es X.env)).any (·.1) = false := by rfl) :
    PE X (.Call (.Name x p) (e :: es) [] pos) (tCallw X.K R sp tf t) := by
  intro pins s σ H Q I h
  refine wpAny_Call_Name_kw (thn (hfe pins s σ H _ I h) fun u s1 ⟨v, H1, I1, r, f, fd, ev, hz, hR, q⟩ => ?_)
  subst ev
  cases (show u = Value.ref f from r)
  refine PySem.W.callWith_F (hz.at I1) (thn (ha pos pins s1 σ H1 _ I1 q) fun us s2 ⟨vs, H2, I2, r2, hz2, q2⟩ => ⟨hz2.at I2, ?_⟩) he hpl
  exact run_fn (dvs := []) (ds := []) (G f fd hR) hr (hb f fd hR) .nil pass0 I2 r2 (by rw [List.append_nil]; exact q2)
end
structure DfMd (K : PySem.W.Frag) (C : Addr) (m qual : Str) (st : Stmt) (ps : List Str) (ds : List Value) where
  f : Addr
  fd : FuncData
  ex : ∃ (oc : Value) (od : Option Addr) (dV kV doc pm : Value) (an : Option Addr) (cdv ct : Value) (osl : Array (Option Value)),
    fd = PySem.W.fnOf m qual (defArgs st) (defBody st) (defScope st) dV kV doc pm an cdv ct ∧ K.lookup f = some ⟨oc, od, .func fd, osl⟩ ∧ PySem.W.codeIn K cdv qual = true
  me : Meth K C m f
  b : Binds K fd ps []
  bd : Binds K fd ps ds
theorem DfMd.ok {P : Program} {w : World} {K : PySem.W.Frag} {mg : Str → Option Value} {base : Heap} {C : Addr} {x qual : Str} {st : Stmt} {N ps : List Str} {ds : List Value} {k : Nat} {sp : Sp} (D : DfMd K C x qual st ps ds) (S : FnScope N ps (defScope st)) (len : ∀ vs H Q E, sp vs H Q E → vs.length = ps.length)
    (hbody : ∀ (cdv : Value) (A : Around) (outer : List Env) (s : Shared) (H : Hp) (vs : List V) (Q : VK) (E : XK), Room k (A.deeper (envOfC qual (defScope st) s.heap.objs.size D.f cdv)) → sp vs H Q E →
      ∃ t, PSs (cxOf CX0 P w K mg base N qual (defScope st) D.f cdv A outer s H E).nox (defBody st) t ∧ t { nx := fun _ H' => Q .non H', rt := Q } (start N vs) H) : FnOk P w K mg base CX0 (k + 1) D.f D.fd ps sp := by
  obtain ⟨f, fd, ⟨oc, od, dV, kV, doc, pm, an, cdv, ct, osl, rfl, lk, hcd⟩, me, b, bd⟩ := D
  refine fn_of lk hcd S len fun A outer s H vs Q E hr hsp => ?_
  obtain ⟨t, h, q⟩ := hbody cdv A outer s H vs Q E hr hsp
  exact ⟨t, h.nox, q⟩
theorem len_us2 {us : List Value} {v : Value} (h : (us ++ [v]).length = 3) : ∃ a b, us = [a, b] := by
  rw [List.length_append] at h
  match us, h with
  | [a, b], _ => exact ⟨a, b, rfl⟩
end L2
set_option Elab.async false
set_option linter.all false
set_option maxRecDepth 100000
namespace L2
open PySem PySem.Spec PyProof.Rows
section
variable {X : Cx}
end
end L2
set_option Elab.async false
set_option linter.all false
set_option maxRecDepth 100000
namespace L2
open PySem PySem.Spec PyProof.Rows
structure LmShape (name qual : Str) (params : Arguments) (body : Expr) (scope : Scope) (cells : List (Str × Addr)) (fo : Obj) (clos : List (Str × Addr)) (c' : Addr) : Prop where
  ob : ∃ pm ctv, fo = PySem.W.kla_obj name qual params body scope clos pm c' ctv
  sub : ∀ x c, clos.lookup x = some c → cells.lookup x = some c
  free : ∀ x c, clos.lookup x = some c → (x, NameKind.free) ∈ scope.names
  all : ∀ y ∈ scope.names, y.2 = .free → ∃ c, clos.lookup y.1 = some c
  inj : ∀ x y c, clos.lookup x = some c → clos.lookup y = some c → x = y
structure LamV (H : Hp) (f : Addr) (name qual : Str) (params : Arguments) (body : Expr) (scope : Scope) (fr : List Str) (cv : List V) (fd : FuncData) : Prop where
  ex : ∃ fo cells clos c' oc k k', H f = some (.frz fo k) ∧ LmShape name qual params body scope cells fo clos c' ∧ fo.data = .func fd ∧ fd.closure = clos ∧ fd.code = .ref c' ∧ H c' = some (.frz oc k') ∧ CodeShape oc qual ∧
    ∀ (i : Nat) x v, fr[i]? = some x → cv[i]? = some v → ∃ c, clos.lookup x = some c ∧ CellV H c v
theorem LamV.same {H H' : Hp} {f : Addr} {name qual : Str} {params : Arguments} {body : Expr} {scope : Scope} {fr : List Str} {cv : List V} {fd : FuncData} (x : LamV H f name qual params body scope fr cv fd) (h : ∀ a o k, H a = some (.frz o k) → H' a = some (.frz o k)) :
    LamV H' f name qual params body scope fr cv fd := by
  obtain ⟨fo, cells, clos, c', oc, k, k', e1, s, e2, e3, e4, e5, cs, hv⟩ := x.ex
  exact ⟨fo, cells, clos, c', oc, k, k', h _ _ _ e1, s, e2, e3, e4, h _ _ _ e5, cs, fun i y v a b => let ⟨c, q, z⟩ := hv i y v a b; ⟨c, q, z.same fun o k => h c o k⟩⟩
def tLam (cells : List (Str × Addr)) (P : Addr) (name qual : Str) (params : Arguments) (body : Expr) (scope : Scope) (pos : Pos) : TE := fun σ H Q => ∃ ps, H P = some (.tbl ps) ∧ TriplesOk ps.toList ∧
  ((codeAmong pos ps.toList = none ∧ ∀ f c' fo oc clos, H f = none → H c' = none → f ≠ c' → f ≠ P → c' ≠ P → LmShape name qual params body scope cells fo clos c' → CodeShape oc qual →
      Q (.ref f) (upd (upd (upd H P (.tbl (ps ++ #[rawInt pos.line, rawInt pos.col, .ref c']))) c' (.frz oc (.own c'))) f (.frz fo (.own f)))) ∨
   (∃ c' oc k, codeAmong pos ps.toList = some (.ref c') ∧ H c' = some (.frz oc k) ∧ CodeShape oc qual ∧ ∀ f fo clos, H f = none → LmShape name qual params body scope cells fo clos c' → Q (.ref f) (upd H f (.frz fo (.own f)))))
section
variable {X : Cx}
theorem pe_lam {params : Arguments} {body : Expr} {scope : Scope} {pos : Pos} {c P : Addr} (hcode : X.env.code = .ref c) (hC : PySem.W.CodeHd X.base c P) (hB : X.base.BuiltinsAt X.mg P)
    (hfr : ∀ y ∈ scope.names, y.2 = .free → X.env.kindOf y.1 = some .cell ∨ X.env.kindOf y.1 = some .free) (hdef : defaultsOf params X.env = ([], []) := by rfl) :
    PE X (.Lambda params body scope pos) (tLam X.env.cells P "<lambda>" (X.env.qual ++ "<lambda>") params body scope pos) := by
  intro pins s σ H Q I h
  obtain ⟨ps, hP, ht, h⟩ := h
  obtain ⟨cl, hclos, hcl, hcl2, hcl3⟩ := closureFor_all (scope := scope) (env := X.env) (fun y hy hf => I.ok.has y.1 (hfr y hy hf))
  have hPo : s.heap.get? P = some (PySem.W.tabObj ps) := I.hok P _ hP
  have hg : s.heap.Ns mainGlobals X.mg := I.ok.mod.glob.keeps I.bk
  have hgP : mainGlobals ≠ P := fun q => by
    obtain ⟨o, es, ep, e, hd, _⟩ := hg
    rw [q, hPo] at e
    cases e
    cases hd
  have hBs : s.heap.BuiltinsAt X.mg P := by
    obtain ⟨bm, o, a1, a2, a3, a4, a5, a6⟩ := hB
    exact ⟨bm, o, a1, a2, a3, a4, I.bk _ _ a5, a6⟩
  have hsh : ∀ {ctv : Value} {c' : Addr}, LmShape "<lambda>" (X.env.qual ++ "<lambda>") params body scope X.env.cells (PySem.W.kla_obj "<lambda>" (X.env.qual ++ "<lambda>") params body scope cl ((X.mg "__name__").getD .none) c' ctv) cl c' :=
    fun {ctv c'} => ⟨⟨_, ctv, rfl⟩, hcl, hcl3, hcl2, fun x y d h1 h2 => I.ok.inj x y d (hcl x d h1) (hcl y d h2)⟩
  refine PySem.W.kla_eval hdef ?_
  rcases h with ⟨hnone, h⟩ | ⟨c', oc, k, hsome, hc', hcs, h⟩
  · refine PySem.W.kla_makeFunction hclos I.ok.glob hg hcode (hC.keeps I.bk) hPo ht hnone hgP hBs fun c' ctv h' tk hx' hge hlt hrec htb => ?_
    obtain ⟨c2, oc, vs, t, e2, hoc, hdc, hvc⟩ := hrec
    cases e2
    have fr1 : H c' = none := I.hok.fresh hge
    have fr2 : H h'.objs.size = none := I.hok.fresh (Nat.le_trans hge (Nat.le_of_lt hlt))
    have n1 : h'.objs.size ≠ c' := Nat.ne_of_gt hlt
    have n2 : h'.objs.size ≠ P := fun z => by rw [z, hP] at fr2; cases fr2
    have n3 : c' ≠ P := fun z => by rw [z, hP] at fr1; cases fr1
    have q := h h'.objs.size c' _ oc cl fr2 fr1 n1 n2 n3 (hsh (ctv := ctv)) ⟨vs, t, hdc, hvc⟩
    have neP : ∀ b, H b = none → b ≠ P := fun b e z => by rw [z, hP] at e; cases e
    have kp : ∀ b o, b ≠ P → s.heap.get? b = some o → (h'.push (PySem.W.kla_obj "<lambda>" (X.env.qual ++ "<lambda>") params body scope cl ((X.mg "__name__").getD .none) c' ctv)).get? b = some o := fun b o hb e => Heap.get?_push_of_some _ (hx' b o hb e)
    have other : ∀ b u, H b = some u → b ≠ P → (upd (upd (upd H P (.tbl (ps ++ #[rawInt pos.line, rawInt pos.col, .ref c']))) c' (.frz oc (.own c'))) h'.objs.size (.frz (PySem.W.kla_obj "<lambda>" (X.env.qual ++ "<lambda>") params body scope cl ((X.mg "__name__").getD .none) c' ctv) (.own h'.objs.size))) b = some u := fun b u e hb => by
      rw [upd_ne (ne_of_none e fr2), upd_ne (ne_of_none e fr1), upd_ne hb]
      exact e
    have I2 : Inv X pins σ (upd (upd (upd H P (.tbl (ps ++ #[rawInt pos.line, rawInt pos.col, .ref c']))) c' (.frz oc (.own c'))) h'.objs.size (.frz (PySem.W.kla_obj "<lambda>" (X.env.qual ++ "<lambda>") params body scope cl ((X.mg "__name__").getD .none) c' ctv) (.own h'.objs.size)))
        { s with heap := h'.push (PySem.W.kla_obj "<lambda>" (X.env.qual ++ "<lambda>") params body scope cl ((X.mg "__name__").getD .none) c' ctv), toks := tk } := by
      refine I.step (g' := s.gens) (d' := s.drawn) (ch := []) (fun _ z => nomatch z) (fun b o _ _ _ e n => kp b o (neP b n) e) (fun b o _ _ _ e n => ⟨o.slots, kp b o (neP b n) e⟩) (fun b o _ e n => ?_) (fun b o _ e => ?_)
        (fun b xs e => other b _ e (fun z => by rw [z, hP] at e; cases e)) (fun b o u e => other b _ e (fun z => by rw [z, hP] at e; cases e)) (fun b qs e => ?_) (fun m hm => ?_) (fun b u e => ?_) I.bare
      · have lt := Heap.lt_size e
        rw [upd_ne (Nat.ne_of_lt (Nat.lt_of_lt_of_le lt (Nat.le_trans hge (Nat.le_of_lt hlt)))), upd_ne (Nat.ne_of_lt (Nat.lt_of_lt_of_le lt hge)), upd_ne (neP b n)]
        exact n
      · by_cases hb : b = P
        · exact ⟨_, by rw [hb]; exact Heap.get?_push_of_some _ htb⟩
        · exact ⟨o, kp b o hb e⟩
      · by_cases hb : b = P
        · subst hb
          rw [hP] at e
          cases e
          exact ⟨_, by rw [upd_ne n2.symm, upd_ne n3.symm, upd_same]⟩
        · exact ⟨#[], by rw [other b _ e hb]; simp⟩
      · obtain ⟨o, es, ep, ho, r⟩ := hm
        exact ⟨o, es, ep, kp _ o (neP _ I.free) ho, r⟩
      · by_cases hb1 : b = h'.objs.size
        · subst hb1
          rw [upd_same] at e
          cases e
          exact ⟨Heap.get?_push_size _ rfl, _, Heap.get?_push_size _ rfl⟩
        · rw [upd_ne hb1] at e
          by_cases hb2 : b = c'
          · subst hb2
            rw [upd_same] at e
            cases e
            exact ⟨Heap.get?_push_of_some _ hoc, _, Heap.get?_push_of_some _ hoc⟩
          · rw [upd_ne hb2] at e
            by_cases hb3 : b = P
            · subst hb3
              rw [upd_same] at e
              cases e
              exact Heap.get?_push_of_some _ htb
            · rw [upd_ne hb3] at e
              refine (I.hok b u e).stay (fun d v hd qd => kp d v ?_ qd) (fun d qd => other d _ qd (fun z => by rw [z, hP] at qd; cases qd)) fun d xs qd => other d _ qd (fun z => by rw [z, hP] at qd; cases qd)
              rcases hd with z | z
              · rw [z]
                exact hb3
              · exact fun y => by rw [y, hP] at z; cases z
    exact ⟨.ref h'.objs.size, _, I2, rfl, q⟩
  · refine PySem.W.kla_makeFunctionHit hclos I.ok.glob hg hcode (hC.keeps I.bk) hPo ht hsome hBs fun ctv h' tk hk hsz => ?_
    have q := h h'.objs.size _ cl (I.hok.fresh hsz) (hsh (ctv := ctv))
    have I2 := I.laid (a := h'.objs.size) (o := .frz (PySem.W.kla_obj "<lambda>" (X.env.qual ++ "<lambda>") params body scope cl ((X.mg "__name__").getD .none) c' ctv) (.own h'.objs.size)) (t' := tk)
      (h' := h'.push (PySem.W.kla_obj "<lambda>" (X.env.qual ++ "<lambda>") params body scope cl ((X.mg "__name__").getD .none) c' ctv)) (fun b u e => Heap.get?_push_of_some _ (hk b u e)) hsz ⟨Heap.get?_push_size _ rfl, _, Heap.get?_push_size _ rfl⟩
    exact ⟨.ref h'.objs.size, _, I2, rfl, q⟩
end
theorem tLam_of {cells : List (Str × Addr)} {P : Addr} {name qual : Str} {params : Arguments} {body : Expr} {scope : Scope} {pos : Pos} {Q : VK} {σ : St} {H : Hp} (T : Tab H P pos qual)
    (k : ∀ f H' fo clos c' oc k1 k2, (∀ b o, b ≠ P → H b = some o → H' b = some o) → Tab H' P pos qual → H f = none → H' f = some (.frz fo k1) → LmShape name qual params body scope cells fo clos c' → H' c' = some (.frz oc k2) → CodeShape oc qual →
      Q (.ref f) H') : tLam cells P name qual params body scope pos σ H Q := by
  obtain ⟨ps, hP, ht, z⟩ := T
  refine ⟨ps, hP, ht, ?_⟩
  rcases z with z | ⟨c', oc, k0, z1, z2, z3⟩
  · refine .inl ⟨z, fun f c' fo oc clos hf hc n1 n2 n3 sh cs => ?_⟩
    refine k f _ fo clos c' oc _ _ (fun b o hb e => ?_) ⟨_, by rw [upd_ne n2.symm, upd_ne n3.symm, upd_same], ?_, .inr ⟨c', oc, _, ?_, by rw [upd_ne n1.symm, upd_same], cs⟩⟩ hf upd_same sh (by rw [upd_ne n1.symm, upd_same]) cs
    · rw [upd_ne (ne_of_none e hf), upd_ne (ne_of_none e hc), upd_ne hb]
      exact e
    · rw [Array.toList_append]
      exact triples_snoc rfl rfl ht
    · rw [Array.toList_append]
      exact codeAmong_snoc _ ht z
  · refine .inr ⟨c', oc, k0, z1, z2, z3, fun f fo clos hf sh => ?_⟩
    refine k f _ fo clos c' oc _ _ (fun b o _ e => by rw [upd_ne (ne_of_none e hf)]; exact e) ⟨ps, by rw [upd_ne (ne_of_none hP hf)]; exact hP, ht, .inr ⟨c', oc, k0, z1, by rw [upd_ne (ne_of_none z2 hf)]; exact z2, z3⟩⟩ hf upd_same sh (by rw [upd_ne (ne_of_none z2 hf)]; exact z2) z3
def RLm (name qual : Str) (params : Arguments) (body : Expr) (scope : Scope) (_ : Addr) (fd : FuncData) : Prop := ∃ clos pm c' ct, fd = PySem.W.kla_fn name qual params body scope clos pm (.ref c') ct
theorem lamv_of {name qual : Str} {params : Arguments} {body : Expr} {scope : Scope} {cells clos : List (Str × Addr)} {fo oc : Obj} {c' f : Addr} {k1 k2 : HO} {H' : Hp} {fr : List Str} {cv : List V} (sh : LmShape name qual params body scope cells fo clos c')
    (hf : H' f = some (.frz fo k1)) (hc' : H' c' = some (.frz oc k2)) (cs : CodeShape oc qual) (hfr : ∀ (i : Nat) x v, fr[i]? = some x → cv[i]? = some v → (x, NameKind.free) ∈ scope.names ∧ ∃ c, cells.lookup x = some c ∧ CellV H' c v) :
    ∃ fd, fo.data = .func fd ∧ RLm name qual params body scope f fd ∧ LamV H' f name qual params body scope fr cv fd := by
  obtain ⟨pm, ctv, hfo⟩ := id sh.ob
  have hd : fo.data = .func (PySem.W.kla_fn name qual params body scope clos pm (.ref c') ctv) := by rw [hfo]
  refine ⟨_, hd, ⟨clos, pm, c', ctv, rfl⟩, ⟨fo, cells, clos, c', oc, k1, k2, hf, sh, hd, rfl, rfl, hc', cs, fun i x v h1 h2 => ?_⟩⟩
  obtain ⟨hx, c, hc, hv⟩ := hfr i x v h1 h2
  obtain ⟨c2, e2⟩ := sh.all (x, .free) hx rfl
  have e3 := sh.sub x c2 e2
  rw [hc] at e3
  cases e3
  exact ⟨c, e2, hv⟩
section
variable {P : Program} {w : World} {K : PySem.W.Frag} {mg : Str → Option Value} {base : Heap}
theorem fn_lam {k : Nat} {f : Addr} {name qual : Str} {params : Arguments} {body : Expr} {scope : Scope} {fd : FuncData} {N ps fr : List Str} {sp : List V → Sp} (S : CloScope N ps fr scope)
    (len : ∀ cv vs H Q E, sp cv vs H Q E → vs.length = ps.length)
    (hbody : ∀ (clos : List (Str × Addr)) (cdv : Value) (A : Around) (outer : List Env) (s : Shared) (H : Hp) (cv vs : List V) (Q : VK) (E : XK), Room k (A.deeper (envClo qual scope clos s.heap.objs.size f cdv)) → cv.length = fr.length → sp cv vs H Q E →
      ∃ t, PE (cxClo P w K mg base N qual scope clos f cdv A outer s H) body t ∧ t ((vs ++ cv).map some ++ List.replicate (N.length - (ps ++ fr).length) none) H Q) :
    FnOk P w K mg base CX0 (k + 1) f fd ps (fun vs H Q E => ∃ cv, cv.length = fr.length ∧ LamV H f name qual params body scope fr cv fd ∧ sp cv vs H Q E) := by
  refine ⟨fun vs H Q E h => let ⟨cv, _, _, q⟩ := h; len cv vs H Q E q, fun A outer s H args us vs Q E hr e0 hb r hsp => ?_⟩
  obtain ⟨cv, hcl, FV, hsp⟩ := hsp
  obtain ⟨fo, cells, clos, c', oc, k1, k2, e1, SH, e2, e3, e4, e5, cs, hv⟩ := FV.ex
  obtain ⟨pm, ctv, hfo⟩ := SH.ob
  have hl := len _ _ _ _ _ hsp
  have hlu : us.length = ps.length := by rw [← hl]; exact r.length.symm
  have lim : s.heap.NoLimit := e0.mod.nolimit.keeps fun b o e => (e0.bs b o e).1
  obtain ⟨hf, _⟩ := e0.hok f _ e1
  obtain ⟨hc, _⟩ := e0.hok c' _ e5
  have hfd : fd = PySem.W.kla_fn name qual params body scope clos pm (.ref c') ctv := by
    have z : Data.func fd = Data.func (PySem.W.kla_fn name qual params body scope clos pm (.ref c') ctv) := by rw [← e2, hfo]
    exact Data.func.inj z
  obtain ⟨vs1, t1, q1, q2⟩ := cs
  subst hfd
  have ndP : ps.Nodup := by
    have z : (ps ++ fr).Nodup := by rw [← S.pre]; exact S.nd.sublist (List.take_sublist _ _)
    exact (List.nodup_append.mp z).1
  have hlen : (ps ++ fr).length ≤ N.length := by have := congrArg List.length S.pre; rw [List.length_take] at this; omega
  refine PySem.W.kla_callFunE hr.depth hf e2 S.co S.gen rfl ⟨c', oc, vs1, t1, rfl, hc, q1, q2⟩ (hb _ _ _ _ ?_)
  refine wpAny_newFunctionEnv S.nocell (fun y hy => S.par y.1 (List.of_mem_zip hy).1) (fun h1 hns hsb => ?_) S.kind
  have kp : ∀ b o, s.heap.get? b = some o → h1.get? b = some o := fun b o e => (hsb.2 b (Nat.ne_of_lt (Heap.lt_size e))).trans (Heap.get?_push_of_some _ e)
  refine ⟨lim.keeps kp, PySem.W.kla_codeExpr ?_⟩
  obtain ⟨t, ht, hq⟩ := hbody clos (.ref c') A outer s H cv vs Q E (hr.deeper _) hcl hsp
  have noA : ∀ b : Addr, b ∉ (cxClo P w K mg base N qual scope clos f (.ref c') A outer s H).ex := fun b z => absurd (show b ∈ ([] : List Addr) from z) (by simp)
  have kcell : ∀ x c, clos.lookup x = some c → ∃ v, CellV H c v := fun x c e => by
    have hx := S.allfr _ (SH.free x c e) rfl
    obtain ⟨i, hi⟩ := List.getElem?_of_mem hx
    have : i < cv.length := by rw [hcl]; exact (List.getElem?_eq_some_iff.mp hi).1
    obtain ⟨c2, z1, z2⟩ := hv i x cv[i] hi (by simp [this])
    rw [e] at z1
    cases z1
    exact ⟨_, z2⟩
  have I : Inv (cxClo P w K mg base N qual scope clos f (.ref c') A outer s H) [] ((vs ++ cv).map some ++ List.replicate (N.length - (ps ++ fr).length) none) H { s with heap := h1, toks := s.toks + (ps.zip us).length } := by
    refine ⟨⟨e0.mod, S.kind, rfl, rfl, Nat.le_refl _, SH.inj, fun y hy => ?_, fun y c z => absurd z Bool.false_ne_true, fun _ => hr.hd, Around.frames_deeper e0.frames, .inr ⟨rfl, rfl⟩, fun b z => absurd z (noA b), e0.bs, e0.bsz, fun b _ _ => noA b, fun b z => absurd z (noA b), e0.funs, e0.frf⟩,
      rfl, e0.bare, Un.kept kp, ⟨_, hns, fun i y v g1 g2 g3 => ?_⟩, fun y c e => ?_, e0.hok.fresh (Nat.le_refl _), fun y c e => ?_, fun p hp => absurd (show p ∈ ([] : List (Addr × Obj)) from hp) (by simp), e0.hok.kept kp, ?_⟩
    · have hy : scope.names.lookup y = some .cell ∨ scope.names.lookup y = some .free := hy
      rcases hy with z | z
      · exact absurd rfl (S.nocell _ (PySem.mem_of_lookup z))
      · exact SH.all _ (PySem.mem_of_lookup z) rfl
    · have g1 : N[i]? = some y := g1
      have hi : i < (vs ++ cv).length := by
        by_cases hi : i < (vs ++ cv).length
        · exact hi
        · rw [List.getElem?_append_right (by simpa using hi), List.getElem?_replicate] at g2
          split at g2 <;> cases g2
      rw [List.getElem?_append_left (by simpa using hi), List.getElem?_map] at g2
      have g2' : (vs ++ cv)[i]? = some v := by
        cases q : (vs ++ cv)[i]? with
        | none => rw [q] at g2; cases g2
        | some z => rw [q] at g2; cases g2; rfl
      have hpf : (ps ++ fr)[i]? = some y := by
        rw [← S.pre, List.getElem?_take_of_lt (by rw [List.length_append] at hi ⊢; omega)]
        exact g1
      by_cases hp : i < ps.length
      · rw [List.getElem?_append_left hp] at hpf
        rw [List.getElem?_append_left (by omega)] at g2'
        obtain ⟨u, hu, ru⟩ := r.get g2'
        exact ⟨u, ru, .inl ⟨S.par y (List.mem_of_getElem? hpf), lookup_zip_rev (us := us) ndP hpf hu⟩⟩
      · rw [List.getElem?_append_right (by omega)] at hpf
        rw [List.getElem?_append_right (by omega)] at g2'
        obtain ⟨c, z1, o, u, k, z2, z3, z4⟩ := hv (i - ps.length) y v hpf (by rw [← hl]; exact g2')
        obtain ⟨z5, _⟩ := e0.hok c _ z2
        exact ⟨u, z4, .inr ⟨.inr (S.fre y (List.mem_of_getElem? hpf)), c, z1, o, kp _ _ z5, z3⟩⟩
    · obtain ⟨v, o, u, k, z2, z3, z4⟩ := kcell y c e
      obtain ⟨z5, _⟩ := e0.hok c _ z2
      exact ⟨_, o, kp _ _ z5, z3⟩
    · obtain ⟨v, o, u, k, z2, _⟩ := kcell y c e
      exact ⟨fun z => absurd z Bool.false_ne_true, .inr ⟨o, k, z2⟩⟩
    · show _ = N.length
      have z1 : (ps ++ fr).length = ps.length + fr.length := List.length_append
      rw [List.length_append, List.length_map, List.length_replicate, List.length_append]
      omega
  exact wpAny_mono (ht [] _ _ H _ I hq) (fun u s' ⟨v, H', J, rv, q⟩ => ⟨v, H', J.os, J.bare, J.base, J.hok, rv, q⟩) fun e s' hs => hs.elim
end
end L2
set_option Elab.async false
set_option linter.all false
set_option maxRecDepth 100000
namespace L2
open PySem PySem.Spec PyProof.Rows
end L2
set_option Elab.async false
set_option linter.all false
set_option maxRecDepth 100000
namespace L2
open PySem PySem.Spec PyProof.Rows
section
variable {X : Cx}
end
end L2
set_option Elab.async false
set_option linter.all false
set_option maxRecDepth 100000
namespace L2
open PySem PySem.Spec PyProof.Rows
section
variable {P : Program} {w : World} {K : PySem.W.Frag} {mg : Str → Option Value} {base : Heap} {N : List Str} {qual : Str} {scope : Scope} {f : Addr} {cd : Value} {A : Around} {outer : List Env} {s0 : Shared} {H0 : Hp} {E : XK} {fn : Str → Bool}
end
abbrev bmV : List Value := [.type "ValueError", .type "Exception", .type "BaseException", .type "object"]
structure DfE (K : PySem.W.Frag) (mg : Str → Option Value) (x : Str) where
  C : Addr
  hm : mg x = some (.ref C)
  ex : PySem.W.excIn K C bmV "ValueError.__new__" = true
theorem exc_obj {K : PySem.W.Frag} {h : Heap} {C : Addr} {bmB : List Value} {newId : String} (X : K.In h) (q : PySem.W.excIn K C bmB newId = true) :
    ∃ bm N nm qn bs hdct sn sub ab col dd k0 k1 k2 k3 k5 mN, h.get? C = some (excClassObj nm qn C N bs bm hdct sn sub ab col dd k0 k1 k2 k3 k5 newId) ∧ h.Ns N mN ∧ mN "__init__" = none ∧ OwnTail h bmB bm := by
  unfold PySem.W.excIn at q
  split at q
  · rename_i dd cd sl ho
    split at q
    · rename_i C1 bm k0 k1 k2 k3 n k5 hm hs
      simp only [Bool.and_eq_true, beq_iff_eq, Bool.not_eq_true'] at q
      obtain ⟨⟨⟨⟨⟨e1, e2⟩, hdel⟩, ht⟩, hok⟩, hni⟩ := q
      subst e1 e2
      obtain ⟨nm, bs, mro, ns, qn, hd, sn, sub, ab, col, del⟩ := cd
      dsimp only at hm hdel hok hni
      subst hm hdel
      obtain ⟨l⟩ := sl
      simp only at hs
      subst hs
      exact ⟨bm, ns, nm, qn, bs, hd, sn, sub, ab, col, dd, k0, k1, k2, k3, k5, _, X _ _ ho, .of_isNs (PySem.W.isNs_of_in X hok), PySem.W.nsMap_none_of_in X hok hni, PySem.W.tail_of_in X ht⟩
    · cases q
  · cases q
def tRaise (W : Hp → Prop) (t : TA) : TS := fun D σ H => t σ H fun vs H1 => vs.length ≤ sizeLine ∧ W H1
theorem ps_raise {X : Cx} {x : Str} {np cpos pos : Pos} {e : Expr} {es : List Expr} {t : TA} {W : Hp → Prop} (D : DfE X.K X.mg x) (hg : Gl X x) (hc : X.calm = true) (ha : PA X (e :: es) t)
    (hxe : ∀ (pins : List (Addr × Obj)) (σ : St) (H : Hp) (s : Shared) (h' : Heap) (ea : Addr) (vs : List Value), Inv X pins σ H s → Heap.MadeExcOf s.heap h' ea (.ref D.C) vs → W H → X.xe (.ref ea) { s with heap := h' })
    (hs : starEach (e :: es) X.env = (false, eval e X.env) :: starEach es X.env := by rfl) (hpl : (backTo cpos (starEach es X.env)).any (·.1) = false := by rfl) (hdb : (x == ("__debug__" : Str)) = false := by decide) :
    PS X (.Raise (some (.Call (.Name x np) (e :: es) [] cpos)) none pos) (tRaise W t) := by
  intro pins s σ H D' I h
  obtain ⟨bm, N, nm, q, bs, hdct, sn, sub, ab, col, dd, k0, k1, k2, k3, k5, mN, hC, hN, hni, T⟩ := exc_obj I.ok.mod.kin D.ex
  refine wpAny_Raise_call_subU (C := D.C) (nm := nm) (q := q) (N := N) (bs := bs) (bm := bm) (hdct := hdct) (sn := sn) (sub := sub) (ab := ab) (col := col) (dd := dd) (k0 := k0) (k1 := k1) (k2 := k2) (k3 := k3) (k5 := k5)
    PySem.F.excBase_ValueError (bmB := bmV) (by decide +kernel) PySem.F.excBase_ValueError (mN := mN) (T.hasType PySem.F.excBase_ValueError.hasBase) (I.ok.hd hc) (by rw [hs]; show (false || (backTo cpos (starEach es X.env)).any (·.1)) = false; rw [hpl]; rfl) hni (ld_glob I hg D.hm ⟨rfl, ?_⟩ hdb)
  have A1 := ha cpos pins s σ H _ I h
  rw [hs] at A1 ⊢
  refine Calls.evalArgs_plain (wpAny_mono A1 (fun us s2 h2 => ?_) fun _ _ y => y)
  obtain ⟨vs, H1, I1, r, hz, hw⟩ := h2
  exact ⟨rfl, by rw [← r.length]; exact hz, I1.bk _ _ hC, hN.keeps I1.bk, T.keeps I1.bk, fun h' ea hm => hxe pins σ H1 s2 h' ea us I1 hm hw⟩
section
variable {P : Program} {w : World} {K : PySem.W.Frag} {mg : Str → Option Value} {base : Heap} {N : List Str} {qual : Str} {scope : Scope} {f : Addr} {cd : Value} {A : Around} {outer : List Env} {s0 : Shared} {H0 : Hp} {E : XK} {fn : Str → Bool}
end
end L2
set_option Elab.async false
set_option linter.all false
set_option maxRecDepth 100000
namespace L2
open PySem PySem.Spec PyProof.Rows
section
variable {M : Model} {A : Around} {E : Value → Shared → Prop}
variable {nm q : Str} {C N : Addr} {bs bm : List Value} {hdct : Bool} {sn : List Str} {sub : List Value} {ab : Bool} {col : Option Bool} {dd : Option Addr} {k0 k1 k2 k3 k5 : Option Value} {newId : String}
variable {nm' q' : Str} {C' N' : Addr} {bs' bm' : List Value} {hdct' : Bool} {sn' : List Str} {sub' : List Value} {ab' : Bool} {col' : Option Bool} {dd' : Option Addr} {j0 j1 j2 j3 j5 : Option Value} {newId' : String}
end
section
variable {X : Cx} {pins : List (Addr × Obj)} {σ : St} {H H' : Hp} {s s' : Shared} {e t : Addr} {C : Value} {B h6 : Heap}
end
end L2
set_option Elab.async false
set_option linter.all false
set_option maxRecDepth 100000
namespace L2
open PySem PySem.Spec PyProof.Rows
def Cx.tryC (X : Cx) (pins : List (Addr × Obj)) (E : Value → Shared → Prop) : Cx := { X with pn := X.pn ++ pins, xe := E }
def Cx.suiteC (X : Cx) (e : Addr) : Cx := { X with A := X.A.mark (some (.ref e)), calm := false, xe := fun _ _ => False }
section
variable {X : Cx} {pins pl : List (Addr × Obj)} {σ : St} {H : Hp} {s : Shared} {E : Value → Shared → Prop} {e : Addr}
theorem Cx.Ok.tryC (o : X.Ok) : (X.tryC pins E).Ok := ⟨o.mod, o.kind, o.glob, o.blt, o.above, o.inj, o.has, o.cab, o.hd, o.frames, o.stk, o.exf, o.bs, o.bsz, o.noex, o.exfs, o.funs, o.frf⟩
theorem Cx.Ok.suiteC (o : X.Ok) : (X.suiteC e).Ok := ⟨o.mod, o.kind, o.glob, o.blt, o.above, o.inj, o.has, o.cab, fun z => absurd z Bool.false_ne_true, o.frames, o.stk, o.exf, o.bs, o.bsz, o.noex, o.exfs, o.funs, o.frf⟩
theorem Inv.tryC (I : Inv X pins σ H s) : Inv (X.tryC pins E) [] σ H s := ⟨I.ok.tryC, I.os, I.bare, I.base, I.loc, I.cell, I.free, I.freeC, fun p hp => I.pin p (by
  have hp : p ∈ (X.pn ++ pins) ++ [] := hp
  rw [List.append_nil] at hp
  exact hp), I.hok, I.len⟩
theorem Inv.suiteC (I : Inv X pins σ H s) : Inv (X.suiteC e) pins σ H s := ⟨I.ok.suiteC, I.os, I.bare, I.base, I.loc, I.cell, I.free, I.freeC, I.pin, I.hok, I.len⟩
end
end L2
set_option Elab.async false
set_option linter.all false
set_option maxRecDepth 100000
namespace L2
open PySem PySem.Spec PyProof.Rows
section
open PySem.W PySem.Builtin PySem.Builtin.ObjectAttr PySem.Builtin.Getset_descriptor
variable {K : Frag} {D x : Addr} {prog : Program} {w : World} {A : Around} {E : Value → Shared → Prop} {s : Shared}
def OfC (h : Heap) (x D : Addr) : Prop := ∃ o, h.get? x = some o ∧ o.cls = .ref D
theorem OfC.ty {M : Model} {h : Heap} (T : OfC h x D) : Looks M h (typeOf (.ref x)) (.ref D) := by
  obtain ⟨o, ho, hc⟩ := T
  exact hc ▸ (Looks.ld ho).andThen .now
theorem e_find {M : Model} {h : Heap} {name : Str} {a g : Value} (X : K.In h) (ha : findIn K (.ref D) name = some (some a)) (hg : specialIn K a "__get__" = some (some g)) (ht : takesIn K a = some true) : Looks M h (find (.ref x) (.ref D) name) (.bind g a) := by
  have L1 := looks_findIn (M := M) X ha
  have L2 : Looks M h (getOf (some a)) (some g) := looks_specialIn X hg
  have L3 := looks_takesIn (M := M) X ht
  refine L1.andThen (L2.andThen ?_)
  have L4 : Looks M h (dataDescriptor? (some a) (some g)) (some (g, a)) := L3.andThen .now
  exact L4.andThen (Looks.tag .now)
theorem e_class (hg : plainGet K D "__class__" = true) (ha : findIn K (.ref D) "__class__" = some (some (.builtin "object.__class__"))) (hn : specialIn K (.builtin "object.__class__") "__get__" = some (some (.builtin "getset_descriptor.__get__")))
    (htk : takesIn K (.builtin "object.__class__") = some true) (hm : mroIn K D (.type "object") = some true) {Q : Option Value → Shared → Prop} (X : K.In s.heap) (T : OfC s.heap x D) (q : Q (some (.ref D)) { s with toks := s.toks + 1 }) : wpAny (model prog w) A (getAttr? (.ref x) "__class__") Q E s := by
  obtain ⟨hh, gg, dr, tk, oo⟩ := s
  have T0 := T.ty (M := model prog w)
  have T1 := looks_findIn (M := model prog w) X (plainGet_of hg).1
  have T2 := looks_findIn (M := model prog w) X (plainGet_of hg).2
  have T3 := e_find (M := model prog w) (x := x) X ha hn htk
  have T4 := looks_mroIn (M := model prog w) X hm
  unfold getAttr? getAttrBy? getAttrBy
  refine wpAny_bind (wpAny_mkText (wpAny_bind (wpAny_attempt (wpAny_holding (wpAny_bind (T0.at (wpAny_bind (T1.at ?_))))))))
  show wpAny _ _ (getAttrEveryday _ _ _) _ _ _
  refine wpAny_bind (wpAny_onRaise (wpAny_runValue (codeAny_builtin F.plainObj_entry_getattr_hooked ?_)))
  refine wpAny_bind (wpAny_pure (wpAny_bind (T0.at (wpAny_bind (T3.at (wpAny_bind (T2.at ?_)))))))
  show wpAny _ _ (holding [Value.builtin "object.__class__"] (call (.builtin "getset_descriptor.__get__") [.builtin "object.__class__", .ref x, .ref D]) >>= ret) _ _ _
  refine wpAny_bind (wpAny_holding (wpAny_call (codeAny_call_builtin KF.slot_gs.plain KF.entry_gs (KF.slot_gs.check _ _ _ _ _ _ _ _ KF.type_class (KF.args_gs _ _ _) ?_))))
  unfold Builtin.«getset_descriptor.__get__»
  unfold descrGet
  rw [dga_obj]
  refine wpAny_bind (wpAny_pure ?_)
  unfold descrGetter descrCheckInstance
  unfold descrNameAndClass isInstance
  simp only [KF.owner_class]
  have L0 := T0
  have L1 := T4
  repeat lk
  refine ⟨Code.quiet_builtin _ (by decide +kernel), (codeAny_builtin KF.entry_class ?_)⟩
  unfold Builtin.«object.__class__»
  unfold shownTypeOf
  repeat lk
  exact q
structure ErrK (K : Frag) (D : Addr) : Prop where
  hg : plainGet K D "__class__" = true
  hd : hasDictIn K D = true
  ha : findIn K (.ref D) "__class__" = some (some (.builtin "object.__class__"))
  hn : specialIn K (.builtin "object.__class__") "__get__" = some (some (.builtin "getset_descriptor.__get__"))
  htk : takesIn K (.builtin "object.__class__") = some true
  hm : mroIn K D (.type "object") = some true
theorem ErrK.kit (k : ErrK K D) : KitX K (.ref x) (.ref D) (fun h => OfC h x D) where
  ty := fun _ _ _ I => I.ty
  it := fun _ _ X _ => by
    obtain ⟨cdD, hcD, _⟩ := any_some k.hd
    unfold clsIn at hcD
    split at hcD
    · rename_i c1 d1 cd1 sl1 ho
      intro A1 Q1 E1 s1 kk q
      unfold isType loadHead
      exact wpAny_bind (wpAny_loadPart (kk _ _ (X _ _ ho)) (wpAny_pure q))
    · cases hcD
  ne := fun h tp dd its n sl X htp => by
    obtain ⟨cdD, hcD, _⟩ := any_some k.hd
    refine Bool.eq_false_iff.mpr fun q => ?_
    have e : D = tp := Value.ref.inj (beq_iff_eq.mp q)
    subst e
    unfold clsIn at hcD
    split at hcD
    · rename_i c1 d1 cd1 sl1 ho
      have z := (X _ _ ho).symm.trans htp
      cases z
    · cases hcD
  ca := fun X I q => e_class k.hg k.ha k.hn k.htk k.hm X I q
end
section
variable {X : Cx}
end
end L2
set_option Elab.async false
set_option linter.all false
set_option maxRecDepth 100000
namespace L2
open PySem PySem.Spec PyProof.Rows
section
variable {X : Cx} {CX : CXT} {k : Nat} {f : Addr} {fd : FuncData} {ps : List Str} {sp : Sp} {dvs : List V} {ds : List Value} {Th : St → XK} {x : Str} {p pos : Pos} {e : Expr} {es : List Expr} {t : TA}
end
end L2
set_option Elab.async false
set_option linter.all false
set_option maxRecDepth 100000
namespace L2
open PySem PySem.Spec PyProof.Rows
end L2
namespace L2
open PySem PySem.Spec PyProof.Rows
section
variable (P : Program) (w : World)
end
section
variable {P : Program} {w : World} {H H' : Hp} {h h' : Heap} {a : Addr} {o : HO}
end
section
variable {P : Program} {w : World} {H : Hp} {h h' : Heap} {x e : Addr} {o' : HO}
end
section
variable {fs fs' ex ex' : List Addr} {H H1 H2 : Hp} {h h1 h2 h' : Heap} {a x e : Addr} {o : HO}
end
end L2
namespace L2
open PySem PySem.Spec PyProof.Rows
section
variable {X : Cx} {pins : List (Addr × Obj)} {σ : List (Option V)} {H H' : Hp} {s : Shared} {h' : Heap}
end
end L2
namespace L2
open PySem PySem.Spec PyProof.Rows
section
variable {X : Cx}
variable {a b : Expr} {ta tb : TE} {pos : Pos}
variable {tA tB' : TT} {rest : List Expr}
end
end L2
namespace L2
open PySem PySem.Spec PyProof.Rows
section
variable {X : Cx} {pins : List (Addr × Obj)} {σ : St} {H : Hp} {s : Shared} {a : Addr} {xs ys : List V}
end
section
variable {X : Cx} {pins : List (Addr × Obj)} {σ : St} {H : Hp} {s : Shared} {E : Value → Shared → Prop}
end
section
variable {X : Cx} {st : Stmt} {rest : List Stmt} {t u : TS} {e : Expr} {te : TE} {pos : Pos}
end
section
variable {X : Cx} {pos : Pos}
end
section
variable {X : Cx} {pos : Pos}
end
end L2
namespace L2
open PySem PySem.Spec PyProof.Rows
section
variable {X : Cx} {tg : Expr}
end
end L2
namespace L2
open PySem PySem.Spec PyProof.Rows
section
variable {X : Cx} {a b c : Expr} {ta tb tc : TE} {pos : Pos}
end
section
variable {X : Cx} {a b c : Expr} {ta tb tc : TE} {pos : Pos}
end
end L2
namespace L2
open PySem PySem.Spec PyProof.Rows
section
variable {prog : Program} {w : World} {A : Around} {E : Value → Shared → Prop} {s : Shared} {K : PySem.W.Frag} {x dx C f : Addr} {mA : Str → Option Value} {name : Str} {v : Value}
end
section
variable {P : Program} {w : World} {H H' : Hp} {h h' : Heap} {a C dx : Addr} {fs fs' : List (Str × V)}
end
section
variable {X : Cx} {pins : List (Addr × Obj)} {σ : St} {H : Hp} {s : Shared} {a C dx : Addr} {fs : List (Str × V)} {f : Str} {v : V} {A : Around} {E : Value → Shared → Prop}
end
section
variable {X : Cx} {o e value : Expr} {f : Str} {pos pos' tpos : Pos} {ta tv : TE}
end
section
variable {X : Cx} {pins : List (Addr × Obj)} {σ : St} {H : Hp} {s : Shared} {A : Around} {E : Value → Shared → Prop} {Q : Value → Shared → Prop} {c : Value} {b : Bool}
end
end L2
namespace L2
open PySem PySem.Spec PyProof.Rows
section
variable {X : Cx} {e : Expr} {es : List Expr} {te : TE} {t : TA} {pos : Pos}
end
section
variable {X : Cx} {pins : List (Addr × Obj)} {σ : St} {H : Hp} {s s' : Shared}
end
section
variable {X : Cx} {CX : CXT} {k : Nat} {f C : Addr} {fd : FuncData} {ps : List Str} {sp : Sp} {dvs : List V} {ds : List Value} {E : XK} {x m : Str} {p pos apos : Pos} {e o : Expr} {es : List Expr} {ta : TE} {t : TA}
end
section
variable {X : Cx} {CX : CXT} {k : Nat} {f C : Addr} {fd : FuncData} {ps ks : List Str} {sp : Sp} {E : XK} {x m : Str} {p pos apos kpos : Pos} {e o : Expr} {es : List Expr} {kws : List Keyword} {te ta : TE} {t tk : TA} {nm : Option Str}
variable {g : List Value → List Value → List Value} {gV : List V → List V → List V}
end
end L2
namespace L2
open PySem PySem.Spec PyProof.Rows
section
variable {X : Cx} {x : Str} {p pos : Pos} {e : Expr} {es : List Expr} {t : TA} {id T : String} {r : List V → Hp → VK → Prop}
end
end L2
namespace L2
open PySem PySem.Spec PyProof.Rows
section
variable {κ : Type} [DecidableEq κ]
def valV (kvs : List (κ × V)) (k : κ) : Option V := (kvs.find? fun kv => decide (kv.1 = k)).map (·.2)
def putK (kvs : List (κ × V)) (k : κ) (v : V) : List (κ × V) :=
  if (kvs.any fun kv => decide (kv.1 = k)) = true then kvs.map (fun kv => if kv.1 = k then (kv.1, v) else kv) else kvs ++ [(k, v)]
def dropK (kvs : List (κ × V)) (k : κ) : List (κ × V) := kvs.filter fun kv => decide (kv.1 ≠ k)
theorem valV_pos {p : κ × V} {r : List (κ × V)} {k : κ} (e : p.1 = k) : valV (p :: r) k = some p.2 := by simp [valV, List.find?_cons, e]
theorem valV_neg {p : κ × V} {r : List (κ × V)} {k : κ} (e : ¬ p.1 = k) : valV (p :: r) k = valV r k := by simp [valV, List.find?_cons, e]
theorem valV_any (k : κ) : ∀ kvs : List (κ × V), (kvs.any fun kv => decide (kv.1 = k)) = (valV kvs k).isSome
  | [] => rfl
  | p :: r => by
    rw [List.any_cons]
    by_cases e : p.1 = k
    · simp only [valV_pos e, decide_eq_true e, Bool.true_or, Option.isSome_some]
    · rw [valV_neg e, decide_eq_false e, Bool.false_or]; exact valV_any k r
theorem length_putK (kvs : List (κ × V)) (k : κ) (v : V) : (putK kvs k v).length ≤ kvs.length + 1 := by
  unfold putK
  split
  · rw [List.length_map]; omega
  · rw [List.length_append, List.length_cons, List.length_nil]; omega
theorem putK_new {kvs : List (κ × V)} {k : κ} (v : V) (h : valV kvs k = none) : putK kvs k v = kvs ++ [(k, v)] := by
  unfold putK
  rw [valV_any, h]
  exact if_neg (by decide)
theorem RelO.isSome_eq {o : Option V} {u : Option Value} (r : RelO o u) : o.isSome = u.isSome := by
  cases o with
  | none => cases u with
    | none => rfl
    | some _ => exact (show False from r).elim
  | some _ => cases u with
    | none => exact (show False from r).elim
    | some _ => rfl
theorem RelO.getD {o : Option V} {u : Option Value} {d : V} {d' : Value} (r : RelO o u) (rd : RelV d d') : RelV (o.getD d) (u.getD d') := by
  cases o with
  | none => cases u with
    | none => exact rd
    | some _ => exact (show False from r).elim
  | some _ => cases u with
    | none => exact (show False from r).elim
    | some _ => exact r
theorem KV.val {kvs : List (κ × V)} {vs : List (κ × Value)} (r : KV kvs vs) (k : κ) : RelO (valV kvs k) (valueAt vs k) := by
  unfold KV at r
  induction r with
  | nil => exact True.intro
  | @cons p q ps qs h t ih =>
    obtain ⟨h1, h2⟩ := h
    by_cases e : p.1 = k
    · have e' : q.1 = k := h1.symm.trans e
      have b : valueAt (q :: qs) k = some q.2 := by simp [valueAt, List.find?_cons, e']
      rw [valV_pos e, b]; exact h2
    · have e' : ¬ q.1 = k := fun z => e (h1.trans z)
      have b : valueAt (q :: qs) k = valueAt qs k := by simp [valueAt, List.find?_cons, e']
      rw [valV_neg e, b]; exact ih
theorem KV.any {kvs : List (κ × V)} {vs : List (κ × Value)} (r : KV kvs vs) (k : κ) : (kvs.any fun kv => decide (kv.1 = k)) = vs.any fun kv => decide (kv.1 = k) := by
  unfold KV at r
  induction r with
  | nil => rfl
  | cons h t ih => rw [List.any_cons, List.any_cons, ih, h.1]
theorem KV.repl {kvs : List (κ × V)} {vs : List (κ × Value)} (r : KV kvs vs) (k : κ) {y : V} {u : Value} (ry : RelV y u) :
    KV (kvs.map fun kv => if kv.1 = k then (kv.1, y) else kv) (vs.map fun kv => if kv.1 = k then (kv.1, u) else kv) := by
  unfold KV at r ⊢
  induction r with
  | nil => exact .nil
  | @cons p q ps qs h t ih =>
    rw [List.map_cons, List.map_cons]
    refine .cons ?_ ih
    obtain ⟨h1, h2⟩ := h
    by_cases e : p.1 = k
    · rw [if_pos e, if_pos (h1.symm.trans e)]; exact ⟨h1, ry⟩
    · rw [if_neg e, if_neg (fun z => e (h1.trans z))]; exact ⟨h1, h2⟩
theorem KV.put {kvs : List (κ × V)} {vs : List (κ × Value)} (r : KV kvs vs) (k : κ) {y : V} {u : Value} (ry : RelV y u) : KV (putK kvs k y) (stored vs k u) := by
  unfold putK stored
  rw [r.any k]
  by_cases e : (vs.any fun kv => decide (kv.1 = k)) = true
  · rw [if_pos e, if_pos e]; exact r.repl k ry
  · rw [if_neg e, if_neg e]; exact Paired.snoc r ⟨rfl, ry⟩
theorem KV.drop {kvs : List (κ × V)} {vs : List (κ × Value)} (r : KV kvs vs) (k : κ) : KV (dropK kvs k) (without vs k) := by
  unfold KV at r ⊢
  unfold dropK without
  induction r with
  | nil => exact .nil
  | @cons p q ps qs h t ih =>
    obtain ⟨h1, h2⟩ := h
    rw [List.filter_cons, List.filter_cons]
    by_cases e : p.1 = k
    · have a : ¬ decide (p.1 ≠ k) = true := by simp [e]
      have b : ¬ decide (q.1 ≠ k) = true := by simp [h1.symm.trans e]
      rw [if_neg a, if_neg b]; exact ih
    · have e' : ¬ q.1 = k := fun z => e (h1.trans z)
      have a : decide (p.1 ≠ k) = true := by simp [e]
      have b : decide (q.1 ≠ k) = true := by simp [e']
      rw [if_pos a, if_pos b]; exact .cons ⟨h1, h2⟩ ih
theorem KV.keys {kvs : List (κ × V)} {vs : List (κ × Value)} (r : KV kvs vs) : kvs.map (·.1) = vs.map (·.1) := by
  unfold KV at r
  induction r with
  | nil => rfl
  | cons h t ih => rw [List.map_cons, List.map_cons, ih, h.1]
theorem KV.length {kvs : List (κ × V)} {vs : List (κ × Value)} (r : KV kvs vs) : kvs.length = vs.length := Paired.length r
theorem dropK_le (kvs : List (κ × V)) (k : κ) : (dropK kvs k).length ≤ kvs.length := List.length_filter_le _ _
end
theorem kV_is {P : Program} {w : World} {k : Key} {u : Value} (r : RelV (kV k) u) : (mixKind P w).is k u = true := by
  cases k with
  | inl i => obtain ⟨t, e⟩ := (show ∃ t, u = Value.int i t from r); subst e; exact mixKind_int P w i t
  | inr x => obtain ⟨t, e⟩ := (show ∃ t, u = Value.str x t from r); subst e; exact mixKind_str P w x t
theorem items_are {P : Program} {w : World} : ∀ {ks : List Key} {us : List Value}, Vals (ks.map kV) us → ItemsAre (mixKind P w) ks us
  | [], _, r => by rw [List.map_nil] at r; cases r; exact .nil
  | k :: ks, _, r => by
    rw [List.map_cons] at r
    cases r with
    | cons h t => exact .cons (kV_is h) (items_are t)
abbrev KT (H : Hp) : List (List Key × V) → List (List Key × Addr × Value) → Prop := Paired fun p q => p.1 = q.1 ∧ H q.2.1 = some (.tup (p.1.map kV)) ∧ RelV p.2 q.2.2
theorem KT.val {H : Hp} {kvs : List (List Key × V)} {xs : List (List Key × Addr × Value)} (r : KT H kvs xs) (k : List Key) : RelO (valV kvs k) ((atKey xs k).map (·.2)) := by
  induction r with
  | nil => exact True.intro
  | @cons p q ps qs h t ih =>
    obtain ⟨h1, _, h2⟩ := h
    by_cases e : p.1 = k
    · have e' : q.1 = k := h1.symm.trans e
      have b : atKey (q :: qs) k = some q.2 := by simp [atKey, List.find?_cons, e']
      rw [valV_pos e, b]; exact h2
    · have e' : ¬ q.1 = k := fun z => e (h1.trans z)
      have b : atKey (q :: qs) k = atKey qs k := by simp [atKey, List.find?_cons, e']
      rw [valV_neg e, b]; exact ih
theorem KT.repl {H : Hp} {kvs : List (List Key × V)} {xs : List (List Key × Addr × Value)} (r : KT H kvs xs) (k : List Key) {y : V} {u : Value} (ry : RelV y u) :
    KT H (kvs.map fun kv => if kv.1 = k then (kv.1, y) else kv) (xs.map (putAt k u)) := by
  induction r with
  | nil => exact .nil
  | @cons p q ps qs h t ih =>
    rw [List.map_cons, List.map_cons]
    refine .cons ?_ ih
    obtain ⟨h1, h2, h3⟩ := h
    unfold putAt
    by_cases e : p.1 = k
    · rw [if_pos e, if_pos (h1.symm.trans e)]; exact ⟨h1, h2, ry⟩
    · rw [if_neg e, if_neg (fun z => e (h1.trans z))]; exact ⟨h1, h2, h3⟩
theorem KT.put {H : Hp} {kvs : List (List Key × V)} {xs : List (List Key × Addr × Value)} (r : KT H kvs xs) (k : List Key) {b : Addr} {y : V} {u : Value} (hb : H b = some (.tup (k.map kV))) (ry : RelV y u) :
    KT H (putK kvs k y) (storedH xs k b u) := by
  have e : (kvs.any fun kv => decide (kv.1 = k)) = (atKey xs k).isSome := by
    rw [valV_any, (r.val k).isSome_eq, Option.isSome_map]
  unfold putK storedH
  rw [e]
  by_cases q : (atKey xs k).isSome = true
  · rw [if_pos q, if_pos q]; exact r.repl k ry
  · rw [if_neg q, if_neg q]; exact Paired.snoc r ⟨rfl, hb, ry⟩
theorem KT.keeps {H H' : Hp} {kvs : List (List Key × V)} {xs : List (List Key × Addr × Value)} (r : KT H kvs xs) (ht : ∀ b ys, H b = some (.tup ys) → H' b = some (.tup ys)) : KT H' kvs xs :=
  Paired.mapP r fun _ _ z => ⟨z.1, ht _ _ z.2.1, z.2.2⟩
section
variable {P : Program} {w : World} {H : Hp} {h : Heap} {a : Addr}
theorem rd_of {u : HO} (ok : HOk P w H h) (e : Rd H a u) : ObjOk P w H h a u := e.ok ok
theorem dk_rd {kvs : List (Key × V)} (ok : HOk P w H h) (e : Rd H a (.dK kvs)) : kvs.length ≤ sizeLine ∧ (a == sysModules) = false ∧ ∃ vs, KV kvs vs ∧ h.DictOf (mixKind P w) a vs :=
  show ObjOk P w H h a (.dK kvs) from rd_of ok e
theorem dk_of {kvs : List (Key × V)} (ok : HOk P w H h) (e : H a = some (.dK kvs)) : kvs.length ≤ sizeLine ∧ (a == sysModules) = false ∧ ∃ vs, KV kvs vs ∧ h.DictOf (mixKind P w) a vs := dk_rd ok (.inl e)
theorem key_of {ks : List Key} (ok : HOk P w H h) (e : H a = some (.tup (ks.map kV))) : (tupleKind (mixKind P w)).is h ks a := by
  obtain ⟨_, its, r, o, h1, h2, n, h3⟩ := (show ObjOk P w H h a (.tup (ks.map kV)) from ok a _ e)
  exact ⟨o, its.toArray, n, h1, h2, h3, by simpa using items_are r⟩
theorem dt_rd {kvs : List (List Key × V)} (ok : HOk P w H h) (e : Rd H a (.dT kvs)) : kvs.length ≤ sizeLine ∧ (a == sysModules) = false ∧
    ∃ xs, KT H kvs xs ∧ h.DictOfH (tupleKind (mixKind P w)) a xs := by
  obtain ⟨z, y, xs, r, o, es, ep, h1, h2, h3, h4, h5⟩ := (show ObjOk P w H h a (.dT kvs) from rd_of ok e)
  refine ⟨z, y, xs, r, o, es, ep, h1, h2, h3, h4, fun x hx => ?_, h5⟩
  have all : ∀ {l : List (List Key × V)} {m : List (List Key × Addr × Value)}, KT H l m → ∀ x ∈ m, (tupleKind (mixKind P w)).is h x.1 x.2.1 := by
    intro l m q
    induction q with
    | nil => intro x hx; exact nomatch hx
    | @cons p q ps qs hq t ih =>
      intro x hx
      rcases List.mem_cons.mp hx with e | hx
      · subst e
        exact key_of ok (by rw [← hq.1]; exact hq.2.1)
      · exact ih x hx
  exact all r x hx
theorem dt_of {kvs : List (List Key × V)} (ok : HOk P w H h) (e : H a = some (.dT kvs)) : kvs.length ≤ sizeLine ∧ (a == sysModules) = false ∧
    ∃ xs, KT H kvs xs ∧ h.DictOfH (tupleKind (mixKind P w)) a xs := dt_rd ok (.inl e)
end
def DGet (H : Hp) (a : Addr) (y : V) (r : Option V) : Prop :=
  (∃ kvs k, Rd H a (.dK kvs) ∧ y = kV k ∧ r = valV kvs k) ∨ ∃ kvs k b, Rd H a (.dT kvs) ∧ y = .ref b ∧ H b = some (.tup (k.map kV)) ∧ r = valV kvs k
def DPut (H : Hp) (a : Addr) (y v : V) (H' : Hp) : Prop :=
  (∃ kvs k, H a = some (.dK kvs) ∧ y = kV k ∧ kvs.length < sizeLine ∧ H' = upd H a (.dK (putK kvs k v))) ∨
  ∃ kvs k b, H a = some (.dT kvs) ∧ y = .ref b ∧ H b = some (.tup (k.map kV)) ∧ kvs.length < sizeLine ∧ H' = upd H a (.dT (putK kvs k v))
theorem DGet.k {H : Hp} {a : Addr} {kvs : List (Key × V)} {k : Key} (e : H a = some (.dK kvs)) : DGet H a (kV k) (valV kvs k) := .inl ⟨kvs, k, .inl e, rfl, rfl⟩
theorem DGet.t {H : Hp} {a b : Addr} {kvs : List (List Key × V)} {k : List Key} (e : H a = some (.dT kvs)) (eb : H b = some (.tup (k.map kV))) : DGet H a (.ref b) (valV kvs k) := .inr ⟨kvs, k, b, .inl e, rfl, eb, rfl⟩
theorem DPut.k {H : Hp} {a : Addr} {kvs : List (Key × V)} {k : Key} {v : V} (e : H a = some (.dK kvs)) (hl : kvs.length < sizeLine) : DPut H a (kV k) v (upd H a (.dK (putK kvs k v))) := .inl ⟨kvs, k, e, rfl, hl, rfl⟩
theorem DPut.t {H : Hp} {a b : Addr} {kvs : List (List Key × V)} {k : List Key} {v : V} (e : H a = some (.dT kvs)) (eb : H b = some (.tup (k.map kV))) (hl : kvs.length < sizeLine) :
    DPut H a (.ref b) v (upd H a (.dT (putK kvs k v))) := .inr ⟨kvs, k, b, e, rfl, eb, hl, rfl⟩
section
variable {X : Cx} {pins : List (Addr × Obj)} {σ : St} {H : Hp} {s : Shared} {a : Addr} {y v : V} {u r : Value} {o : Option V} {A : Around} {E : Value → Shared → Prop}
theorem Inv.big (I : Inv X pins σ H s) : sysModules < s.heap.objs.size := by
  have h : mainGlobals < s.heap.objs.size := (I.mod.glob.keeps I.bk).lt
  exact Nat.lt_trans (by decide) h
theorem d_getItem {Q : Value → Shared → Prop} (hu : A.units + 1 < cLine) (I : Inv X pins σ H s) (g : DGet H a y (some v)) (ry : RelV y u) (h : ∀ w' s', Inv X pins σ H s' → RelV v w' → Q w' s') :
    wpAny (model X.prog X.w) A (getItem (.ref a) u) Q E s := by
  rcases g with ⟨kvs, k, e, ey, l⟩ | ⟨kvs, k, b, e, ey, eb, l⟩
  · subst ey
    obtain ⟨z, hd, vs, rel, dd⟩ := dk_rd I.hok e
    obtain ⟨w', hw, rw'⟩ := RelO.some_of (v := v) (o := valueAt vs k) (by rw [l]; exact rel.val k)
    exact wpAny_getItem_of (kV_is ry) dd.mapOf hw (h w' _ (I.tok _) rw')
  · subst ey
    cases (show u = Value.ref b from ry)
    obtain ⟨z, hd, xs, rel, dd⟩ := dt_rd I.hok e
    obtain ⟨w', hw, rw'⟩ := RelO.some_of (v := v) (o := (atKey xs k).map (·.2)) (by rw [l]; exact rel.val k)
    obtain ⟨p, hp, hp2⟩ := Option.map_eq_some_iff.mp hw
    refine wpAny_getItem_heap (tupleKind_room_in1 hu) (key_of I.hok eb) dd hp ?_
    rw [hp2]
    exact h w' _ (I.tok _) rw'
theorem d_in {Q : Value → Shared → Prop} (hu : A.units + 1 < cLine) (I : Inv X pins σ H s) (g : DGet H a y o) (ry : RelV y u) (h : ∀ s', Inv X pins σ H s' → Q (.bool o.isSome) s') :
    wpAny (model X.prog X.w) A (compareOp .In u (.ref a)) Q E s := by
  rcases g with ⟨kvs, k, e, ey, l⟩ | ⟨kvs, k, b, e, ey, eb, l⟩
  · subst ey
    obtain ⟨z, hd, vs, rel, dd⟩ := dk_rd I.hok e
    refine wpAny_in_of (kV_is ry) hd dd.mapOf ?_
    rw [← (rel.val k).isSome_eq, ← l]
    exact h _ (I.tok _)
  · subst ey
    cases (show u = Value.ref b from ry)
    obtain ⟨z, hd, xs, rel, dd⟩ := dt_rd I.hok e
    refine wpAny_in_heap (tupleKind_room_in1 hu) (key_of I.hok eb) hd dd ?_
    have q := (rel.val k).isSome_eq
    rw [Option.isSome_map] at q
    rw [← q, ← l]
    exact h _ (I.tok _)
theorem d_notIn {Q : Value → Shared → Prop} (hu : A.units + 1 < cLine) (I : Inv X pins σ H s) (g : DGet H a y o) (ry : RelV y u) (h : ∀ s', Inv X pins σ H s' → Q (.bool (!o.isSome)) s') :
    wpAny (model X.prog X.w) A (compareOp .NotIn u (.ref a)) Q E s := by
  rcases g with ⟨kvs, k, e, ey, l⟩ | ⟨kvs, k, b, e, ey, eb, l⟩
  · subst ey
    obtain ⟨z, hd, vs, rel, dd⟩ := dk_rd I.hok e
    refine wpAny_notIn_of (kV_is ry) hd dd.mapOf ?_
    rw [← (rel.val k).isSome_eq, ← l]
    exact h _ (I.tok _)
  · subst ey
    cases (show u = Value.ref b from ry)
    obtain ⟨z, hd, xs, rel, dd⟩ := dt_rd I.hok e
    refine wpAny_notIn_heap (tupleKind_room_in1 hu) (key_of I.hok eb) hd dd ?_
    have q := (rel.val k).isSome_eq
    rw [Option.isSome_map] at q
    rw [← q, ← l]
    exact h _ (I.tok _)
theorem d_write {h' : Heap} {t' : Nat} {ob : HO} (I : Inv X pins σ H s) (mu : Mut (H a)) (hs : Heap.SameBut a s.heap h') (he : ∃ q, h'.get? a = some q) (new : ObjOk X.prog X.w (upd H a ob) h' a ob) :
    Inv X pins σ (upd H a ob) { s with heap := h', toks := t' } :=
  I.write (x := a) (e := a) mu (.inl rfl) (fun b q hb z => (hs.2 b hb).trans z) he new
theorem dk_new {P : Program} {w : World} {H' : Hp} {h' : Heap} {kvs : List (Key × V)} {vs : List (Key × Value)} (z : kvs.length ≤ sizeLine) (hd : (a == sysModules) = false) (rel : KV kvs vs) (dd : h'.DictOf (mixKind P w) a vs) :
    ObjOk P w H' h' a (.dK kvs) := ⟨z, hd, vs, rel, dd⟩
theorem d_setItem {H' : Hp} {Q : Unit → Shared → Prop} (hu : A.units + 1 < cLine) (I : Inv X pins σ H s) (g : DPut H a y v H') (ry : RelV y u) (rv : RelV v r) (h : ∀ s', Inv X pins σ H' s' → Q () s') :
    wpAny (model X.prog X.w) A (setItem (.ref a) u r) Q E s := by
  rcases g with ⟨kvs, k, e, ey, l, eH⟩ | ⟨kvs, k, b, e, ey, eb, l, eH⟩
  · subst ey eH
    obtain ⟨z, hd, vs, rel, dd⟩ := dk_of I.hok e
    have hz : vs.length ≤ sizeLine := by rw [← rel.length]; exact z
    have hl : (putK kvs k v).length ≤ sizeLine := by have := length_putK kvs k v; omega
    refine wpAny_setItem_pairs (hsz := hz) (kV_is ry) dd fun h' dd' hs => h _ ?_
    have he : ∃ q, h'.get? a = some q := let ⟨q, _, _, hq, _⟩ := dd'; ⟨q, hq⟩
    exact d_write I (by rw [e]; exact True.intro) hs he (dk_new hl hd (rel.put k rv) dd')
  · subst ey eH
    cases (show u = Value.ref b from ry)
    obtain ⟨z, hd, xs, rel, dd⟩ := dt_of I.hok e
    have hz : xs.length ≤ sizeLine := by rw [← Paired.length rel]; exact z
    have hl : (putK kvs k v).length ≤ sizeLine := by have := length_putK kvs k v; omega
    refine wpAny_setItem_heap (hsz := hz) (tupleKind_room_in1 hu) (key_of I.hok eb) dd fun h' dd' hs => h _ ?_
    obtain ⟨q, es, ep, hq, h2, h3, h4, _, h5⟩ := dd'
    refine d_write I (by rw [e]; exact True.intro) hs ⟨q, hq⟩ ⟨hl, hd, _, (rel.put k eb rv).keeps fun c ys ec => ?_, q, es, ep, hq, h2, h3, h4, h5⟩
    rw [upd_ne (ne_of ec e (fun z => nomatch z))]
    exact ec
end
section
variable {X : Cx} {pins : List (Addr × Obj)} {σ : St} {H : Hp} {s : Shared} {a : Addr} {kvs : List (Key × V)} {k : Key} {u : Value} {A : Around} {E : Value → Shared → Prop}
theorem d_pop {v : V} {more : List Value} {Q : Value → Shared → Prop} (I : Inv X pins σ H s) (e : H a = some (.dK kvs)) (ry : RelV (kV k) u) (l : valV kvs k = some v) (hm : more = [] ∨ ∃ x, more = [x])
    (h : ∀ w' s', Inv X pins σ (upd H a (.dK (dropK kvs k))) s' → RelV v w' → Q w' s') : wpAny (model X.prog X.w) A (call (.builtin "dict.pop") (.ref a :: u :: more)) Q E s := by
  obtain ⟨z, hd, vs, rel, dd⟩ := dk_of I.hok e
  obtain ⟨w', hw, rw'⟩ := RelO.some_of (v := v) (o := valueAt vs k) (by rw [← l]; exact rel.val k)
  have hp : (keyPart u).isSome = true := by
    cases k with
    | inl i => obtain ⟨t, q⟩ := (show ∃ t, u = Value.int i t from ry); subst q; rfl
    | inr x => obtain ⟨t, q⟩ := (show ∃ t, u = Value.str x t from ry); subst q; rfl
  have ha : argsOk "dict.pop" ⟨.ref a :: u :: more, []⟩ := by
    rcases hm with q | ⟨x, q⟩
    · subst q; exact PySem.F.args_dict_pop_2 _ _
    · subst q; exact PySem.F.args_dict_pop_3 _ _ _
  refine call_meetsIn PySem.F.slot_dict_pop dd.typeIs PySem.F.entry_dict_pop ha (meets_dict_pop_there (mixKind X.prog X.w) a (kV_is ry) more hm hp)
    ⟨vs, w', dd, by rw [← rel.length]; exact z, hw, fun h' dd' hs => h w' _ ?_ rw'⟩
  have he : ∃ q, h'.get? a = some q := let ⟨q, _, _, hq, _⟩ := dd'; ⟨q, hq⟩
  exact d_write I (by rw [e]; exact True.intro) hs he (dk_new (Nat.le_trans (dropK_le kvs k) z) hd (rel.drop k) dd')
theorem d_popD {r : Value} {Q : Value → Shared → Prop} (I : Inv X pins σ H s) (e : H a = some (.dK kvs)) (ry : RelV (kV k) u) (l : valV kvs k = none) (h : ∀ s', Inv X pins σ H s' → Q r s') :
    wpAny (model X.prog X.w) A (call (.builtin "dict.pop") [.ref a, u, r]) Q E s := by
  obtain ⟨z, hd, vs, rel, dd⟩ := dk_of I.hok e
  have hn : valueAt vs k = none := RelO.none_of (by rw [← l]; exact rel.val k)
  have hp : (keyPart u).isSome = true := by
    cases k with
    | inl i => obtain ⟨t, q⟩ := (show ∃ t, u = Value.int i t from ry); subst q; rfl
    | inr x => obtain ⟨t, q⟩ := (show ∃ t, u = Value.str x t from ry); subst q; rfl
  exact call_meetsIn PySem.F.slot_dict_pop dd.typeIs PySem.F.entry_dict_pop (PySem.F.args_dict_pop_3 _ _ _) (meets_dict_pop_default (mixKind X.prog X.w) a (kV_is ry) hd hp r) ⟨vs, dd, hn, h _ (I.tok _)⟩
theorem d_len {Q : Value → Shared → Prop} (I : Inv X pins σ H s) (e : Rd H a (.dK kvs)) (h : ∀ t s', Inv X pins σ H s' → Q (.int kvs.length t) s') : wpAny (model X.prog X.w) A (call (.builtin "len") [.ref a]) Q E s := by
  obtain ⟨z, hd, vs, rel, dd⟩ := dk_rd I.hok e
  refine call_len_dict hd dd (by rw [← rel.length]; rw [sizeLine_eq] at z; omega) ?_
  rw [← rel.length]
  exact h _ _ (I.tok _)
end
def NoSl (i : Expr) : Prop := ∀ ov iv, subscripted i false ov iv = operate [ov, iv] (getItem ov iv)
theorem subD_of {prog : Program} {w : World} {A : Around} {E : Value → Shared → Prop} {s : Shared} {env : Env} {value slice : Expr} {pos : Pos} {T id : String} {Q : Value → Shared → Prop}
    (hl : typeLookup (.type T) "__getitem__" = pure (some (.builtin id))) (hs : NoSl slice)
    (h : wpAny (model prog w) A (eval value env) (fun o s₁ => wpAny (model prog w) A (eval slice env) (fun i s₂ => s₂.TypeIs o T ∧ wpAny (model prog w) A (getItem o i) Q E s₂) E s₁) E s) :
    wpAny (model prog w) A (eval (.Subscript value slice pos) env) Q E s := by
  refine Subscript_ (wpAny_mono h (fun o s₁ h₁ => wpAny_mono h₁ (fun i s₂ h₂ => ?_) fun _ _ x => x) fun _ _ x => x)
  obtain ⟨hT, h₂⟩ := h₂
  unfold subscriptTail
  refine wpAny_bind ?_
  rw [getitemInPython_of_ne hT.not_modules]
  refine wpAny_bind (wpAny_specialOf hT hl ?_)
  have fin : wpAny (model prog w) A (subscripted slice false o i) (fun r s₃ => wpAny (model prog w) A (letTemporaryGo value o r >>= fun _ => pure r) Q E s₃) E s₂ := by
    rw [hs o i]
    exact wpAny_operating (wpAny_mono h₂ (fun r s₃ h₃ => wpAny_bind (wpAny_letTemporaryGo (wpAny_pure h₃))) fun _ _ x => x)
  first
    | exact wpAny_pure (wpAny_bind fin)
    | exact wpAny_bind (wpAny_pure (wpAny_bind fin))
    | exact wpAny_bind fin
theorem dict_typeIs {X : Cx} {pins : List (Addr × Obj)} {σ : St} {H : Hp} {s : Shared} {a : Addr} {y : V} {o : Option V} (I : Inv X pins σ H s) (g : DGet H a y o) : s.TypeIs (.ref a) "dict" := by
  rcases g with ⟨kvs, k, e, _, _⟩ | ⟨kvs, k, b, e, _, _, _⟩
  · obtain ⟨_, _, vs, _, dd⟩ := dk_rd I.hok e
    exact dd.typeIs
  · obtain ⟨_, _, xs, _, dd⟩ := dt_rd I.hok e
    exact dd.typeIs
def tDGet (td ty : TE) : TE := fun σ H Q => td σ H fun x H1 => ty σ H1 fun y H2 => ∃ a v, x = .ref a ∧ DGet H2 a y (some v) ∧ Q v H2
def tDIn (ty td : TE) : TE := fun σ H Q => ty σ H fun y H1 => td σ H1 fun x H2 => ∃ a o, x = .ref a ∧ DGet H2 a y o ∧ Q (.bl o.isSome) H2
def tDNotIn (ty td : TE) : TE := fun σ H Q => ty σ H fun y H1 => td σ H1 fun x H2 => ∃ a o, x = .ref a ∧ DGet H2 a y o ∧ Q (.bl (!o.isSome)) H2
def sDPut (td ty tv : TE) : TS := fun D σ H => tv σ H fun v H1 => td σ H1 fun x H2 => ty σ H2 fun y H3 => ∃ a H4, x = .ref a ∧ DPut H3 a y v H4 ∧ D.nx σ H4
section
variable {X : Cx} {o i e value : Expr} {pos pos' tpos : Pos} {td ty tv : TE}
theorem pe_dget (hu : X.A.units + 1 < cLine) (ho : PE X o td) (hi : PE X i ty) (hs : NoSl i) : PE X (.Subscript o i pos) (tDGet td ty) := by
  intro pins s σ H Q I h
  refine subD_of PySem.F.slot_dict_getitem.lookup hs (thn (ho pins s σ H _ I h) fun u s1 ⟨x, H1, I1, rx, q1⟩ => thn (hi pins s1 σ H1 _ I1 q1) fun iv s2 ⟨y, H2, I2, ry, a, v, ex, g, q2⟩ => ?_)
  subst ex
  obtain rfl : u = Value.ref a := rx
  exact ⟨dict_typeIs I2 g, d_getItem hu I2 g ry fun w' s3 I3 rw' => ⟨v, H2, I3, rw', q2⟩⟩
theorem pc_din (hu : X.A.units + 1 < cLine) (hi : PE X i ty) (ho : PE X o td) : PC X .In i o (tDIn ty td) := by
  intro pins s σ H Q I h
  refine thn (hi pins s σ H _ I h) fun iv s1 ⟨y, H1, I1, ry, q1⟩ => thn (ho pins s1 σ H1 _ I1 q1) fun u s2 ⟨x, H2, I2, rx, a, ov, ex, g, q2⟩ => ?_
  subst ex
  obtain rfl : u = Value.ref a := rx
  exact d_in hu I2 g ry fun s3 I3 => ⟨.bl ov.isSome, H2, I3, rfl, q2⟩
theorem pc_dnotin (hu : X.A.units + 1 < cLine) (hi : PE X i ty) (ho : PE X o td) : PC X .NotIn i o (tDNotIn ty td) := by
  intro pins s σ H Q I h
  refine thn (hi pins s σ H _ I h) fun iv s1 ⟨y, H1, I1, ry, q1⟩ => thn (ho pins s1 σ H1 _ I1 q1) fun u s2 ⟨x, H2, I2, rx, a, ov, ex, g, q2⟩ => ?_
  subst ex
  obtain rfl : u = Value.ref a := rx
  exact d_notIn hu I2 g ry fun s3 I3 => ⟨.bl (!ov.isSome), H2, I3, rfl, q2⟩
theorem ps_dput (hu : X.A.units + 1 < cLine) (ho : PE X o td) (hi : PE X i ty) (hv : PE X value tv) (hs : swapsWith value (some (.Subscript o i pos')) pos.line X.env = pure false) :
    PS X (.Assign [.Subscript o i pos'] value pos) (sDPut td ty tv) := by
  intro pins s σ H D I h
  refine wpAny_Assign_Subscript (thn (hv pins s σ H _ I h) fun r s1 ⟨v, H1, I1, rv, q1⟩ => thn (ho pins s1 σ H1 _ I1 q1) fun u s2 ⟨x, H2, I2, rx, q2⟩ => thn (hi pins s2 σ H2 _ I2 q2) fun iv s3 ⟨y, H3, I3, ry, a, H4, ex, g, q3⟩ => ?_) hs
  subst ex
  obtain rfl : u = Value.ref a := rx
  exact d_setItem hu I3 g ry rv fun s4 I4 => ⟨σ, H4, I4, q3⟩
end
theorem dk_empty {P : Program} {w : World} {H : Hp} (h : Heap) (hb : sysModules < h.objs.size) : ObjOk P w H (h.push { cls := .type "dict", data := .dict #[] }) h.objs.size (.dK []) :=
  ⟨Nat.zero_le _, beq_eq_false_iff_ne.mpr (Ne.symm (Nat.ne_of_lt hb)), [], .nil, Heap.DictOf.new h⟩
def tDNewK : TE := fun _ H Q => ∀ p, H p = none → Q (.ref p) (upd H p (.dK []))
section
variable {X : Cx} {pos : Pos}
theorem pe_dnewK : PE X (.Dict [] [] pos) tDNewK := fun pins s σ H Q I h =>
  wpAny_Dict_empty ⟨.ref s.heap.objs.size, _, I.laid (a := s.heap.objs.size) (o := .dK []) (t' := s.toks) (fun _ _ q => Heap.get?_push_of_some _ q) (Nat.le_refl _) (dk_empty s.heap I.big), rfl, h _ (I.hok.fresh (Nat.le_refl _))⟩
end
def tPairs : List (TE × TE) → St → Hp → (List (V × V) → Hp → Prop) → Prop
  | [], _, H, Q => Q [] H
  | (tk, tv) :: r, σ, H, Q => tk σ H fun x H1 => tv σ H1 fun y H2 => tPairs r σ H2 fun ps H3 => Q ((x, y) :: ps) H3
abbrev VV : List (V × V) → List (Value × Value) → Prop := Paired fun p q => RelV p.1 q.1 ∧ RelV p.2 q.2
def PPs (X : Cx) (pos : Pos) (keys : List (Option Expr)) (values : List Expr) (trs : List (TE × TE)) : Prop :=
  ∀ (pins : List (Addr × Obj)) (s : Shared) (σ : St) (H : Hp) (Q : List (V × V) → Hp → Prop), Inv X pins σ H s → tPairs trs σ H Q →
    wpAny (model X.prog X.w) X.A (evalPairs (pairTrees keys values X.env pos)) (fun vs s' => ∃ ps H', Inv X pins σ H' s' ∧ VV ps vs ∧ Q ps H') X.xe s
theorem pps_nil {X : Cx} {pos : Pos} : PPs X pos [] [] [] := fun pins s σ H Q I h => pairTrees_nil_walk ⟨[], H, I, .nil, h⟩
theorem pps_cons {X : Cx} {pos : Pos} {k v : Expr} {ks : List (Option Expr)} {vs : List Expr} {tk tv : TE} {trs : List (TE × TE)} (hk : PE X k tk) (hv : PE X v tv) (hr : PPs X pos ks vs trs) :
    PPs X pos (some k :: ks) (v :: vs) ((tk, tv) :: trs) := fun pins s σ H Q I h =>
  pairTrees_cons_walk (thn (hk pins s σ H _ I h) fun u s1 ⟨x, H1, I1, rx, q1⟩ => thn (hv pins s1 σ H1 _ I1 q1) fun w2 s2 ⟨y, H2, I2, ry, q2⟩ =>
    thn (hr pins s2 σ H2 _ I2 q2) fun ws s3 ⟨ps, H3, I3, rel, q3⟩ => ⟨(x, y) :: ps, H3, I3, .cons ⟨rx, ry⟩ rel, q3⟩)
def mergeK (kvs more : List (Key × V)) : List (Key × V) := more.foldl (fun acc kv => putK acc kv.1 kv.2) kvs
theorem KV.merge : ∀ {more : List (Key × V)} {rs : List (Key × Value)} {kvs : List (Key × V)} {vs : List (Key × Value)}, KV more rs → KV kvs vs → KV (mergeK kvs more) (merged vs rs) := by
  intro more rs kvs vs r
  unfold KV at r
  induction r generalizing kvs vs with
  | nil => intro q; exact q
  | @cons p q ps qs h t ih =>
    intro r0
    have e : KV (putK kvs p.1 p.2) (stored vs q.1 q.2) := by
      have := r0.put p.1 h.2
      rw [← h.1]; exact this
    exact ih e
theorem length_mergeK : ∀ (more kvs : List (Key × V)), (mergeK kvs more).length ≤ kvs.length + more.length
  | [], kvs => by show kvs.length ≤ kvs.length + 0; omega
  | p :: r, kvs => by
    have h1 := length_mergeK r (putK kvs p.1 p.2)
    have h2 := length_putK kvs p.1 p.2
    show (mergeK (putK kvs p.1 p.2) r).length ≤ _
    rw [List.length_cons]; omega
theorem carries_of {P : Program} {w : World} : ∀ {kvs : List (Key × V)} {ws : List (Value × Value)}, VV (kvs.map fun kv => (kV kv.1, kv.2)) ws → ∃ rs, Carries (mixKind P w) ws rs ∧ KV kvs rs
  | [], _, r => by rw [List.map_nil] at r; cases r; exact ⟨[], True.intro, .nil⟩
  | p :: kvs, _, r => by
    rw [List.map_cons] at r
    cases r with
    | @cons a b as bs h t =>
      obtain ⟨rs, c, q⟩ := carries_of (P := P) (w := w) t
      obtain ⟨b1, b2⟩ := b
      exact ⟨(p.1, b2) :: rs, ⟨kV_is h.1, rfl, c⟩, .cons ⟨rfl, h.2⟩ q⟩
def tDisp (trs : List (TE × TE)) : TE := fun σ H Q => ∀ p, H p = none → tPairs trs σ (upd H p (.dK [])) fun ps H2 => H2 p = some (.dK []) ∧ ∃ kvs : List (Key × V), ps = kvs.map (fun kv => (kV kv.1, kv.2)) ∧ kvs.length ≤ 15 ∧ Q (.ref p) (upd H2 p (.dK (mergeK [] kvs)))
theorem pe_disp {X : Cx} {pos : Pos} {keys : List (Option Expr)} {values : List Expr} {trs : List (TE × TE)} (h : PPs X pos keys values trs) (hall : keys.all (·.isSome) = true) (hl : keys.length = values.length) (h0 : keys ≠ [])
    (h15 : keys.length ≤ 15) : PE X (.Dict keys values pos) (tDisp trs) := by
  intro pins s σ H Q I q
  have hn := I.hok.fresh (Nat.le_refl s.heap.objs.size)
  have I1 := I.laid (a := s.heap.objs.size) (o := .dK []) (h' := s.heap.push { cls := .type "dict", data := .dict #[] }) (t' := s.toks) (fun _ _ q => Heap.get?_push_of_some _ q) (Nat.le_refl _) (dk_empty s.heap I.big)
  refine wpAny_Dict_walk (knd := mixKind X.prog X.w) hall hl h0 h15 (thn (h pins _ σ _ _ I1 (q _ hn)) fun ws s2 ⟨ps, H2, I2, rel, e, kvs, ep, lk, q2⟩ => ?_)
  subst ep
  obtain ⟨rs, c, rk⟩ := carries_of (P := X.prog) (w := X.w) rel
  obtain ⟨z, hd, vs0, r0, dd⟩ := dk_of I2.hok e
  cases r0
  refine ⟨rs, c, dd, fun h' dd' hs => ⟨.ref s.heap.objs.size, _, ?_, rfl, q2⟩⟩
  have hz : (mergeK [] kvs).length ≤ sizeLine := by
    have h1 := length_mergeK kvs []
    rw [List.length_nil] at h1
    rw [sizeLine_eq]; omega
  have he : ∃ q, h'.get? s.heap.objs.size = some q := let ⟨q, _, _, hq, _⟩ := dd'; ⟨q, hq⟩
  exact d_write I2 (by rw [e]; exact True.intro) hs he (dk_new hz hd (rk.merge .nil) dd')
structure M1 (X : Cx) (o : Expr) (m : Str) (apos : Pos) (e : Expr) (cpos : Pos) : Prop where
  base : attributeBase o m X.env (eval o X.env) = eval o X.env
  few : ((backTo cpos (starEach [e] X.env)).all (fun x => !x.1) && (backToKw cpos (keywordEach [] X.env)).all (fun x => x.1.isSome)
    && decide (([e] : List Expr).length + ([] : List Keyword).length + (if ([] : List Keyword).isEmpty then 0 else 1) < 30)) = true
  line : (apos.endLine == cpos.line) = true
  trees : backTo cpos (starEach [e] X.env) = [(false, eval e X.env)]
structure M2 (X : Cx) (o : Expr) (m : Str) (apos : Pos) (e f : Expr) (cpos : Pos) : Prop where
  base : attributeBase o m X.env (eval o X.env) = eval o X.env
  few : ((backTo cpos (starEach [e, f] X.env)).all (fun x => !x.1) && (backToKw cpos (keywordEach [] X.env)).all (fun x => x.1.isSome)
    && decide (([e, f] : List Expr).length + ([] : List Keyword).length + (if ([] : List Keyword).isEmpty then 0 else 1) < 30)) = true
  line : (apos.endLine == cpos.line) = true
  trees : backTo cpos (starEach [e, f] X.env) = [(false, eval e X.env), (false, eval f X.env)]
def IsD (H : Hp) (a : Addr) : Prop := (∃ kvs, Rd H a (.dK kvs)) ∨ ∃ kvs, Rd H a (.dT kvs)
theorem isD_at {X : Cx} {pins : List (Addr × Obj)} {σ : St} {H : Hp} {s : Shared} {a : Addr} (I : Inv X pins σ H s) (d : IsD H a) :
    s.TypeIs (.ref a) "dict" ∧ (∀ b, Value.ref a = .ref b → ∃ ob, s.heap.get? b = some ob ∧ ob.dict = none) ∧ (a == sysModules) = false := by
  rcases d with ⟨kvs, e⟩ | ⟨kvs, e⟩
  · obtain ⟨_, hd, vs, _, dd⟩ := dk_rd I.hok e
    refine ⟨dd.typeIs, fun b q => ?_, hd⟩
    cases q
    obtain ⟨ob, _, _, h1, h2, _⟩ := dd
    exact ⟨ob, h1, h2.2.1⟩
  · obtain ⟨_, hd, xs, _, dd⟩ := dt_rd I.hok e
    refine ⟨dd.typeIs, fun b q => ?_, hd⟩
    cases q
    obtain ⟨ob, _, _, h1, h2, _⟩ := dd
    exact ⟨ob, h1, h2.2.1⟩
section
variable {X : Cx} {pins : List (Addr × Obj)} {σ : St} {H : Hp} {s : Shared} {a : Addr} {y d : V} {u r : Value} {o : Option V} {A : Around} {E : Value → Shared → Prop}
theorem d_get2 {Q : Value → Shared → Prop} (hu : A.units + 1 < cLine) (I : Inv X pins σ H s) (g : DGet H a y o) (ry : RelV y u) (rd : RelV d r) (h : ∀ w' s', Inv X pins σ H s' → RelV (o.getD d) w' → Q w' s') :
    wpAny (model X.prog X.w) A (call (.builtin "dict.get") [.ref a, u, r]) Q E s := by
  rcases g with ⟨kvs, k, e, ey, l⟩ | ⟨kvs, k, b, e, ey, eb, l⟩
  · subst ey
    obtain ⟨z, hd, vs, rel, dd⟩ := dk_rd I.hok e
    refine call_meetsIn PySem.F.slot_dict_get dd.typeIs PySem.F.entry_dict_get (PySem.F.args_dict_get_3 _ _ _) (meets_dict_get_default (mixKind X.prog X.w) a (kV_is ry) hd r) ⟨_, dd.mapOf, h _ _ (I.tok _) ?_⟩
    rw [l]
    exact (rel.val k).getD rd
  · subst ey
    cases (show u = Value.ref b from ry)
    obtain ⟨z, hd, xs, rel, dd⟩ := dt_rd I.hok e
    refine call_meetsIn PySem.F.slot_dict_get dd.typeIs PySem.F.entry_dict_get (PySem.F.args_dict_get_3 _ _ _) (meetsH_dict_get_default (tupleKind (mixKind X.prog X.w)) a b hd r) ⟨tupleKind_room_in1 hu, k, xs, key_of I.hok eb, dd, h _ _ (I.tok _) ?_⟩
    rw [l]
    exact (rel.val k).getD rd
end
def tDGet2 (td ty tx : TE) : TE := fun σ H Q => td σ H fun x H1 => ∃ a, x = .ref a ∧ IsD H1 a ∧ ty σ H1 fun y H2 => tx σ H2 fun z H3 => ∃ o, DGet H3 a y o ∧ Q (o.getD z) H3
def tDPop1 (td ty : TE) : TE := fun σ H Q => td σ H fun x H1 => ∃ a, x = .ref a ∧ IsD H1 a ∧ ty σ H1 fun y H2 => ∃ kvs k v, H2 a = some (.dK kvs) ∧ y = kV k ∧ valV kvs k = some v ∧ Q v (upd H2 a (.dK (dropK kvs k)))
def tDPop2 (td ty tx : TE) : TE := fun σ H Q => td σ H fun x H1 => ∃ a, x = .ref a ∧ IsD H1 a ∧ ty σ H1 fun y H2 => tx σ H2 fun z H3 => ∃ kvs k, H3 a = some (.dK kvs) ∧ y = kV k ∧
  (∀ v, valV kvs k = some v → Q v (upd H3 a (.dK (dropK kvs k)))) ∧ (valV kvs k = none → Q z H3)
section
variable {X : Cx} {o e f : Expr} {apos cpos : Pos} {td ty tx : TE}
theorem pe_dget2 (hu : X.A.units + 1 < cLine) (ho : PE X o td) (he : PE X e ty) (hf : PE X f tx) (m : M2 X o "get" apos e f cpos) : PE X (.Call (.Attribute o "get" apos) [e, f] [] cpos) (tDGet2 td ty tx) := by
  intro pins s σ H Q I h
  refine wpAny_Call_method m.base m.few m.line PySem.F.plainAttrs_dict PySem.F.slot_dict_get PySem.F.type_dict_get (thn (ho pins s σ H _ I h) fun u s1 ⟨x, H1, I1, rx, a, ex, d, q1⟩ => ?_)
  subst ex
  obtain rfl : u = Value.ref a := rx
  obtain ⟨t1, t2, _⟩ := isD_at I1 d
  refine ⟨t1, t2, ?_⟩
  rw [m.trees]
  refine Calls.callWith_builtin rfl (Calls.evalArgs_plain (Calls.spliced_cons (thn (he pins s1 σ H1 _ I1 q1) fun iv s2 ⟨y, H2, I2, ry, q2⟩ =>
    Calls.spliced_cons (thn (hf pins s2 σ H2 _ I2 q2) fun fv s3 ⟨z, H3, I3, rz, ov, g, q3⟩ => Calls.spliced_nil ?_))))
  exact d_get2 hu I3 g ry rz fun w' s4 I4 rw' => ⟨_, H3, I4, rw', q3⟩
theorem pe_dpop1 (ho : PE X o td) (he : PE X e ty) (m : M1 X o "pop" apos e cpos) : PE X (.Call (.Attribute o "pop" apos) [e] [] cpos) (tDPop1 td ty) := by
  intro pins s σ H Q I h
  refine wpAny_Call_method m.base m.few m.line PySem.F.plainAttrs_dict PySem.F.slot_dict_pop PySem.F.type_dict_pop (thn (ho pins s σ H _ I h) fun u s1 ⟨x, H1, I1, rx, a, ex, d, q1⟩ => ?_)
  subst ex
  obtain rfl : u = Value.ref a := rx
  obtain ⟨t1, t2, _⟩ := isD_at I1 d
  refine ⟨t1, t2, ?_⟩
  rw [m.trees]
  refine Calls.callWith_builtin rfl (Calls.evalArgs_plain (Calls.spliced_cons (thn (he pins s1 σ H1 _ I1 q1) fun iv s2 ⟨y, H2, I2, ry, kvs, k, v, ea, ey, l, q2⟩ => Calls.spliced_nil ?_)))
  subst ey
  exact d_pop I2 ea ry l (.inl rfl) fun w' s3 I3 rw' => ⟨v, _, I3, rw', q2⟩
theorem pe_dpop2 (ho : PE X o td) (he : PE X e ty) (hf : PE X f tx) (m : M2 X o "pop" apos e f cpos) : PE X (.Call (.Attribute o "pop" apos) [e, f] [] cpos) (tDPop2 td ty tx) := by
  intro pins s σ H Q I h
  refine wpAny_Call_method m.base m.few m.line PySem.F.plainAttrs_dict PySem.F.slot_dict_pop PySem.F.type_dict_pop (thn (ho pins s σ H _ I h) fun u s1 ⟨x, H1, I1, rx, a, ex, d, q1⟩ => ?_)
  subst ex
  obtain rfl : u = Value.ref a := rx
  obtain ⟨t1, t2, _⟩ := isD_at I1 d
  refine ⟨t1, t2, ?_⟩
  rw [m.trees]
  refine Calls.callWith_builtin rfl (Calls.evalArgs_plain (Calls.spliced_cons (thn (he pins s1 σ H1 _ I1 q1) fun iv s2 ⟨y, H2, I2, ry, q2⟩ =>
    Calls.spliced_cons (thn (hf pins s2 σ H2 _ I2 q2) fun fv s3 ⟨z, H3, I3, rz, kvs, k, ea, ey, q3, q4⟩ => Calls.spliced_nil ?_))))
  subst ey
  cases l : valV kvs k with
  | some v => exact d_pop I3 ea ry l (.inr ⟨fv, rfl⟩) fun w' s4 I4 rw' => ⟨v, _, I4, rw', q3 v l⟩
  | none => exact d_popD I3 ea ry l fun s4 I4 => ⟨z, H3, I4, rz, q4 l⟩
end
section
variable {X : Cx} {pins : List (Addr × Obj)} {σ : St} {H : Hp} {s : Shared} {a : Addr} {kvs : List (Key × V)} {A : Around} {E : Value → Shared → Prop}
end
section
variable {X : Cx} {pins : List (Addr × Obj)} {σ : St} {H : Hp} {s : Shared} {a : Addr} {y : V} {u : Value} {A : Around} {E : Value → Shared → Prop}
end
end L2
namespace Att
open PySem PySem.W PySem.Calls PyProof.Rows
section
variable {prog : Program} {w : World} {A : Around} {E : Value → Shared → Prop} {s : Shared} {K : Frag}
end
end Att
namespace L2
open PySem PySem.Spec PyProof.Rows
end L2
namespace L2
open PySem PySem.Spec PyProof.Rows
end L2
namespace L2
open PySem PySem.Spec PyProof.Rows
section
variable {P : Program} {w : World} {K : PySem.W.Frag} {mg : Str → Option Value} {base : Heap}
end
section
variable {X : Cx}
theorem call_lenD : CallR X (.builtin "len") (fun xs H Q => ∃ a kvs, xs = [V.ref a] ∧ H a = some (.dK kvs) ∧ Q (.int kvs.length) H) := by
  intro pins s σ H xs us Q I r h
  obtain ⟨a, kvs, rfl, ha, q⟩ := h
  obtain ⟨u, rfl, ru⟩ := vals1 r
  cases ru
  exact d_len I (.inl ha) fun t s' I' => ⟨.int kvs.length, H, I', ⟨t, rfl⟩, q⟩
end
section
variable {κ : Type} [DecidableEq κ]
end
end L2
set_option Elab.async false
set_option linter.all false
set_option maxRecDepth 100000
namespace L2
open PySem PySem.Spec PyProof.Rows
section
variable {P : Program} {w : World} {K : PySem.W.Frag} {mg : Str → Option Value} {base : Heap}
end
end L2
set_option Elab.async false
set_option linter.all false
set_option maxRecDepth 100000
namespace L2
open PySem PySem.Spec PyProof.Rows
section
open PySem.W PySem.Builtin PySem.Builtin.ObjectAttr PySem.Builtin.Getset_descriptor
variable {K : Frag} {D x : Addr} {prog : Program} {w : World} {A : Around} {E : Value → Shared → Prop} {s : Shared}
theorem x_class (h1 : findIn K (.ref D) "__getattribute__" = some (some (.builtin "BaseException.__getattribute__"))) (h2 : findIn K (.ref D) "__getattr__" = some none) (ha : findIn K (.ref D) "__class__" = some (some (.builtin "object.__class__"))) (hn : specialIn K (.builtin "object.__class__") "__get__" = some (some (.builtin "getset_descriptor.__get__")))
    (htk : takesIn K (.builtin "object.__class__") = some true) (hm : mroIn K D (.type "object") = some true) (hb : mroIn K D (.type "BaseException") = some true) {Q : Option Value → Shared → Prop} (X : K.In s.heap) (T : OfC s.heap x D) (q : Q (some (.ref D)) { s with toks := s.toks + 1 }) : wpAny (model prog w) A (getAttr? (.ref x) "__class__") Q E s := by
  obtain ⟨hh, gg, dr, tk, oo⟩ := s
  have T0 := T.ty (M := model prog w)
  have T1 := looks_findIn (M := model prog w) X h1
  have T2 := looks_findIn (M := model prog w) X h2
  have T3 := e_find (M := model prog w) (x := x) X ha hn htk
  have T4 := looks_mroIn (M := model prog w) X hm
  have T5 := looks_mroIn (M := model prog w) X hb
  have hx2 : (onTheHeap (Value.ref D) && Value.builtin "BaseException.__getattribute__" == Value.builtin "object.__getattribute__") = false := by
    have : (Value.builtin "BaseException.__getattribute__" == Value.builtin "object.__getattribute__") = false := by decide +kernel
    rw [this]
    exact Bool.and_false _
  have f3 := F.excAttr_ValueError.ga.bind (.ref x)
  unfold getAttr? getAttrBy? getAttrBy
  refine wpAny_bind (wpAny_mkText (wpAny_bind (wpAny_attempt (wpAny_holding (wpAny_bind (T0.at (wpAny_bind (T1.at ?_))))))))
  dsimp only
  rw [hx2]
  show wpAny _ _ (getAttrByItsOwn _ _ _ _ _ _) _ _ _
  unfold getAttrByItsOwn hookBefore
  refine wpAny_bind (T2.at (wpAny_bind (wpAny_attempt (wpAny_holding ?_))))
  show wpAny _ _ (boundAndCalled _ _ _) _ _ _
  unfold boundAndCalled
  rw [f3]
  refine wpAny_bind (wpAny_pure ?_)
  have chk : ∀ (A' : Around) (Q' : Unit → Shared → Prop) (E' : Value → Shared → Prop) (nv : Value), Q' () ⟨hh, gg, dr, tk + 1, oo⟩ → wpAny (model prog w) A' (checkBuiltinCall "BaseException.__getattribute__" ⟨[.ref x, nv], []⟩) Q' E' ⟨hh, gg, dr, tk + 1, oo⟩ := fun A' Q' E' nv hq => by
    have hk : builtinKind "BaseException.__getattribute__" = some .slot := by decide +kernel
    have hsplit : splitId "BaseException.__getattribute__" = some ("BaseException", "__getattribute__") := by decide +kernel
    have ha := F.args_bexc_ga (.ref x) nv
    simp only [checkBuiltinCall, hk, hsplit]
    refine wpAny_bind ?_
    unfold isInstance
    have L0 := T0
    have L1 := T5
    repeat lk
    exact hq
  show wpAny _ _ (call (.builtin "BaseException.__getattribute__") [.ref x, .str "__class__" tk]) _ _ _
  refine wpAny_call (codeAny_call_builtin F.excAttr_ValueError.ga.plain F.entry_bexc_ga (chk _ _ _ _ ?_))
  unfold Builtin.«object.__getattribute__»
  iterate 18 lk
  show wpAny _ _ (holding [Value.builtin "object.__class__"] (call (.builtin "getset_descriptor.__get__") [.builtin "object.__class__", .ref x, .ref D]) >>= ret) _ _ _
  refine wpAny_bind (wpAny_holding (wpAny_call (codeAny_call_builtin KF.slot_gs.plain KF.entry_gs (KF.slot_gs.check _ _ _ _ _ _ _ _ KF.type_class (KF.args_gs _ _ _) ?_))))
  unfold Builtin.«getset_descriptor.__get__»
  unfold descrGet
  rw [dga_obj]
  refine wpAny_bind (wpAny_pure ?_)
  unfold descrGetter descrCheckInstance
  unfold descrNameAndClass isInstance
  simp only [KF.owner_class]
  have L0 := T0
  have L1 := T4
  repeat lk
  refine ⟨Code.quiet_builtin _ (by decide +kernel), (codeAny_builtin KF.entry_class ?_)⟩
  unfold Builtin.«object.__class__»
  unfold shownTypeOf
  repeat lk
  exact q
structure ErrX (K : Frag) (D : Addr) : Prop where
  h1 : findIn K (.ref D) "__getattribute__" = some (some (.builtin "BaseException.__getattribute__"))
  h2 : findIn K (.ref D) "__getattr__" = some none
  hd : hasDictIn K D = true
  ha : findIn K (.ref D) "__class__" = some (some (.builtin "object.__class__"))
  hn : specialIn K (.builtin "object.__class__") "__get__" = some (some (.builtin "getset_descriptor.__get__"))
  htk : takesIn K (.builtin "object.__class__") = some true
  hm : mroIn K D (.type "object") = some true
  hb : mroIn K D (.type "BaseException") = some true
theorem ErrX.kit (k : ErrX K D) : KitX K (.ref x) (.ref D) (fun h => OfC h x D) where
  ty := fun _ _ _ I => I.ty
  it := fun _ _ X _ => by
    obtain ⟨cdD, hcD, _⟩ := any_some k.hd
    unfold clsIn at hcD
    split at hcD
    · rename_i c1 d1 cd1 sl1 ho
      intro A1 Q1 E1 s1 kk q
      unfold isType loadHead
      exact wpAny_bind (wpAny_loadPart (kk _ _ (X _ _ ho)) (wpAny_pure q))
    · cases hcD
  ne := fun h tp dd its n sl X htp => by
    obtain ⟨cdD, hcD, _⟩ := any_some k.hd
    refine Bool.eq_false_iff.mpr fun q => ?_
    have e : D = tp := Value.ref.inj (beq_iff_eq.mp q)
    subst e
    unfold clsIn at hcD
    split at hcD
    · rename_i c1 d1 cd1 sl1 ho
      have z := (X _ _ ho).symm.trans htp
      cases z
    · cases hcD
  ca := fun X I q => x_class k.h1 k.h2 k.ha k.hn k.htk k.hm k.hb X I q
end
end L2
set_option Elab.async false
set_option linter.all false
set_option maxRecDepth 100000
namespace L2
open PySem PySem.Spec PyProof.Rows
theorem ints_at {ks : List Int} : ∀ {us : List Value}, us.length = ks.length → (∀ (j : Nat) (k : Int), ks[j]? = some k → ∀ v : Value, us[j]? = some v → ∃ t, v = Value.int k t) → IntsAre us ks := by
  induction ks with
  | nil =>
    intro us hl _
    cases us with
    | nil => exact .nil
    | cons _ _ => cases hl
  | cons k t ih =>
    intro us hl h
    cases us with
    | nil => cases hl
    | cons u r =>
      obtain ⟨tk, rfl⟩ := h 0 k rfl u rfl
      exact .cons k tk (ih (by simpa using hl) fun j k' hk v hv => h (j + 1) k' hk v hv)
section
variable {P : Program} {w : World} {A : Around} {E : Value → Shared → Prop}
theorem collect_D {s : Shared} {a : Addr} {kvs : List (Key × Value)} {ks : List Int} {ep : Nat} {Q : List Value → Shared → Prop} (hh : A.handled = none) (lo : (a == sysModules) = false) (D : s.heap.DictAt (mixKind P w) a kvs ep) (hk : kvs.map (·.1) = ks.map Sum.inl) (hn : ks.length ≤ 1000)
    (q : ∀ (h' : Heap) (tk : Nat) (vs : List Value), (∀ b o, s.heap.get? b = some o → h'.get? b = some o) → s.heap.objs.size ≤ h'.objs.size → IntsAre vs ks → Q vs { s with heap := h', toks := tk }) : wpAny (model P w) A (collect (.ref a)) Q E s := by
  have hl : kvs.length = ks.length := by
    have := congrArg List.length hk
    simpa using this
  have la : a < s.heap.objs.size := D.lt_size
  unfold collect
  refine wpAny_bind (wpAny_runValue (codeAny_builtin F.entry_proto_collect ?_))
  rw [Around.under_plainId F.plain_proto_collect _]
  refine wpAny_bind (m := newList []) (wpAny_newObj_type (wpAny_pure ⟨plainId_quiet F.plain_list_iadd _, codeAny_builtin F.entry_list_iadd ?_⟩))
  rw [Around.under_plainId F.plain_list_iadd _]
  obtain ⟨H0, eH0⟩ : ∃ H0 : Heap, H0 = s.heap.push { cls := .type "list", data := .seq ([] : List Value).toArray } := ⟨_, rfl⟩
  have k0 : ∀ b o, s.heap.get? b = some o → H0.get? b = some o := fun b o e => by rw [eH0]; exact Heap.get?_push_of_some _ e
  have g0 : H0.get? s.heap.objs.size = some { cls := .type "list", data := .seq #[] } := by rw [eH0]; exact Heap.get?_push_size _ rfl
  show wpAny _ A.in1 (Builtin.List.listExtendWith (.ref s.heap.objs.size) (.ref a) (.ref s.heap.objs.size)) _ _ { s with heap := s.heap.push _ }
  rw [← eH0]
  have Kd := PySem.W.kdl_dict (prog := P) (w := w) (knd := mixKind P w) (kvs := kvs) (ep := ep) lo
  have D0 : H0.DictAt (mixKind P w) a kvs ep := Kd.keep _ _ D fun b _ o e => k0 b o e
  have fin : ∀ (h' : Heap) (tk : Nat) (acc : Array Value), (∀ b o, b ≠ s.heap.objs.size → H0.get? b = some o → h'.get? b = some o) → s.heap.objs.size < h'.objs.size → ItemsOf (fun i v => ∃ k x, kvs[i]? = some (k, x) ∧ (mixKind P w).is k v = true) acc kvs.length → Q acc.toList { s with heap := h', toks := tk } := fun h' tk acc k1 z it => by
    refine q h' tk acc.toList (fun b o e => k1 b o (Nat.ne_of_lt (Heap.lt_size e)) (k0 b o e)) (Nat.le_of_lt z) (ints_at (by rw [Array.length_toList, it.1, hl]) fun j k hj v hv => ?_)
    obtain ⟨k', x, e1, e2⟩ := it.2 j v (by rw [← Array.getElem?_toList]; exact hv)
    have e3 : (kvs.map (·.1))[j]? = some k' := by rw [List.getElem?_map, e1]; rfl
    rw [hk, List.getElem?_map, hj] at e3
    cases e3
    exact Value.isInt_shape e2
  have key := PySem.W.kdl_extend (A := A) (s := { s with heap := H0 }) (R := fun r s' => ∃ h' tk acc c, r = .ok (.ret (.ref s.heap.objs.size)) ∧ s' = { s with heap := h', toks := tk } ∧ h'.get? s.heap.objs.size = some { cls := .type "list", data := .seq acc c } ∧ Q acc.toList { s with heap := h', toks := tk })
    Kd hh D0 s.heap.objs.size (Nat.ne_of_gt la) (Nat.ne_of_gt la) (.ref s.heap.objs.size) 0 g0 (fun h' tk acc c k1 hS it => ⟨h', tk, acc, c, rfl, rfl, hS, fin h' tk acc k1 (Heap.lt_size hS) it⟩) (by rw [hl]; exact Nat.le_of_lt (small1000 hn))
  refine wpAny_mono key (fun f s' y => ?_) fun e s' y => ?_
  · cases f with
    | done f =>
      obtain ⟨h', tk, acc, c, e, rfl, hS, z⟩ := y
      cases e
      exact wpAny_bind (wpAny_load hS (wpAny_pure z))
    | again c1 =>
      refine ⟨y.1, codeAny_mono y.2 fun r s2 y2 => ?_⟩
      obtain ⟨h', tk, acc, c, rfl, rfl, hS, z⟩ := y2
      exact wpAny_bind (wpAny_load hS (wpAny_pure z))
  · obtain ⟨_, _, _, _, e', _⟩ := y
    cases e'
theorem sorted_D {s : Shared} {a : Addr} {kvs : List (Key × Value)} {ks : List Int} {Q : Value → Shared → Prop} (hh : A.handled = none) (lo : (a == sysModules) = false) (D : s.heap.DictOf (mixKind P w) a kvs) (hk : kvs.map (·.1) = ks.map Sum.inl) (hn : ks.length < 64)
    (q : ∀ (s' : Shared) (r : Addr) (vs : List Value) (ns : List Int), (∀ b o, s.heap.get? b = some o → s'.heap.get? b = some o) → s'.gens = s.gens → s'.os = s.os → s.heap.objs.size ≤ r →
      (∃ e, s'.heap.get? r = some (seqObj "list" vs.toArray e)) → IntsAre vs ns → ns.Perm ks → ns.Pairwise (· ≤ ·) → Q (.ref r) s') :
    wpAny (model P w) A (call (.builtin "sorted") [.ref a]) Q E s := by
  have hl : kvs.length = ks.length := by
    have := congrArg List.length hk
    simpa using this
  obtain ⟨ep, hat⟩ := D.dictAt
  refine Calls.call_function_entry kind_sorted plain_sorted entry_sorted (args_sorted1 _) ?_
  unfold Builtin.«sorted»
  refine wpAny_bind (m := checkCount "sorted" 1 1 _) (wpAny_pure ?_)
  refine wpAny_bind (collect_D (by exact hh) lo hat hk (by omega) fun h' tk acc k1 z0 hi => ?_)
  have h64 : acc.length < 64 := by
    have e1 := hi.length
    omega
  refine wpAny_bind (wpAny_newList (hsz := Nat.le_trans (Nat.le_of_lt h64) (by decide)) ?_)
  have hoL : (h'.push (seqObj "list" acc.toArray 0)).get? h'.objs.size = some (seqObj "list" acc.toArray 0) := Heap.get?_push_size _ rfl
  show wpAny _ _ _ _ _ { s with heap := h'.push (seqObj "list" acc.toArray 0), toks := tk }
  refine wpAny_bind (wpAny_holding (wpAny_call_entry slot_list_sort ⟨_, hoL, rfl⟩ entry_list_sort (list_sort_tree hoL hi h64 fun out ns' a1 a2 a3 => ⟨_, rfl, ?_⟩) (args_list_sort _)))
  obtain ⟨H1, eH1⟩ : ∃ H1, H1 = h'.push (seqObj "list" acc.toArray 0) := ⟨_, rfl⟩
  have z2 : H1.objs.size = h'.objs.size + 1 := by rw [eH1]; exact size_push' _ _
  have kk : ∀ b o, h'.get? b = some o → (sortedHeap H1 h'.objs.size acc out).get? b = some o := fun b o e => by
    rw [sortedHeap_old (Nat.ne_of_lt (Heap.lt_size e)) (by rw [z2]; exact Nat.lt_succ_of_lt (Heap.lt_size e)), eH1]
    exact Heap.get?_push_of_some _ e
  have ka : ∃ e, (sortedHeap H1 h'.objs.size acc out).get? h'.objs.size = some (seqObj "list" out e) := sortedHeap_at (n := 0) (by rw [eH1]; exact hoL)
  rw [← eH1]
  generalize sortedHeap H1 h'.objs.size acc out = H2 at kk ka ⊢
  refine wpAny_pure ⟨_, rfl, q _ _ out.toList ns' (fun b o e => ?_) rfl rfl ?_ ?_ a1 a2 a3⟩
  · exact kk _ _ (k1 _ _ e)
  · exact z0
  · exact ka
end
section
variable {X : Cx}
theorem call_sortedD (hc : X.calm = true) : CallR X (.builtin "sorted") (fun xs H Q => ∃ (p : Addr) (kvs : List (Key × V)) (ks : List Int), xs = [.ref p] ∧ H p = some (.dK kvs) ∧ kvs.map (·.1) = ks.map Sum.inl ∧ ks.length < 64 ∧ ∀ l, H l = none → Q (.ref l) (upd H l (.lst ((sortI ks).map V.int)))) := by
  intro pins s σ H xs us Q I r h
  obtain ⟨p, kvs, ks, rfl, hq, hk, hl, q⟩ := h
  obtain ⟨u, rfl, ru⟩ := vals1 r
  cases (show u = Value.ref p from ru)
  obtain ⟨_, lo, vs, kv, dd⟩ := dk_of I.hok hq
  refine sorted_D (I.ok.hd hc) lo dd (kv.keys.symm.trans hk) hl fun s' l us ns k1 g1 o1 z1 hl2 hi hp hs => ?_
  obtain ⟨e, he⟩ := hl2
  have e2 := sortI_of hp hs
  subst e2
  have fr : H l = none := I.hok.fresh z1
  refine ⟨.ref l, upd H l (.lst ((sortI ks).map V.int)), I.call' (ch := []) o1 (Un.laid k1 z1 fr) ?_ (by rw [g1]; exact I.bare) (fun b hb => absurd hb (by simp)), rfl, q _ fr⟩
  refine I.hok.laid k1 z1 ⟨by rw [List.length_map, sortI_len]; exact Nat.le_trans (Nat.le_of_lt hl) (by decide), us, e, vals_ints hi, he⟩
end
section
variable {X : Cx} {CX : CXT} {k : Nat} {f C : Addr} {fd : FuncData} {ps : List Str} {sp : Sp} {dvs : List V} {ds : List Value} {Th : St → XK} {x m : Str} {p pos apos : Pos} {e o : Expr} {es : List Expr} {ta : TE} {t : TA}
end
structure DfMF (K : PySem.W.Frag) (C : Addr) (m qual : Str) (st : Stmt) (ps : List Str) where
  f : Addr
  c : Addr
  P : Addr
  fd : FuncData
  ex : ∃ (oc : Value) (od : Option Addr) (kV doc pm : Value) (an : Option Addr) (ct : Value) (osl : Array (Option Value)),
    fd = PySem.W.fnOf m qual (defArgs st) (defBody st) (defScope st) .none kV doc pm an (.ref c) ct ∧ K.lookup f = some ⟨oc, od, .func fd, osl⟩
  cd : PySem.W.codeIn K (.ref c) qual = true
  ch : PySem.W.codeHdIn K c P = true
  nt : K.lookup P = none
  me : Meth K C m f
  b : Binds K fd ps []
section
variable {P : Program} {w : World} {K : PySem.W.Frag} {mg : Str → Option Value} {base : Heap}
theorem DfMF.ok {C : Addr} {m qual : Str} {st : Stmt} {N ps fz : List Str} {k : Nat} {sp : Sp} (D : DfMF K C m qual st ps) (hK : K.In base) (S : FnScope N ps (defScope st)) (hfz : ∀ x ∈ fz, (defScope st).names.lookup x = some .cell) (len : ∀ vs H Q E, sp vs H Q E → vs.length = ps.length)
    (hbody : ∀ (A : Around) (outer : List Env) (s : Shared) (H : Hp) (vs : List V) (Q : VK) (E : XK), Room k (A.deeper (envOfC qual (defScope st) s.heap.objs.size D.f (.ref D.c))) → sp vs H Q E →
      ∀ H1 : Hp, Same H H1 → (∀ (i : Nat) y v, y ∈ fz → ps[i]? = some y → vs[i]? = some v → ∃ c, (envOfC qual (defScope st) s.heap.objs.size D.f (.ref D.c)).cells.lookup y = some c ∧ CellV H1 c v) → PySem.W.CodeHd base D.c D.P →
      ∃ t, PSs (cxOf CX0 P w K mg base N qual (defScope st) D.f (.ref D.c) A outer s H E (fun y => !fz.contains y)).nox (defBody st) t ∧ t { nx := fun _ H' => Q .non H', rt := Q } (start N vs) H1) :
    FnOk P w K mg base CX0 (k + 1) D.f D.fd ps sp := by
  have hC := PySem.W.codeHd_of_K hK D.ch
  obtain ⟨f, c, T, fd, ⟨oc, od, kV, doc, pm, an, ct, osl, rfl, lk⟩, cd, ch, nt, me, b⟩ := D
  exact fn_ofZ lk cd S hfz len fun A outer s H vs Q E hr hsp H1 sm hc => hbody A outer s H vs Q E hr hsp H1 sm hc hC
end
end L2
set_option Elab.async false
set_option linter.all false
set_option maxRecDepth 100000
namespace L2
open PySem PySem.Spec PyProof.Rows
def Cx.unf (X : Cx) (x : Str) : Cx := { X with fn := fun y => y == x || X.fn y }
section
variable {X : Cx} {pins : List (Addr × Obj)} {σ : St} {H : Hp} {s : Shared}
theorem Inv.unf {x : Str} {c : Addr} (I : Inv X pins σ H s) (hc : X.env.cells.lookup x = some c) (hab : X.s₀.heap.objs.size ≤ c) (hn : H c = none) : Inv (X.unf x) pins σ H s := by
  have one : ∀ y d, (X.unf x).fn y = true → X.env.cells.lookup y = some d → X.fn y = true ∨ d = c := fun y d hy e => by
    have hy : (y == x || X.fn y) = true := hy
    rcases Bool.or_eq_true_iff.mp hy with z | z
    · have z' : y = x := beq_iff_eq.mp z
      subst z'
      rw [hc] at e
      exact .inr (Option.some.inj e).symm
    · exact .inl z
  refine ⟨⟨I.ok.mod, I.ok.kind, I.ok.glob, I.ok.blt, I.ok.above, I.ok.inj, I.ok.has, fun y d hy e => ?_, I.ok.hd, I.ok.frames, I.ok.stk, I.ok.exf, I.ok.bs, I.ok.bsz, I.ok.noex, I.ok.exfs, I.ok.funs, I.ok.frf⟩,
    I.os, I.bare, I.base, I.loc, I.cell, I.free, fun y d e => ⟨fun hy => ?_, (I.freeC y d e).2⟩, I.pin, I.hok, I.len⟩
  · rcases one y d hy e with z | z
    · exact I.ok.cab y d z e
    · rw [z]
      exact hab
  · rcases one y d hy e with z | z
    · exact (I.freeC y d e).1 z
    · rw [z]
      exact hn
end
section
variable {P : Program} {w : World} {K : PySem.W.Frag} {mg : Str → Option Value} {base : Heap}
end
def ItKd (a : Addr) (o : Obj) (kvs : List (Key × V)) : It :=
  ⟨fun i H => H a = some (.frz o (.dK kvs)) ∧ i < kvs.length, fun i H x H' => H' = H ∧ ∃ kv, kvs[i]? = some kv ∧ x = kV kv.1, fun i H => H a = some (.frz o (.dK kvs)) ∧ kvs.length ≤ i⟩
theorem turn_dict {P : Program} {w : World} {K : PySem.W.Frag} {tg : Expr} {a it : Addr} {o : Obj} {kvs : List (Key × V)} {vs : List (Key × Value)} {ep : Nat} (rel : KV kvs vs) (hat : ∀ h : Heap, h.get? a = some o → h.DictAt (mixKind P w) a vs ep) :
    Turn P w K tg (ItKd a o kvs) [it] it (fun i h => h.IsKeyIter it a i vs.length ep) where
  mem := by simp
  obj := fun i h st b hb => by
    have e : b = it := by simpa using hb
    subst e
    obtain ⟨o, e, c, d⟩ := st
    exact ⟨o, e, fun v z => by rw [d] at z; cases z⟩
  keep := fun i h h' st k => by
    obtain ⟨o, e, c, d⟩ := st
    exact ⟨o, k it (by simp) o e, c, d⟩
  item := by
    intro X hP hw hK hc i pins s σ H E I hf st hg
    subst hP hw hK
    obtain ⟨hz, hlt⟩ := hg
    obtain ⟨f0, f1, f2, f3, f4, f5⟩ := hf it (by simp)
    obtain ⟨ho, _⟩ := I.hok a _ hz
    have hlen := rel.length
    obtain ⟨⟨k, x⟩, hx⟩ : ∃ p, vs[i]? = some p := ⟨vs[i], by simp⟩
    obtain ⟨⟨k', x'⟩, hx'⟩ : ∃ p, kvs[i]? = some p := ⟨kvs[i], by simp⟩
    have ek : k' = k := by
      have e1 := congrArg (fun l => l[i]?) rel.keys
      simp only [List.getElem?_map, hx, hx', Option.map_some] at e1
      exact Option.some.inj e1
    refine wpAny_pyNext_dict_item st (hat _ ho) hx fun key h' hkey st' sb => ?_
    have I1 : Inv X pins σ H { s with heap := h' } := I.turned (t' := s.toks) (fun b o hb e => (sb.2 b hb).trans e) f0 f1 f3 f4 f5
    obtain ⟨o', e, c, d⟩ := id st'
    have rk : RelV (kV k') key := by
      rw [ek]
      rcases keyIs_shape hkey with ⟨j, t, rfl, rfl⟩ | ⟨y, t, rfl, rfl⟩
      · exact ⟨t, rfl⟩
      · exact ⟨t, rfl⟩
    exact ⟨key, rfl, go_of (s := { s with heap := h' }) e c d (by decide) ⟨kV k', H, I1, rk, ⟨rfl, _, hx', rfl⟩, st', fun b hb => (hf b hb).1⟩⟩
  done := by
    intro X hP hw hK hc i pins s σ H E I hf st hg
    subst hP hw hK
    obtain ⟨hz, hle⟩ := hg
    obtain ⟨f0, f1, f2, f3, f4, f5⟩ := hf it (by simp)
    obtain ⟨ho, _⟩ := I.hok a _ hz
    have hlen := rel.length
    exact wpAny_pyNext_dict_end (I.ok.hd hc) st (hat _ ho) (by simp; omega) fun h' eb => ⟨rfl, I.turned (t' := s.toks) (fun b o hb e => eb b o hb e) f0 f1 f3 f4 f5⟩
  self := fun _ _ _ _ _ st h => wpAny_pyIter_keyiter st h
theorem Inv.ice {X : Cx} {pins : List (Addr × Obj)} {σ : St} {H : Hp} {s : Shared} {a : Addr} {kvs : List (Key × V)} (I : Inv X pins σ H s) (e : H a = some (.dK kvs)) : ∃ o, s.heap.get? a = some o ∧ Inv X pins σ (upd H a (.frz o (.dK kvs))) s := by
  obtain ⟨z1, z2, vs, rel, dd⟩ := dk_of I.hok e
  obtain ⟨o, es, ep, ho, r⟩ := id dd
  refine ⟨o, ho, I.ok, I.os, I.bare, ⟨I.base.keep, I.base.slot, fun b u q n hx => ?_, I.base.there, fun b xs q => ?_, fun b u k q => ?_, fun b ps q => ?_⟩, I.loc, I.cell, ?_, fun y c q => ?_, fun p hp => ?_, fun b u q => ?_, I.len⟩
  · have z := I.base.free b u q n hx
    rw [upd_ne (fun y => by rw [y, e] at z; cases z)]
    exact z
  · have z := I.base.tups b xs q
    rw [upd_ne (fun y => by rw [y, e] at z; cases z)]
    exact z
  · have z := I.base.frzs b u k q
    rw [upd_ne (fun y => by rw [y, e] at z; cases z)]
    exact z
  · obtain ⟨m, z⟩ := I.base.tbls b ps q
    exact ⟨m, by rw [upd_ne (fun y => by rw [y, e] at z; cases z)]; exact z⟩
  · rw [upd_ne (fun y => by have z := I.free; rw [y, e] at z; cases z)]
    exact I.free
  · have z := I.freeC y c q
    have hne : c ≠ a := fun y => by
      rcases z.2 with w | ⟨_, _, w⟩
      · rw [y, e] at w; cases w
      · rw [y, e] at w; cases w
    rw [upd_ne hne]
    exact z
  · obtain ⟨q, n, r⟩ := I.pin p hp
    refine ⟨q, ?_, r⟩
    rw [upd_ne (fun y => by rw [y, e] at n; cases n)]
    exact n
  · have own : ∀ d x, H d = some (.own x) → upd H a (.frz o (.dK kvs)) d = some (.own x) := fun d x w => by
      rw [upd_ne (fun y => by rw [y, e] at w; cases w)]
      exact w
    have tup : ∀ d xs, H d = some (.tup xs) → upd H a (.frz o (.dK kvs)) d = some (.tup xs) := fun d x w => by
      rw [upd_ne (fun y => by rw [y, e] at w; cases w)]
      exact w
    by_cases hb : b = a
    · subst hb
      rw [upd_same] at q
      cases q
      exact ⟨ho, (I.hok b _ e).stay (fun _ _ _ q => q) (fun d q => own d _ q) fun d xs q => tup d xs q⟩
    · rw [upd_ne hb] at q
      exact (I.hok b u q).stay (fun _ _ _ q => q) (fun d q => own d _ q) fun d xs q => tup d xs q
def iDict (td : TE) : TI := fun σ H R => td σ H fun x H1 => ∃ a kvs, x = .ref a ∧ Rd H1 a (.dK kvs) ∧ ∀ o H2, H2 a = some (.frz o (.dK kvs)) → (∀ b, b ≠ a → H2 b = H1 b) → (∀ ob u, H1 a = some (.frz ob u) → H2 a = H1 a) → R (ItKd a o kvs) H2
theorem pi_dict {X : Cx} {tg l : Expr} {tl : TE} (hl : PE X l tl) : PI X tg l (iDict tl) := by
  intro pins s σ H R I h
  refine thn (hl pins s σ H _ I h) fun v s1 ⟨x, H1, I1, r1, q1⟩ => ?_
  obtain ⟨a, kvs, e, hr, q⟩ := q1
  subst e
  cases r1
  obtain ⟨o, H2, I2, hz, he, hi⟩ : ∃ o H2, Inv X pins σ H2 s1 ∧ H2 a = some (.frz o (.dK kvs)) ∧ (∀ b, b ≠ a → H2 b = H1 b) ∧ ∀ ob u, H1 a = some (.frz ob u) → H2 a = H1 a := by
    rcases hr with z | ⟨o, z⟩
    · obtain ⟨o, ho, I2⟩ := I1.ice z
      exact ⟨o, _, I2, upd_same, fun b hb => upd_ne hb, fun ob u y => by rw [z] at y; cases y⟩
    · exact ⟨o, H1, I1, z, fun _ _ => rfl, fun _ _ _ => rfl⟩
  obtain ⟨ho, z1, z2, vs, rel, dd⟩ := (show ObjOk X.prog X.w H2 s1.heap a (.frz o (.dK kvs)) from I2.hok a _ hz)
  obtain ⟨ep, hat⟩ := dd.dictAt
  have hat' : ∀ h : Heap, h.get? a = some o → h.DictAt (mixKind X.prog X.w) a vs ep := fun h e => by
    obtain ⟨o', es, e', r⟩ := id hat
    rw [ho] at e'
    cases e'
    exact ⟨o, es, e, r⟩
  refine wpAny_pyIter_dict z2 hat ?_
  refine ⟨s1.heap.objs.size, [s1.heap.objs.size], _, _, H2, rfl, I2.kept (t' := s1.toks) fun b o e => Heap.get?_push_of_some _ e, turn_dict rel hat', ⟨_, Heap.get?_push_size _ rfl, rfl, rfl⟩, fun b hb => ?_, q o H2 hz he hi⟩
  have e : b = s1.heap.objs.size := by simpa using hb
  subst e
  exact I2.fpOk (Nat.le_refl _) (I2.hok.fresh (Nat.le_refl _))
theorem for_dict {a : Addr} {o : Obj} {kvs : List (Key × V)} {g : TG} {tb : TS} {D : Ends} {σ : St} {H : Hp} (Pv : Nat → St → Hp → Prop) (h0 : Pv 0 σ H) (hl : ∀ i σ H, i ≤ kvs.length → Pv i σ H → H a = some (.frz o (.dK kvs)))
    (hs : ∀ i kv σ H, kvs[i]? = some kv → Pv i σ H → g (kV kv.1) σ H fun σ2 H2 => tb { D with nx := Pv (i + 1), ct := Pv (i + 1), bk := D.nx } σ2 H2) (hd : ∀ σ H, Pv kvs.length σ H → D.nx σ H) :
    ∃ W : Nat → Nat → St → Hp → Prop, (∃ m, W 0 m σ H) ∧ ∀ i m σ H, W i m σ H →
      ((ItKd a o kvs).stop i H ∧ D.nx σ H) ∨ ((ItKd a o kvs).go i H ∧ ∃ N : St → Hp → Prop, (∀ σ' H', N σ' H' → ∃ m', m' < m ∧ W (i + 1) m' σ' H') ∧ ∀ x H', (ItKd a o kvs).yld i H x H' → g x σ H' fun σ2 H2 => tb { D with nx := N, ct := N, bk := D.nx } σ2 H2) := by
  refine ⟨fun i m σ H => m = kvs.length - i ∧ i ≤ kvs.length ∧ Pv i σ H, ⟨kvs.length, by simp, Nat.zero_le _, h0⟩, ?_⟩
  rintro i m σ H ⟨rfl, hi, p⟩
  have q := hl i σ H hi p
  by_cases hlt : i < kvs.length
  · refine .inr ⟨⟨q, hlt⟩, Pv (i + 1), fun σ' H' p' => ⟨kvs.length - (i + 1), by omega, rfl, hlt, p'⟩, fun x H' y => ?_⟩
    obtain ⟨e, kv, y, rfl⟩ := y
    subst e
    exact hs i kv σ _ y p
  · have e : i = kvs.length := by omega
    subst e
    exact .inl ⟨⟨q, Nat.le_refl _⟩, hd σ H p⟩
theorem call_sum {X : Cx} (hc : X.calm = true) : CallR X (.builtin "sum") (fun xs H Q => ∃ (a : Addr) (ns : List Int), xs = [.ref a] ∧ SqL X.K H a (ns.map V.int) ∧ Q (.int ns.sum) H) := by
  intro pins s σ H xs us Q I r h
  obtain ⟨p, ns, rfl, hq, q⟩ := h
  obtain ⟨u, rfl, ru⟩ := vals1 r
  cases (show u = Value.ref p from ru)
  obtain ⟨its, rv, pl, hz⟩ := I.list hq
  have hi : IntsAre its ns := intsAre_of rv
  have e1 : numsOf its.toArray.toList = ns := hi.numsOf
  obtain ⟨xs, e⟩ := hi.allInts.items
  rw [e, nums_intItems] at e1
  refine sum_intListG (I.ok.hd hc) (by rw [← e]; exact pl.isList) fun h' tk t' hk => ⟨.int ns.sum, H, I.kept (t' := tk) hk, ⟨t', ?_⟩, q⟩
  rw [preSum_eq, List.take_of_length_le (by simp), e1]
end L2
set_option Elab.async false
set_option linter.all false
set_option maxRecDepth 100000
namespace L2
open PySem PySem.Spec PyProof.Rows
theorem Inv.thaw {X : Cx} {pins : List (Addr × Obj)} {σ : St} {H : Hp} {s : Shared} {a : Addr} {o : Obj} {kvs : List (Key × V)} (I : Inv X pins σ H s) (e : H a = some (.frz o (.dK kvs))) (h0 : ∀ ob u, X.H₀ a ≠ some (.frz ob u)) : Inv X pins σ (upd H a (.dK kvs)) s := by
  obtain ⟨ho, hd⟩ := (show ObjOk X.prog X.w H s.heap a (.frz o (.dK kvs)) from I.hok a _ e)
  obtain ⟨z1, z2, vs, rel, dd⟩ := id hd
  obtain ⟨oo, es, ep, ho', _, hdat, _⟩ := id dd
  have ncell : ∀ y c, X.env.cells.lookup y = some c → c ≠ a := fun y c q z => by
    obtain ⟨v, oc, hoc, hdc⟩ := I.cell y c q
    rw [z, ho'] at hoc
    cases hoc
    rw [hdat] at hdc
    cases hdc
  refine ⟨I.ok, I.os, I.bare, ⟨I.base.keep, I.base.slot, fun b u q n hx => ?_, I.base.there, fun b xs q => ?_, fun b u k q => ?_, fun b ps q => ?_⟩, I.loc, I.cell, ?_, fun y c q => ?_, fun p hp => ?_, fun b u q => ?_, I.len⟩
  · have z := I.base.free b u q n hx
    rw [upd_ne (fun y => by rw [y, e] at z; cases z)]
    exact z
  · have z := I.base.tups b xs q
    rw [upd_ne (fun y => by rw [y, e] at z; cases z)]
    exact z
  · have z := I.base.frzs b u k q
    rw [upd_ne (fun y => h0 _ _ (y ▸ q))]
    exact z
  · obtain ⟨m, z⟩ := I.base.tbls b ps q
    exact ⟨m, by rw [upd_ne (fun y => by rw [y, e] at z; cases z)]; exact z⟩
  · rw [upd_ne (fun y => by have z := I.free; rw [y, e] at z; cases z)]
    exact I.free
  · rw [upd_ne (ncell y c q)]
    exact I.freeC y c q
  · obtain ⟨q, n, r⟩ := I.pin p hp
    refine ⟨q, ?_, r⟩
    rw [upd_ne (fun y => by rw [y, e] at n; cases n)]
    exact n
  · have own : ∀ d x, H d = some (.own x) → upd H a (.dK kvs) d = some (.own x) := fun d x w => by
      rw [upd_ne (fun y => by rw [y, e] at w; cases w)]
      exact w
    have tup : ∀ d xs, H d = some (.tup xs) → upd H a (.dK kvs) d = some (.tup xs) := fun d x w => by
      rw [upd_ne (fun y => by rw [y, e] at w; cases w)]
      exact w
    by_cases hb : b = a
    · subst hb
      rw [upd_same] at q
      cases q
      exact ObjOk.stay (H := H) hd (fun _ _ _ q => q) (fun d q => own d _ q) fun d xs q => tup d xs q
    · rw [upd_ne hb] at q
      exact (I.hok b u q).stay (fun _ _ _ q => q) (fun d q => own d _ q) fun d xs q => tup d xs q
end L2
set_option Elab.async false
set_option linter.all false
set_option maxRecDepth 100000
namespace L2
open PySem PySem.Spec PyProof.Rows
section
variable {M : Model} {A : Around} {E : Value → Shared → Prop} {s₀ s : Shared} {m cm : Str → Option Value} {env : Env} {own : List (Str × Addr)}
end
structure CloScopeC (N ps fr : List Str) (sc : Scope) : Prop where
  kind : sc.kind = .function
  co : sc.isCoroutine = false
  gen : sc.isGenerator = false
  nd : N.Nodup
  pre : N.take (ps ++ fr).length = ps ++ fr
  par : ∀ x ∈ ps, sc.names.lookup x = some .local ∨ sc.names.lookup x = some .cell
  fre : ∀ x ∈ fr, sc.names.lookup x = some .free
  allfr : ∀ y ∈ sc.names, y.2 = .free → y.1 ∈ fr
  look : ∀ y ∈ sc.names, sc.names.lookup y.1 = some y.2
section
variable {P : Program} {w : World} {K : PySem.W.Frag} {mg : Str → Option Value} {base : Heap}
end
end L2
set_option Elab.async false
set_option linter.all false
set_option maxRecDepth 100000
namespace L2
open PySem PySem.Spec PyProof.Rows
section
variable {X : Cx}
theorem call_listD (hc : X.calm = true) : CallR X (.type "list") (fun xs H Q => ∃ (p : Addr) (kvs : List (Key × V)) (ks : List Int), xs = [.ref p] ∧ H p = some (.dK kvs) ∧ kvs.map (·.1) = ks.map Sum.inl ∧ ks.length ≤ 1000 ∧ ∀ l, H l = none → Q (.ref l) (upd H l (.lst (ks.map V.int)))) := by
  intro pins s σ H xs us Q I r h
  obtain ⟨p, kvs, ks, rfl, hq, hk, hl, q⟩ := h
  obtain ⟨u, rfl, ru⟩ := vals1 r
  cases (show u = Value.ref p from ru)
  obtain ⟨_, lo, vs, kv, dd⟩ := dk_of I.hok hq
  obtain ⟨ep, hat⟩ := dd.dictAt
  have hk2 : vs.map (·.1) = ks.map Sum.inl := kv.keys.symm.trans hk
  have hlv : vs.length = ks.length := by
    have := congrArg List.length hk2
    simpa using this
  refine PySem.W.kdl_call (PySem.W.kdl_dict lo) (I.ok.hd hc) hat (by rw [hlv]; exact Nat.le_of_lt (small1000 hl)) fun h' tk acc c k1 hD it => ?_
  have hi : IntsAre acc.toList ks := ints_at (by rw [Array.length_toList, it.1, hlv]) fun j k hj v hv => by
    obtain ⟨k', x, e1, e2⟩ := it.2 j v (by rw [← Array.getElem?_toList]; exact hv)
    have e3 : (vs.map (·.1))[j]? = some k' := by rw [List.getElem?_map, e1]; rfl
    rw [hk2, List.getElem?_map, hj] at e3
    cases e3
    exact Value.isInt_shape e2
  refine ⟨.ref s.heap.objs.size, _, I.laid (t' := tk) k1 (Nat.le_refl _) (show ObjOk X.prog X.w _ h' _ (.lst (ks.map V.int)) from ⟨by rw [List.length_map]; exact Nat.le_of_lt (small1000 hl), acc.toList, c, vals_ints hi, by simpa using hD⟩), rfl, q _ (I.hok.fresh (Nat.le_refl _))⟩
end
theorem ps_thaw {X : Cx} {st : Stmt} {t : TS} {H0 : Hp} (hH : X.H₀ = H0) (h : PS X st t) : PS X st (fun D σ H => t { D with nx := fun σ1 H1 => ∃ a kvs o, H1 a = some (.frz o (.dK kvs)) ∧ (∀ ob u, H0 a ≠ some (.frz ob u)) ∧ D.nx σ1 (upd H1 a (.dK kvs)) } σ H) := by
  intro pins s σ H D I hw
  refine thn (h pins s σ H _ I hw) fun f s1 q => ?_
  subst hH
  cases f with
  | next =>
    obtain ⟨σ1, H1, I1, a, kvs, o, e1, e2, q⟩ := q
    exact ⟨σ1, _, I1.thaw e1 e2, q⟩
  | brk => exact q
  | cont => exact q
  | ret u => exact q
end L2
set_option Elab.async false
set_option linter.all false
set_option maxRecDepth 100000
namespace L2
open PySem PySem.Spec PyProof.Rows
def rEqD0 (neg : Bool) : R2 := fun x y H Q => ∃ (a b : Addr) (ka : List (Key × V)), x = .ref a ∧ y = .ref b ∧ Rd H a (.dK ka) ∧ Rd H b (.dK []) ∧ Q (.bl (if neg then !decide (ka.length = 0) else decide (ka.length = 0))) H
theorem op_eqD0 {X : Cx} (hu : X.A.units + 64 < cLine) : OpR X (compareOp .Eq) (rEqD0 false) := by
  intro pins s σ H x y v u Q I rx ry h
  obtain ⟨a, b, ka, rfl, rfl, ha, hb, q⟩ := h
  cases (show v = Value.ref a from rx)
  cases (show u = Value.ref b from ry)
  obtain ⟨_, za, va, ra, da⟩ := dk_rd I.hok ha
  obtain ⟨_, zb, vb, rb, db⟩ := dk_rd I.hok hb
  have l1 := ra.length
  have l2 := rb.length
  have e : (va.length == vb.length && true) = decide (ka.length = 0) := by
    rw [Bool.and_true, ← l1, ← l2]
    by_cases h : ka.length = 0
    · rw [decide_eq_true h, h]
      rfl
    · rw [decide_eq_false h]
      exact beq_eq_false_iff_ne.mpr h
  refine PySem.W.keq_eq (r := true) za zb da db (by omega) (fun hl => ?_) ⟨.bl (decide (ka.length = 0)), H, I, ?_, q⟩
  · have : va = [] := List.length_eq_zero_iff.mp (by rw [List.length_nil] at l2; omega)
    subst this
    exact .nil
  · rw [e]
    rfl
end L2
namespace NN
theorem xor_add_and : ∀ (a b : Nat), (a ^^^ b) + 2 * (a &&& b) = a + b := by
  intro a
  induction a using Nat.strongRecOn with
  | ind a ih =>
    intro b
    by_cases h : a = 0
    · subst h; simp
    · have i := ih (a / 2) (by omega) (b / 2)
      have x1 := Nat.xor_div_two (a := a) (b := b)
      have x2 := Nat.and_div_two (a := a) (b := b)
      have y1 := Nat.xor_mod_two_eq_one (a := a) (b := b)
      have y2 := Nat.and_mod_two_eq_one (a := a) (b := b)
      omega
theorem xor_rec (a b : Nat) : a ^^^ b = 2 * (a / 2 ^^^ b / 2) + (if a % 2 = b % 2 then 0 else 1) := by
  have x1 := Nat.xor_div_two (a := a) (b := b)
  have y1 := Nat.xor_mod_two_eq_one (a := a) (b := b)
  split <;> omega
theorem xor_eq_zero (a b : Nat) : a ^^^ b = 0 ↔ a = b := by
  constructor
  · intro h
    have : (a ^^^ b) ^^^ b = 0 ^^^ b := by rw [h]
    rw [Nat.xor_assoc, Nat.xor_self, Nat.xor_zero, Nat.zero_xor] at this
    exact this
  · rintro rfl; exact Nat.xor_self _
theorem xor_back (a b : Nat) : a ^^^ (a ^^^ b) = b := by
  rw [← Nat.xor_assoc, Nat.xor_self, Nat.zero_xor]
end NN
namespace NN
def stepUpto (a b : Nat) : Nat → Option Nat
  | 0 => none
  | i + 1 => if a / 2 ^ i % 2 = b / 2 ^ i % 2 then stepUpto a b i else some i
theorem log2_iff {m k : Nat} (hm : m ≠ 0) : m.log2 = k ↔ m / 2 ^ k = 1 := by
  constructor
  · intro h
    subst h
    have h1 := Nat.log2_self_le hm
    have h2 := @Nat.lt_log2_self m
    rw [Nat.pow_succ] at h2
    have hp : 0 < 2 ^ m.log2 := Nat.pow_pos (by decide)
    refine (Nat.div_eq_iff hp).mpr ?_
    omega
  · intro h
    have hp : 0 < 2 ^ k := Nat.pow_pos (by decide)
    have h' := (Nat.div_eq_iff hp).mp h
    refine (Nat.log2_eq_iff hm).mpr ⟨by omega, ?_⟩
    rw [Nat.pow_succ]
    omega
theorem xor_div (a b k : Nat) : (a ^^^ b) / 2 ^ k = a / 2 ^ k ^^^ b / 2 ^ k := Nat.xor_div_two_pow
theorem xor_one_eq {a b : Nat} : a ^^^ b = 1 ↔ b = a ^^^ 1 := by
  constructor
  · intro h
    have : a ^^^ (a ^^^ b) = a ^^^ 1 := by rw [h]
    rw [xor_back] at this
    exact this
  · rintro rfl
    exact xor_back a 1
theorem xor_one_ne (a : Nat) : a ^^^ 1 ≠ a := by
  intro h
  have := (xor_one_eq (a := a) (b := a)).mpr h.symm
  rw [Nat.xor_self] at this
  cases this
theorem step_iff {a b k : Nat} (h : a ≠ b) : (a ^^^ b).log2 = k ↔ b / 2 ^ k = a / 2 ^ k ^^^ 1 := by
  have hm : a ^^^ b ≠ 0 := fun z => h ((xor_eq_zero a b).mp z)
  rw [log2_iff hm, xor_div, xor_one_eq]
theorem step_ne {a b k : Nat} (h : b / 2 ^ k = a / 2 ^ k ^^^ 1) : a ≠ b := fun e => by
  subst e
  exact xor_one_ne _ h.symm
theorem div_pow_succ (a i : Nat) : a / 2 ^ (i + 1) = a / 2 ^ i / 2 := by
  rw [Nat.pow_succ, Nat.div_div_eq_div_mul]
theorem upto_none {a b : Nat} : ∀ (w : Nat), a / 2 ^ w = b / 2 ^ w → stepUpto a b w = none → a = b
  | 0, h, _ => by simpa using h
  | i + 1, h, e => by
    unfold stepUpto at e
    split at e
    · rename_i hb
      rw [div_pow_succ, div_pow_succ] at h
      exact upto_none i (by omega) e
    · cases e
theorem upto_some {a b : Nat} : ∀ (w k : Nat), a / 2 ^ w = b / 2 ^ w → stepUpto a b w = some k → k < w ∧ b / 2 ^ k = a / 2 ^ k ^^^ 1
  | 0, k, _, e => by cases e
  | i + 1, k, h, e => by
    unfold stepUpto at e
    rw [div_pow_succ, div_pow_succ] at h
    split at e
    · rename_i hb
      have := upto_some i k (by omega) e
      exact ⟨by omega, this.2⟩
    · rename_i hb
      cases e
      refine ⟨by omega, ?_⟩
      have x := xor_rec (a / 2 ^ i) 1
      simp at x
      split at x <;> omega
theorem upto_eq {a b w : Nat} (ha : a < 2 ^ w) (hb : b < 2 ^ w) : stepUpto a b w = if a = b then none else some (a ^^^ b).log2 := by
  have h : a / 2 ^ w = b / 2 ^ w := by rw [Nat.div_eq_of_lt ha, Nat.div_eq_of_lt hb]
  cases e : stepUpto a b w with
  | none => rw [if_pos (upto_none w h e)]
  | some k =>
    have q := (upto_some w k h e).2
    have ne := step_ne q
    rw [if_neg ne, (step_iff ne).mpr q]
theorem log2_lt {a b w : Nat} (ha : a < 2 ^ w) (hb : b < 2 ^ w) (h : a ≠ b) : (a ^^^ b).log2 < w := by
  have e := upto_eq ha hb
  rw [if_neg h] at e
  exact (upto_some w _ (by rw [Nat.div_eq_of_lt ha, Nat.div_eq_of_lt hb]) e).1
end NN
set_option Elab.async false
set_option maxHeartbeats 4000000
set_option linter.all false
set_option maxRecDepth 100000
open PySem L2
theorem eI1 {A:Type}{p q:A->Prop}(a:A)(y:p a)(z:q a):∃ a,p a/\q a:=⟨a,y,z⟩
theorem eI2 {A B:Type}{p q:A->B->Prop}(a:A)(b:B)(y:p a b)(z:q a b):∃ a b,p a b/\q a b:=⟨a,b,y,z⟩
theorem eI3 {A B C:Type}{p q:A->B->C->Prop}(a:A)(b:B)(c:C)(y:p a b c)(z:q a b c):∃ a b c,p a b c/\q a b c:=⟨a,b,c,y,z⟩
theorem eI4 {A B C D:Type}{p q:A->B->C->D->Prop}(a:A)(b:B)(c:C)(d:D)(y:p a b c d)(z:q a b c d):∃ a b c d,p a b c d/\q a b c d:=⟨a,b,c,d,y,z⟩
theorem eI5 {A B C D E:Type}{p q:A->B->C->D->E->Prop}(a:A)(b:B)(c:C)(d:D)(e:E)(y:p a b c d e)(z:q a b c d e):∃ a b c d e,p a b c d e/\q a b c d e:=⟨a,b,c,d,e,y,z⟩
theorem eI6 {A B C D E F:Type}{p q:A->B->C->D->E->F->Prop}(a:A)(b:B)(c:C)(d:D)(e:E)(f:F)(y:p a b c d e f)(z:q a b c d e f):∃ a b c d e f,p a b c d e f/\q a b c d e f:=⟨a,b,c,d,e,f,y,z⟩
theorem eI7 {A B C D E F G:Type}{p q:A->B->C->D->E->F->G->Prop}(a:A)(b:B)(c:C)(d:D)(e:E)(f:F)(g:G)(y:p a b c d e f g)(z:q a b c d e f g):∃ a b c d e f g,p a b c d e f g/\q a b c d e f g:=⟨a,b,c,d,e,f,g,y,z⟩
theorem eI8 {A B C D E F G H:Type}{p q:A->B->C->D->E->F->G->H->Prop}(a:A)(b:B)(c:C)(d:D)(e:E)(f:F)(g:G)(h:H)(y:p a b c d e f g h)(z:q a b c d e f g h):∃ a b c d e f g h,p a b c d e f g h/\q a b c d e f g h:=⟨a,b,c,d,e,f,g,h,y,z⟩
local macro_rules | `(tactic| walk_at "ne") => `(tactic| first | assumption | (apply Ne.symm; assumption) | (intro z; subst z; simp_all; done) | grind [upd, Same])
local macro_rules | `(tactic| walk_at "hp") => `(tactic| first | assumption | exact upd_same | (refine (upd_ne ?_).trans ?_; (focus (walk_at "ne")); walk_at "hp"))
local macro_rules | `(tactic| walk_at "fld") => `(tactic| fail)
local macro_rules | `(tactic| walk_at "ty") => `(tactic| first | exact TyOf.int _ | exact TyOf.bl _ | exact TyOf.str _ | exact TyOf.non | exact TyOf.lst (by walk_at "hp") | exact TyOf.tup (by walk_at "hp") | exact kit_int_int _ | exact kit_int_bool _ | exact kit_bool_bool _ | exact kit_bool_int _ | exact kit_list_list _ | exact kit_tuple_tuple _ | exact kit_str_str _ | exact kit_str_int _ | exact kit_none_int _ | exact kit_none_str _ | exact kit_int_str _ | exact kit_bool_str _ | exact kit_list_str _ | exact kit_list_int _ | exact kit_tuple_str _ | exact kit_tuple_int _ | exact kit_dict_str _ | exact kit_dict_int _)
local macro_rules | `(tactic| walk_at "ar") => `(tactic| (try dsimp only); first | decide | omega | (refine ⟨?_, ?_⟩ <;> first | decide | omega) | (refine ⟨?_, ?_, ?_⟩ <;> first | decide | omega) | (refine Or.inl ⟨?_, ?_⟩ <;> first | decide | omega) | (refine Or.inr ⟨?_, ?_⟩ <;> first | decide | omega))
local macro_rules | `(tactic| walk_at "c") => `(tactic| first | exact rfl | assumption | (walk_at "hp") | exact SqL.of (by walk_at "hp") | exact Or.inl (SqL.of (by walk_at "hp")) | exact Or.inl (by assumption) | exact SqT.of (by walk_at "hp") | exact Or.inr (SqT.of (by walk_at "hp")) | exact Or.inl ⟨rfl, _, SqL.of (by walk_at "hp")⟩ | exact ⟨_, SqL.of (by walk_at "hp")⟩ | (walk_at "fld") | (walk_at "ty") | exact atI_zero _ _ | exact Nat.le_of_ble_eq_true rfl | (walk_at "ar"))
local macro_rules | `(tactic| walk_at "e") => `(tactic| first | (apply And.intro; focus (walk_at "c"; done)) | (apply eI1; focus (walk_at "c"; done)) | (apply eI2; focus (walk_at "c"; done)) | (apply eI3; focus (walk_at "c"; done)) | (apply eI4; focus (walk_at "c"; done)) | (apply eI5; focus (walk_at "c"; done)) | (apply eI6; focus (walk_at "c"; done)) | (apply eI7; focus (walk_at "c"; done)) | (apply eI8; focus (walk_at "c"; done)) | (apply Exists.intro; walk_at "e") | assumption)
local macro_rules | `(tactic| walk_at "w") => `(tactic| (repeat (walk_at "e")); (first | (with_reducible refine iteT ?_; walk_at "w") | (with_reducible refine iteF ?_; walk_at "w") | skip))
namespace NN
open PySem L2
def top (i : Nat) : Stmt := PySem.Challenge.pw_nearnames_k35_come_to.main.body.getD i (.Pass ⟨0, 0, 0, 0⟩)
def bF (r : Int) (l : Addr) : List (Str × V) := [(("room" : Str), V.int r), (("order" : Str), V.ref l)]
theorem bF_room (r : Int) (l : Addr) : (bF r l).lookup ("room" : Str) = some (V.int r) := by kernel_rfl
theorem bF_order (r : Int) (l : Addr) : (bF r l).lookup ("order" : Str) = some (V.ref l) := by kernel_rfl
theorem bF_put (r : Int) (l l' : Addr) : putF "order" (V.ref l') (bF r l) = bF r l' := by kernel_rfl
theorem bF_new (r : Int) (l : Addr) : putF "order" (V.ref l) (putF "room" (V.int r) []) = bF r l := by kernel_rfl
theorem bF_full (r : Int) (l : Addr) : (bF r l).lookup ("hears_when_full" : Str) = none := by kernel_rfl
theorem bF_hears (r : Int) (l : Addr) : (bF r l).lookup ("hears" : Str) = none := by kernel_rfl
theorem bF_drops (r : Int) (l : Addr) : (bF r l).lookup ("drops" : Str) = none := by kernel_rfl
theorem bF_names (r : Int) (l : Addr) : (bF r l).lookup ("names" : Str) = none := by kernel_rfl
structure BuckAt (C : Addr) (H : Hp) (p l : Addr) (r : Int) (ns : List Int) : Prop where
  ob : ∃ dx, H p = some (.ins C dx (bF r l))
  li : H l = some (.lst (ns.map V.int))
theorem BuckAt.ne {C : Addr} {H : Hp} {p l : Addr} {r : Int} {ns : List Int} (h : BuckAt C H p l r ns) : p ≠ l := by
  obtain ⟨⟨dx, h1⟩, h2⟩ := h
  exact ne_of h1 h2 (by intro z; cases z)
def spBInit (C : Addr) : Sp := fun vs H Q _ => ∃ (p dx : Addr) (r : Int), vs = [.ref p, .int r] ∧ H p = some (.ins C dx []) ∧ ∀ (l : Addr) (H' : Hp), H l = none → BuckAt C H' p l r [] → But1 p H H' → Q .non H'
@[irreducible] def spFull (K : PySem.W.Frag) (C : Addr) (R : Addr → FuncData → Prop) (spA : Addr → FuncData → Sp) : Sp := fun vs H Q _ => ∃ (p l f : Addr) (r n x : Int) (ns : List Int) (fd : FuncData), vs = [.ref p, .int n, .ref f] ∧ BuckAt C H p l r (x :: ns) ∧ ns.length ≤ 1000 ∧
  FnV K H f fd ∧ R f fd ∧ spA f fd [.int x] H (fun v H1 => ∃ b, v = .bl b ∧ BuckAt C H1 p l r (x :: ns) ∧ ∀ (l' : Addr) (H2 : Hp), H1 l' = none → BuckAt C H2 p l' r (ns ++ [if b then x else n]) → But1 p H1 H2 → Q (.str (if b then "full" else "instead")) H2) E0
@[irreducible] def spHears (K : PySem.W.Frag) (C : Addr) (R : Addr → FuncData → Prop) (spA : Addr → FuncData → Sp) : Sp := fun vs H Q E => ∃ (p l f : Addr) (r n : Int) (ns : List Int), vs = [.ref p, .int n, .ref f] ∧ BuckAt C H p l r ns ∧ ns.length ≤ 1000 ∧ 1 ≤ r ∧
  (n ∈ ns → ∀ H', BuckAt C H' p l r (ns.erase n ++ [n]) → But1 l H H' → Q (.str "again") H') ∧
  (n ∉ ns → (ns.length : Int) < r → ∀ H', BuckAt C H' p l r (ns ++ [n]) → But1 l H H' → Q (.str "new") H') ∧
  (n ∉ ns → r ≤ (ns.length : Int) → spFull K C R spA vs H Q E0)
def spBNames (C : Addr) : Sp := fun vs H Q _ => ∃ (p l : Addr) (r : Int) (ns : List Int), vs = [.ref p] ∧ BuckAt C H p l r ns ∧
  ∀ (m : Addr) (H' : Hp), H m = none → H' m = some (.lst (ns.map V.int)) → Same H H' → Q (.ref m) H'
structure Txt (mg : Str → Option Value) : Prop where
  n_len : mg "len" = none
  n_abs : mg "abs" = none
  n_isinstance : mg "isinstance" = none
  n_int : mg "int" = none
  n_bool : mg "bool" = none
  n_str : mg "str" = none
  n_list : mg "list" = none
  n_range : mg "range" = none
  n_min : mg "min" = none
  n_sorted : mg "sorted" = none
  n_sum : mg "sum" = none
  n_enumerate : mg "enumerate" = none
section
variable {P : Program} {w : World} {K : PySem.W.Frag} {mg : Str → Option Value} {base : Heap}
local macro_rules | `(tactic| walk_at "fld") => `(tactic| first | exact bF_room _ _ | exact bF_order _ _ | exact bF_full _ _ | exact bF_hears _ _ | exact bF_drops _ _ | exact bF_names _ _ | exact flat_ints _)
theorem sc_Bucket___init__ : FnScope ["self", "room"] ["self", "room"] (defScope (inClass (top 14) 0)) := ⟨rfl, rfl, rfl, by decide +kernel, rfl, by decide +kernel, by decide +kernel⟩
theorem ok_Bucket_init (D_Bucket : DfC K mg "Bucket" ["room", "order"]) (D_Bucket___init__ : DfM K D_Bucket.C "__init__" "Bucket.__init__" (inClass (top 14) 0) ["self", "room"]) : FnOk P w K mg base CX0 1 D_Bucket___init__.f D_Bucket___init__.fd ["self", "room"] (spBInit D_Bucket.C) := by
  have hcl := D_Bucket.cl
  obtain ⟨na1, na2, -⟩ := D_Bucket.na
  refine D_Bucket___init__.fn.ok sc_Bucket___init__ (fun vs H Q E h => ?_) (fun cdv A outer s H vs Q E hr h => ?_)
  · obtain ⟨p, dx, r, rfl, _⟩ := h
    rfl
  · obtain ⟨p, dx, r, rfl, hp, k⟩ := h
    refine ⟨_, (pss_cons (ps_fld (pv 0) (pv 1) rfl)
      (pss_one (ps_fld (pv 0) (pe_lst pa_nil) rfl))), ?_⟩
    walk_at "w"
    intro l hl
    have nl : l ≠ p := (ne_of_none upd_same hl).symm
    have hl0 : H l = none := by rw [upd_ne nl] at hl; exact hl
    walk_at "w"
    show Q .non (upd (upd (upd H p (.ins _ dx (putF "room" (V.int r) []))) l (.lst [])) p (.ins _ dx (putF "order" (V.ref l) (putF "room" (V.int r) []))))
    rw [bF_new]
    refine k l _ hl0 ⟨⟨dx, upd_same⟩, ?_⟩ fun c o e hc => ?_
    · rw [upd_ne nl, upd_same]
      rfl
    · rw [upd_ne hc, upd_ne (ne_of_none e hl0), upd_ne hc]
      exact e
theorem sc_Bucket_names : FnScope ["self"] ["self"] (defScope (inClass (top 14) 4)) := ⟨rfl, rfl, rfl, by decide +kernel, rfl, by decide +kernel, by decide +kernel⟩
theorem ok_Bucket_names (T : Txt mg) (D_Bucket : DfC K mg "Bucket" ["room", "order"]) (D_Bucket_names : DfM K D_Bucket.C "names" "Bucket.names" (inClass (top 14) 4) ["self"]) : FnOk P w K mg base CX0 1 D_Bucket_names.f D_Bucket_names.fd ["self"] (spBNames D_Bucket.C) := by
  have hcl := D_Bucket.cl
  obtain ⟨na1, na2, -⟩ := D_Bucket.na
  refine D_Bucket_names.fn.ok sc_Bucket_names (fun vs H Q E h => ?_) (fun cdv A outer s H vs Q E hr h => ?_)
  · obtain ⟨p, l, r, ns, rfl, _⟩ := h
    rfl
  · obtain ⟨p, l, r, ns, rfl, ⟨⟨dx, hp⟩, hl⟩, k⟩ := h
    refine ⟨_, (pss_one (ps_ret (pe_callTy call_list_of rfl T.n_list bt_list (pa_cons (pe_fld (pv 0) rfl) pa_nil)))), ?_⟩
    walk_at "w"
    intro m hm
    exact k m _ hm upd_same (Same.new H hm)
def MonoA (spA : Addr → FuncData → Sp) : Prop := ∀ f fd vs H (Q Q' : VK) E, (∀ v H', Q v H' → Q' v H') → spA f fd vs H Q E → spA f fd vs H Q' E
theorem sc_Bucket_hears_when_full : FnScope ["self", "name", "answers", "first"] ["self", "name", "answers"] (defScope (inClass (top 14) 2)) := ⟨rfl, rfl, rfl, by decide +kernel, rfl, by decide +kernel, by decide +kernel⟩
theorem ok_Bucket_full {psA : List Str} {R : Addr → FuncData → Prop} {spA : Addr → FuncData → Sp} (GA : ∀ f fd, R f fd → FnOk P w K mg base CX0 5 f fd psA (spA f fd)) (bA : ∀ f fd, R f fd → Binds K fd psA []) (mA : MonoA spA)
    (D_Bucket : DfC K mg "Bucket" ["room", "order"]) (D_Bucket_hears_when_full : DfM K D_Bucket.C "hears_when_full" "Bucket.hears_when_full" (inClass (top 14) 2) ["self", "name", "answers"]) : FnOk P w K mg base CX0 6 D_Bucket_hears_when_full.f D_Bucket_hears_when_full.fd ["self", "name", "answers"] (spFull K D_Bucket.C R spA) := by
  have hcl := D_Bucket.cl
  obtain ⟨na1, na2, -⟩ := D_Bucket.na
  refine D_Bucket_hears_when_full.fn.ok sc_Bucket_hears_when_full (fun vs H Q E h => ?_) (fun cdv A outer s H vs Q E hr h => ?_) <;> unfold spFull at h
  · obtain ⟨p, l, f, r, n, x, ns, fd, rfl, _⟩ := h
    rfl
  · obtain ⟨p, l, f, r, n, x, ns, fd, rfl, ⟨⟨dx, hp⟩, hl⟩, hlen, hfn, hR, k⟩ := h
    refine ⟨_, (pss_cons (ps_set (i := 3) sc_Bucket_hears_when_full.nd rfl (Or.inl rfl) (pe_ix ix_list (pe_fld (pv 0) rfl) pe_int (fun _ _ => rfl)))
      (pss_cons (ps_if (pt_val (pe_callw (pv 2) GA bA (hr.mono (by decide)) (pa_cons (pv 3) pa_nil)))
       (pss_cons (ps_fld (pv 0) (pe_op op_cat (pe_slice sl_list (pe_fld (pv 0) rfl) (po_some pe_int) po_none) (pe_lst (pa_cons (pv 3) pa_nil))) rfl)
        (pss_one (ps_ret pe_str)))
       pss_nil)
      (pss_cons (ps_fld (pv 0) (pe_op op_cat (pe_slice sl_list (pe_fld (pv 0) rfl) (po_some pe_int) po_none) (pe_lst (pa_cons (pv 1) pa_nil))) rfl)
      (pss_one (ps_ret pe_str))))), ?_⟩
    have hsz : ns.length + 1 ≤ sizeLine := Nat.le_of_lt (small1000 (by omega)) |> fun _ => Nat.le_trans (Nat.succ_le_succ hlen) (by decide)
    walk_at "w"
    refine mA _ _ _ _ _ _ _ (fun v H1 q => ?_) k
    obtain ⟨b, rfl, ⟨⟨dx1, hp1⟩, hl1⟩, k2⟩ := q
    refine ⟨b, rfl, ?_⟩
    have fin : ∀ (y : Int) (p1 p2 p3 : Addr), H1 p1 = none → upd H1 p1 (.lst (cutV ((x :: ns).map V.int) (some 1) none)) p2 = none →
        upd (upd H1 p1 (.lst (cutV ((x :: ns).map V.int) (some 1) none))) p2 (.lst [V.int y]) p3 = none → y = (if b then x else n) →
        Q (.str (if b then "full" else "instead")) (upd (upd (upd (upd H1 p1 (.lst (cutV ((x :: ns).map V.int) (some 1) none))) p2 (.lst [V.int y])) p3 (.lst (cutV ((x :: ns).map V.int) (some 1) none ++ [V.int y]))) p (.ins D_Bucket.C dx1 (putF "order" (V.ref p3) (bF r l)))) := fun y p1 p2 p3 h1 h2 h3 hy => by
      have n2 : p1 ≠ p2 := ne_of_none upd_same h2
      have h2' : H1 p2 = none := by rw [upd_ne n2.symm] at h2; exact h2
      have n3 : p2 ≠ p3 := ne_of_none upd_same h3
      have n4 : p1 ≠ p3 := by rintro rfl; rw [upd_ne n2, upd_same] at h3; cases h3
      have h3' : H1 p3 = none := by rw [upd_ne n3.symm, upd_ne n4.symm] at h3; exact h3
      have np3 : p ≠ p3 := ne_of_none hp1 h3'
      refine k2 p3 _ h3' ⟨⟨dx1, ?_⟩, ?_⟩ fun c o e hc => ?_
      · rw [upd_same, bF_put]
      · rw [upd_ne np3.symm, upd_same, cut1, hy]
        simp
      · rw [upd_ne hc, upd_ne (ne_of_none e h3'), upd_ne (ne_of_none e h2'), upd_ne (ne_of_none e h1)]
        exact e
    have hsz' : (cutV ((x :: ns).map V.int) (some 1) none).length + 1 ≤ sizeLine := by rw [cut1, List.length_map]; exact hsz
    cases b with
    | true =>
      walk_at "w"
      intro p1 h1
      walk_at "w"
      intro p2 h2
      walk_at "w"
      intro p3 h3
      have np1 : p ≠ p1 := ne_of_none hp1 h1
      have np2 : p ≠ p2 := by rintro rfl; rw [upd_ne np1, hp1] at h2; cases h2
      have np3 : p ≠ p3 := by rintro rfl; rw [upd_ne np2, upd_ne np1, hp1] at h3; cases h3
      walk_at "w"
      exact fin x p1 p2 p3 h1 h2 h3 rfl
    | false =>
      walk_at "w"
      intro p1 h1
      walk_at "w"
      intro p2 h2
      walk_at "w"
      intro p3 h3
      have np1 : p ≠ p1 := ne_of_none hp1 h1
      have np2 : p ≠ p2 := by rintro rfl; rw [upd_ne np1, hp1] at h2; cases h2
      have np3 : p ≠ p3 := by rintro rfl; rw [upd_ne np2, upd_ne np1, hp1] at h3; cases h3
      walk_at "w"
      exact fin n p1 p2 p3 h1 h2 h3 rfl
theorem sc_Bucket_hears : FnScope ["self", "name", "answers"] ["self", "name", "answers"] (defScope (inClass (top 14) 1)) := ⟨rfl, rfl, rfl, by decide +kernel, rfl, by decide +kernel, by decide +kernel⟩
theorem ok_Bucket_hears (T : Txt mg) {psA : List Str} {R : Addr → FuncData → Prop} {spA : Addr → FuncData → Sp} (GA : ∀ f fd, R f fd → FnOk P w K mg base CX0 5 f fd psA (spA f fd)) (bA : ∀ f fd, R f fd → Binds K fd psA []) (mA : MonoA spA)
    (D_Bucket : DfC K mg "Bucket" ["room", "order"]) (D_Bucket_hears_when_full : DfM K D_Bucket.C "hears_when_full" "Bucket.hears_when_full" (inClass (top 14) 2) ["self", "name", "answers"]) (D_Bucket_hears : DfM K D_Bucket.C "hears" "Bucket.hears" (inClass (top 14) 1) ["self", "name", "answers"]) : FnOk P w K mg base CX0 7 D_Bucket_hears.f D_Bucket_hears.fd ["self", "name", "answers"] (spHears K D_Bucket.C R spA) := by
  have hcl := D_Bucket.cl
  obtain ⟨na1, na2, -⟩ := D_Bucket.na
  have G_Bucket_hears_when_full : FnOk P w K mg base CX0 6 _ _ _ _ := ok_Bucket_full GA bA mA D_Bucket D_Bucket_hears_when_full
  refine D_Bucket_hears.fn.ok sc_Bucket_hears (fun vs H Q E h => ?_) (fun cdv A outer s H vs Q E hr h => ?_) <;> unfold spHears at h
  · obtain ⟨p, l, f, r, n, ns, rfl, _⟩ := h
    rfl
  · obtain ⟨p, l, f, r, n, ns, rfl, ⟨⟨dx, hp⟩, hl⟩, hlen, hr1, kA, kN, kF⟩ := h
    have npl : p ≠ l := ne_of hp hl (by intro z; cases z)
    refine ⟨_, (pss_cons (ps_if (pt_cmpR op_in_seq (pv 1) (pe_fld (pv 0) rfl) (by with_unfolding_all rfl))
       (pss_cons (ps_expr (pe_bm PySem.F.plainAttrs_list PySem.F.slot_list_remove PySem.F.type_list_remove mt_remove (pe_fld (pv 0) rfl) (pa_cons (pv 1) pa_nil)))
        (pss_cons (ps_expr (pe_bm PySem.F.plainAttrs_list PySem.F.slot_list_append PySem.F.type_list_append mt_append (pe_fld (pv 0) rfl) (pa_cons (pv 1) pa_nil)))
        (pss_one (ps_ret pe_str))))
       pss_nil)
      (pss_cons (ps_if (pt_cmpR op_lt (pe_callB call_len_seq rfl T.n_len bt_len (pa_cons (pe_fld (pv 0) rfl) pa_nil)) (pe_fld (pv 0) rfl) (nomark _))
       (pss_cons (ps_expr (pe_bm PySem.F.plainAttrs_list PySem.F.slot_list_append PySem.F.type_list_append mt_append (pe_fld (pv 0) rfl) (pa_cons (pv 1) pa_nil)))
        (pss_one (ps_ret pe_str)))
       pss_nil)
      (pss_one (ps_ret (pe_meth (pv 0) D_Bucket.cl D_Bucket_hears_when_full.me G_Bucket_hears_when_full (hr.mono (by decide)) D_Bucket_hears_when_full.b .nil pass0 (pa_cons (pv 1) (pa_cons (pv 2) pa_nil))))))), ?_⟩
    walk_at "w"
    show if inV (V.int n) (ns.map V.int) = true then _ else _
    rw [inV_int]
    by_cases hn : n ∈ ns
    · refine iteD hn ?_
      have hle := List.length_erase_of_mem hn
      have hsz : ((ns.erase n).map V.int).length < sizeLine := by rw [List.length_map]; exact small1000 (by omega)
      walk_at "w"
      refine kA hn _ ⟨⟨dx, by rw [upd_ne npl, upd_ne npl]; exact hp⟩, by rw [upd_same]; simp⟩ fun c o e hc => by rw [upd_ne hc, upd_ne hc]; exact e
    · refine iteDn hn ?_
      walk_at "w"
      show if decide (((ns.map V.int).length : Int) < r) = true then _ else _
      rw [List.length_map]
      by_cases h2 : (ns.length : Int) < r
      · refine iteD h2 ?_
        have hsz : (ns.map V.int).length < sizeLine := by rw [List.length_map]; exact small1000 (by omega)
        walk_at "w"
        exact kN hn h2 _ ⟨⟨dx, by rw [upd_ne npl]; exact hp⟩, by rw [upd_same]; simp⟩ fun c o e hc => by rw [upd_ne hc]; exact e
      · refine iteDn h2 ?_
        have hf := kF hn (by omega)
        walk_at "w"
end
local macro_rules | `(tactic| walk_at "fld") => `(tactic| first | exact bF_room _ _ | exact bF_order _ _ | exact bF_full _ _ | exact bF_hears _ _ | exact bF_drops _ _ | exact bF_names _ _ | exact flat_ints _)
theorem bx {i j : Int} (hi : 0 ≤ i) (hj : 0 ≤ j) : Builtin.bitXor i j = ((i.toNat ^^^ j.toNat : Nat) : Int) := by
  have e := xor_add_and i.toNat j.toNat
  rw [PyProof.Rows.bitXor_and, PyProof.Rows.bitAnd_pp hi hj]
  omega
def spFar : Sp := fun vs H Q _ => ∃ i j : Int, vs = [.int i, .int j] ∧ Q (.int (Builtin.bitXor i j)) H
theorem cast_pow (k : Nat) : ((2 ^ k : Nat) : Int) = 2 ^ k := by simp
theorem bits_xor {i j : Int} (hi : 0 ≤ i) (hj : 0 ≤ j) (h : i ≠ j) : ((Builtin.Int.intBits (Builtin.bitXor i j) : Nat) : Int) - 1 = ((i.toNat ^^^ j.toNat).log2 : Nat) := by
  have hm : i.toNat ^^^ j.toNat ≠ 0 := fun z => h (by
    have := (xor_eq_zero _ _).mp z
    omega)
  rw [bx hi hj]
  unfold Builtin.Int.intBits
  rw [if_neg (by simpa using hm), Int.natAbs_natCast]
  omega
def ov : Option Nat → V
  | none => .non
  | some k => .int k
def spStep : Sp := fun vs H Q _ => ∃ i j : Int, vs = [.int i, .int j] ∧ Q (.int ((Builtin.Int.intBits (Builtin.bitXor i j) : Nat) - 1)) H
section
variable {P : Program} {w : World} {K : PySem.W.Frag} {mg : Str → Option Value} {base : Heap}
theorem sc_far : FnScope ["one", "other"] ["one", "other"] (defScope (top 11)) := ⟨rfl, rfl, rfl, by decide +kernel, rfl, by decide +kernel, by decide +kernel⟩
theorem ok_far (D : Df K mg "far" (top 11) ["one", "other"]) : FnOk P w K mg base CX0 1 D.f D.fd ["one", "other"] spFar := by
  refine D.fn.ok sc_far (fun vs H Q E h => ?_) (fun cdv A outer s H vs Q E hr h => ?_)
  · obtain ⟨i, j, rfl, _⟩ := h
    rfl
  · obtain ⟨i, j, rfl, k⟩ := h
    refine ⟨_, (pss_one (ps_ret (pe_op op_xor (pv 0) (pv 1)))), ?_⟩
    exact ⟨_, rfl, _, rfl, _, _, rfl, rfl, k⟩
theorem two_pow_pos (n : Nat) : (0 : Int) < 2 ^ n := by
  have h := Nat.pow_pos (n := n) (show 0 < 2 by decide)
  have e : ((2 ^ n : Nat) : Int) = 2 ^ n := by simp
  omega
theorem snoc_all {ns : List Int} {y : Int} {p : Int → Prop} (h : ∀ x ∈ ns, p x) (hy : p y) : ∀ x ∈ ns ++ [y], p x := fun x hx => by
  rcases List.mem_append.mp hx with z | z
  · exact h x z
  · rw [List.mem_singleton.mp z]
    exact hy
theorem Same.put {H H2 : Hp} {p : Addr} {o : HO} (h : Same H H2) (hp : H p = none) : Same H (upd H2 p o) := fun b u e => by
  rw [upd_ne (ne_of_none e hp)]
  exact h b u e
theorem sc_step : FnScope ["one", "other"] ["one", "other"] (defScope (top 12)) := ⟨rfl, rfl, rfl, by decide +kernel, rfl, by decide +kernel, by decide +kernel⟩
theorem ok_step (D_far : Df K mg "far" (top 11) ["one", "other"]) (D : Df K mg "step" (top 12) ["one", "other"]) : FnOk P w K mg base CX0 2 D.f D.fd ["one", "other"] spStep := by
  have G_far : FnOk P w K mg base CX0 1 _ _ _ _ := ok_far D_far
  refine D.fn.ok sc_step (fun vs H Q E h => ?_) (fun cdv A outer s H vs Q E hr h => ?_)
  · obtain ⟨i, j, rfl, _⟩ := h
    rfl
  · obtain ⟨i, j, rfl, k⟩ := h
    refine ⟨_, (pss_one (ps_ret (pe_op op_sub (pe_bitlen (pe_call G_far (hr.mono (by decide)) rfl D_far.hm D_far.fn.kp D_far.b .nil pass0 (pa_cons (pv 0) (pa_cons (pv 1) pa_nil)))) pe_int))), ?_⟩
    exact ⟨_, rfl, _, rfl, _, _, rfl, rfl, _, rfl, rfl, _, _, rfl, rfl, k⟩
end
def lam0 : Pos := ⟨0, 0, 0, 0⟩
def laArgs : Expr → Arguments | .Lambda a _ _ _ => a | _ => defArgs (.Pass lam0)
def laBody : Expr → Expr | .Lambda _ b _ _ => b | e => e
def laScope : Expr → Scope | .Lambda _ _ s _ => s | _ => defScope (.Pass lam0)
def laPos : Expr → Pos | .Lambda _ _ _ p => p | _ => lam0
local macro_rules | `(tactic| walk_at "fld") => `(tactic| first | exact bF_room _ _ | exact bF_order _ _ | exact bF_full _ _ | exact bF_hears _ _ | exact bF_drops _ _ | exact bF_names _ _ | exact flat_ints _)
def fset {α : Type} (f : Nat → α) (i : Nat) (x : α) : Nat → α := fun j => if j = i then x else f j
theorem fset_same {α : Type} {f : Nat → α} {i : Nat} {x : α} : fset f i x i = x := if_pos rfl
theorem fset_ne {α : Type} {f : Nat → α} {i j : Nat} {x : α} (h : j ≠ i) : fset f i x j = f j := if_neg h
abbrev refs (n : Nat) (f : Nat → Addr) : List V := (List.range n).map fun k => V.ref (f k)
theorem refs_len {n : Nat} {f : Nat → Addr} : (refs n f).length = n := by simp
theorem refs_get {n : Nat} {f : Nat → Addr} {i : Nat} (h : i < n) : (refs n f)[i]? = some (V.ref (f i)) := by
  unfold refs
  rw [List.getElem?_map, List.getElem?_range h]
  rfl
theorem refs_of {n : Nat} {f : Nat → Addr} {i : Nat} {v : V} (h : (refs n f)[i]? = some v) : i < n ∧ v = V.ref (f i) := by
  obtain ⟨h1, _⟩ := List.getElem?_eq_some_iff.mp h
  rw [refs_len] at h1
  rw [refs_get h1] at h
  exact ⟨h1, (Option.some.inj h).symm⟩
theorem refs_at {n : Nat} {f : Nat → Addr} {i : Int} (h0 : 0 ≤ i) (h : i.toNat < n) : atI (refs n f) i = some (V.ref (f i.toNat)) := by
  have e : ((i.toNat : Nat) : Int) = i := by omega
  have z := atI_nat (xs := refs n f) (j := i.toNat) (v := V.ref (f i.toNat)) (refs_get h)
  rwa [e] at z
theorem refs_snoc {n : Nat} {f : Nat → Addr} {b : Addr} : refs n f ++ [V.ref b] = refs (n + 1) (fset f n b) := by
  unfold refs
  rw [List.range_succ, List.map_append]
  congr 1
  · refine List.map_congr_left fun k hk => ?_
    rw [fset_ne (Nat.ne_of_lt (List.mem_range.mp hk))]
  · simp [fset_same]
def catN (ns : Nat → List Int) (k : Nat) : List Int := ((List.range k).map ns).flatten
theorem catN_succ {ns : Nat → List Int} {k : Nat} : catN ns (k + 1) = catN ns k ++ ns k := by
  unfold catN
  rw [List.range_succ]
  simp
theorem catN_le {ns : Nat → List Int} : ∀ {j k : Nat}, j ≤ k → (catN ns j).length ≤ (catN ns k).length
  | j, 0, h => by
    have : j = 0 := by omega
    subst this
    exact Nat.le_refl _
  | j, k + 1, h => by
    by_cases e : j = k + 1
    · subst e
      exact Nat.le_refl _
    · have := catN_le (ns := ns) (j := j) (k := k) (by omega)
      rw [catN_succ, List.length_append]
      omega
def tF (own z r : Int) (l : Addr) : List (Str × V) := [(("own" : Str), V.int own), (("wide" : Str), V.int z), (("room" : Str), V.int r), (("buckets" : Str), V.ref l)]
theorem tF_own (o z r : Int) (l : Addr) : (tF o z r l).lookup ("own" : Str) = some (V.int o) := by kernel_rfl
theorem tF_wide (o z r : Int) (l : Addr) : (tF o z r l).lookup ("wide" : Str) = some (V.int z) := by kernel_rfl
theorem tF_room (o z r : Int) (l : Addr) : (tF o z r l).lookup ("room" : Str) = some (V.int r) := by kernel_rfl
theorem tF_buckets (o z r : Int) (l : Addr) : (tF o z r l).lookup ("buckets" : Str) = some (V.ref l) := by kernel_rfl
theorem tF_new (o z r : Int) (l : Addr) : putF "buckets" (V.ref l) (putF "room" (V.int r) (putF "wide" (V.int z) (putF "own" (V.int o) []))) = tF o z r l := by kernel_rfl
theorem tF_n1 (o z r : Int) (l : Addr) : (tF o z r l).lookup ("hears" : Str) = none := by kernel_rfl
theorem tF_n2 (o z r : Int) (l : Addr) : (tF o z r l).lookup ("drops" : Str) = none := by kernel_rfl
theorem tF_n3 (o z r : Int) (l : Addr) : (tF o z r l).lookup ("bucket_of" : Str) = none := by kernel_rfl
theorem tF_n4 (o z r : Int) (l : Addr) : (tF o z r l).lookup ("bucket" : Str) = none := by kernel_rfl
theorem tF_n5 (o z r : Int) (l : Addr) : (tF o z r l).lookup ("keeps" : Str) = none := by kernel_rfl
theorem tF_n6 (o z r : Int) (l : Addr) : (tF o z r l).lookup ("nearest" : Str) = none := by kernel_rfl
structure TabAt (CB CT : Addr) (H : Hp) (t bl : Addr) (own z r : Int) (n : Nat) (bA lA : Nat → Addr) (ns : Nat → List Int) : Prop where
  ob : ∃ dx, H t = some (.ins CT dx (tF own z r bl))
  li : H bl = some (.lst (refs n bA))
  bk : ∀ k, k < n → BuckAt CB H (bA k) (lA k) r (ns k)
  bi : ∀ i j, i < n → j < n → i ≠ j → bA i ≠ bA j
  lj : ∀ i j, i < n → j < n → i ≠ j → lA i ≠ lA j
  nl : ∀ k, k < n → lA k ≠ bl
structure Away (n : Nat) (bl : Addr) (lA : Nat → Addr) (x : Addr) : Prop where
  b : x ≠ bl
  l : ∀ j, j < n → x ≠ lA j
section
variable {CB CT t bl : Addr} {own z r : Int} {n : Nat} {bA lA : Nat → Addr} {ns : Nat → List Int} {H H' : Hp}
theorem TabAt.keep (T : TabAt CB CT H t bl own z r n bA lA ns) (s : ∀ q o, (∀ ps, o ≠ .tbl ps) → H q = some o → H' q = some o) : TabAt CB CT H' t bl own z r n bA lA ns := by
  obtain ⟨⟨dx, h1⟩, h2, h3, h4, h5, h6⟩ := T
  refine ⟨⟨dx, s _ _ (fun _ z => nomatch z) h1⟩, s _ _ (fun _ z => nomatch z) h2, fun k hk => ?_, h4, h5, h6⟩
  obtain ⟨⟨dx, b1⟩, b2⟩ := h3 k hk
  exact ⟨⟨dx, s _ _ (fun _ z => nomatch z) b1⟩, s _ _ (fun _ z => nomatch z) b2⟩
theorem TabAt.same (T : TabAt CB CT H t bl own z r n bA lA ns) (s : Same H H') : TabAt CB CT H' t bl own z r n bA lA ns := T.keep fun q o _ e => s q o e
theorem TabAt.bne (T : TabAt CB CT H t bl own z r n bA lA ns) {k : Nat} (hk : k < n) : bA k ≠ t := fun e => by
  obtain ⟨dx, h1⟩ := T.ob
  obtain ⟨dy, h2⟩ := (T.bk k hk).ob
  rw [e, h1] at h2
  have := Option.some.inj h2
  injection this with _ _ h3
  exact absurd (congrArg List.length h3) (by simp [tF, bF])
theorem TabAt.turn (T : TabAt CB CT H t bl own z r n bA lA ns) {k : Nat} (hk : k < n) {l' : Addr} {xs : List Int} (P : Addr → Prop) (hB : BuckAt CB H' (bA k) l' r xs) (hl : l' = lA k ∨ H l' = none)
    (fr : ∀ q o, (∀ ps, o ≠ .tbl ps) → H q = some o → q ≠ bA k → q ≠ lA k → ¬ P q → H' q = some o) (hP : ∀ q, P q → Away n bl lA q ∧ ∃ ys, H q = some (.lst ys)) : TabAt CB CT H' t bl own z r n bA (fset lA k l') (fset ns k xs) := by
  have nP : ∀ q C dx fs, H q = some (.ins C dx fs) → ¬ P q := fun q C dx fs e hp => by
    obtain ⟨_, ys, e2⟩ := hP q hp
    rw [e] at e2
    cases e2
  obtain ⟨dx, h1⟩ := T.ob
  obtain ⟨⟨dk, hk1⟩, hk2⟩ := T.bk k hk
  refine ⟨⟨dx, fr _ _ (fun _ z => nomatch z) h1 (T.bne hk).symm (fun e => by rw [e, hk2] at h1; cases h1) (nP _ _ _ _ h1)⟩, ?_, fun j hj => ?_, T.bi, fun i j hi hj hne => ?_, fun j hj => ?_⟩
  · exact fr _ _ (fun _ z => nomatch z) T.li (fun e => by have := T.li; rw [e, hk1] at this; cases this) (T.nl k hk).symm (fun hp => (hP _ hp).1.b rfl)
  · by_cases e : j = k
    · subst e
      rw [fset_same, fset_same]
      exact hB
    · rw [fset_ne e, fset_ne e]
      obtain ⟨⟨dj, j1⟩, j2⟩ := T.bk j hj
      refine ⟨⟨dj, fr _ _ (fun _ z => nomatch z) j1 (T.bi j k hj hk e) (fun z => by rw [z, hk2] at j1; cases j1) (nP _ _ _ _ j1)⟩, fr _ _ (fun _ z => nomatch z) j2 (fun z => by rw [z, hk1] at j2; cases j2) (T.lj j k hj hk e) (fun hp => (hP _ hp).1.l j hj rfl)⟩
  · have new : ∀ m, m < n → m ≠ k → l' ≠ lA m := fun m hm e => by
      rcases hl with z | z
      · rw [z]
        exact T.lj k m hk hm e.symm
      · intro y
        rw [y, (T.bk m hm).li] at z
        cases z
    by_cases e1 : i = k
    · subst e1
      rw [fset_same, fset_ne hne.symm]
      exact new j hj hne.symm
    · by_cases e2 : j = k
      · subst e2
        rw [fset_same, fset_ne e1]
        exact (new i hi e1).symm
      · rw [fset_ne e1, fset_ne e2]
        exact T.lj i j hi hj hne
  · by_cases e : j = k
    · subst e
      rw [fset_same]
      rcases hl with z | z
      · rw [z]
        exact T.nl j hj
      · intro y
        rw [y, T.li] at z
        cases z
    · rw [fset_ne e]
      exact T.nl j hj
theorem Away.turn {x : Addr} (h : Away n bl lA x) {k : Nat} {l' : Addr} (hl : l' = lA k ∨ H l' = none) (hk : k < n) {o : HO} (hx : H x = some o) : Away n bl (fset lA k l') x :=
  ⟨h.b, fun j hj e => by
    by_cases q : j = k
    · subst q
      rw [fset_same] at e
      rcases hl with z | z
      · exact h.l j hj (e.trans z)
      · rw [← e, hx] at z
        cases z
    · rw [fset_ne q] at e
      exact h.l j hj e⟩
end
local macro_rules | `(tactic| walk_at "fld") => `(tactic| first | exact tF_own _ _ _ _ | exact tF_wide _ _ _ _ | exact tF_room _ _ _ _ | exact tF_buckets _ _ _ _ | exact tF_n1 _ _ _ _ | exact tF_n2 _ _ _ _ | exact tF_n3 _ _ _ _ | exact tF_n4 _ _ _ _ | exact tF_n5 _ _ _ _ | exact tF_n6 _ _ _ _)
def stepN (a b : Int) : Nat := (a.toNat ^^^ b.toNat).log2
theorem stepN_lt {a b : Int} {n : Nat} (ha : 0 ≤ a) (hb : 0 ≤ b) (h1 : a < 2 ^ n) (h2 : b < 2 ^ n) (h : a ≠ b) : stepN a b < n := by
  have e := cast_pow n
  exact log2_lt (by omega) (by omega) (by omega)
def spTInit (CB CT : Addr) : Sp := fun vs H Q _ => ∃ (t dx : Addr) (own z r : Int), vs = [.ref t, .int own, .int z, .int r] ∧ H t = some (.ins CT dx []) ∧ 0 ≤ z ∧ z ≤ 60 ∧
  ∀ (bl : Addr) (bA lA : Nat → Addr) (H' : Hp), TabAt CB CT H' t bl own z r z.toNat bA lA (fun _ => []) → H bl = none → (∀ k, k < z.toNat → H (bA k) = none ∧ H (lA k) = none) → But1 t H H' → Q .non H'
def spTBof (CB CT : Addr) : Sp := fun vs H Q _ => ∃ (t bl : Addr) (own z r m : Int) (n : Nat) (bA lA : Nat → Addr) (ns : Nat → List Int), vs = [.ref t, .int m] ∧ TabAt CB CT H t bl own z r n bA lA ns ∧
  own ≠ m ∧ 0 ≤ own ∧ 0 ≤ m ∧ own < 2 ^ n ∧ m < 2 ^ n ∧ Q (.ref (bA (stepN own m))) H
def spTHears (K : PySem.W.Frag) (CB CT : Addr) (R : Addr → FuncData → Prop) (spA : Addr → FuncData → Sp) : Sp := fun vs H Q _ => ∃ (t bl f : Addr) (own z r m : Int) (n : Nat) (bA lA : Nat → Addr) (ns : Nat → List Int), vs = [.ref t, .int m, .ref f] ∧ TabAt CB CT H t bl own z r n bA lA ns ∧
  0 ≤ own ∧ 0 ≤ m ∧ own < 2 ^ n ∧ m < 2 ^ n ∧ (own = m → Q (.str "own") H) ∧ (own ≠ m → spHears K CB R spA [.ref (bA (stepN own m)), .int m, .ref f] H Q E0)
def spTBucket (CB CT : Addr) : Sp := fun vs H Q _ => ∃ (t bl : Addr) (own z r j : Int) (n : Nat) (bA lA : Nat → Addr) (ns : Nat → List Int), vs = [.ref t, .int j] ∧ TabAt CB CT H t bl own z r n bA lA ns ∧ 0 ≤ j ∧ j.toNat < n ∧
  ∀ (m : Addr) (H' : Hp), H m = none → H' m = some (.lst ((ns j.toNat).map V.int)) → Same H H' → Q (.ref m) H'
def spTKeeps (CB CT : Addr) : Sp := fun vs H Q _ => ∃ (t bl : Addr) (own z r : Int) (n : Nat) (bA lA : Nat → Addr) (ns : Nat → List Int), vs = [.ref t] ∧ TabAt CB CT H t bl own z r n bA lA ns ∧ (catN ns n).length < 64 ∧
  ∀ (m : Addr) (H' : Hp), H m = none → H' m = some (.lst ((sortI (catN ns n)).map V.int)) → Same H H' → Q (.ref m) H'
section
variable {P : Program} {w : World} {K : PySem.W.Frag} {mg : Str → Option Value} {base : Heap}
theorem sc_Table___init__ : FnScope ["self", "own", "wide", "room"] ["self", "own", "wide", "room"] (defScope (inClass (top 16) 0)) := ⟨rfl, rfl, rfl, by decide +kernel, rfl, by decide +kernel, by decide +kernel⟩
theorem ok_Table_init (T : Txt mg) (D_Bucket : DfC K mg "Bucket" ["room", "order"]) (D_Bucket___init__ : DfM K D_Bucket.C "__init__" "Bucket.__init__" (inClass (top 14) 0) ["self", "room"]) (D_Table : DfC K mg "Table" ["own", "wide", "room", "buckets"]) (D_Table___init__ : DfM K D_Table.C "__init__" "Table.__init__" (inClass (top 16) 0) ["self", "own", "wide", "room"]) : FnOk P w K mg base CX0 3 D_Table___init__.f D_Table___init__.fd ["self", "own", "wide", "room"] (spTInit D_Bucket.C D_Table.C) := by
  have hcl := D_Table.cl
  obtain ⟨na1, na2, na3, na4, -⟩ := D_Table.na
  have G_Bucket___init__ : FnOk P w K mg base CX0 1 _ _ _ _ := ok_Bucket_init D_Bucket D_Bucket___init__
  refine D_Table___init__.fn.ok sc_Table___init__ (fun vs H Q E h => ?_) (fun cdv A outer s H vs Q E hr h => ?_)
  · obtain ⟨t, dx, own, z, r, rfl, _⟩ := h
    rfl
  · obtain ⟨t, dx, own, z, r, rfl, ht, hz, hz2, k⟩ := h
    refine ⟨_, (pss_cons (ps_fld (pv 0) (pv 1) rfl)
      (pss_cons (ps_fld (pv 0) (pv 2) rfl)
      (pss_cons (ps_fld (pv 0) (pv 3) rfl)
      (pss_one (ps_fld (pv 0) (pe_comp rfl (compText_of (own := ["k"]) (caps := [3]) (N' := ["k", "room"]) (by kernel_rfl)) (pi_range1 rfl T.n_range (pa_cons (pv 2) pa_nil)) (fun _ _ _ _ _ => (pg_name (i := 0) (show (["k", "room"] : List Str).Nodup by decide +kernel) rfl (Or.inl rfl))) (fun _ _ _ _ _ => pts_nil) (fun _ _ _ _ _ => (pe_make (DfM.mk' D_Bucket D_Bucket___init__) G_Bucket___init__ (hr.mono (by decide)) rfl D_Bucket.hm D_Bucket___init__.b .nil pass0 (pa_cons (pv 1) pa_nil)))) rfl))))), ?_⟩
    walk_at "w"
    generalize hH3 : upd (upd (upd H t _) t _) t _ = H3
    have ht3 : H3 t = some (.ins D_Table.C dx (putF "room" (V.int r) (putF "wide" (V.int z) (putF "own" (V.int own) [])))) := by rw [← hH3]; exact upd_same
    have hb3 : ∀ c, c ≠ t → H3 c = H c := fun c hc => by rw [← hH3, upd_ne hc, upd_ne hc, upd_ne hc]
    clear hH3
    intro D hD
    have nDt : D ≠ t := (ne_of_none ht3 hD).symm
    refine comp_range (lo := 0) (n := z.toNat) (fun i σ H2 => Hold (∃ (bA lA : Nat → Addr) (v0 : Option V), σ = [v0, some (.int r)] ∧ H2 D = some (.lst (refs i bA)) ∧ (∀ k, k < i → BuckAt D_Bucket.C H2 (bA k) (lA k) r []) ∧ (∀ k, k < i → H3 (bA k) = none ∧ H3 (lA k) = none ∧ lA k ≠ D) ∧
        (∀ i' j', i' < i → j' < i → i' ≠ j' → bA i' ≠ bA j' ∧ lA i' ≠ lA j') ∧ Same H3 H2)) ⟨⟨fun _ => 0, fun _ => 0, none, rfl, upd_same, fun _ h => absurd h (by omega), fun _ h => absurd h (by omega), fun _ _ h => absurd h (by omega), Same.new H3 hD⟩⟩ ?_ ?_
    · rintro i σ H2 hi ⟨bA, lA, v0, rfl, hD2, hbk, hfr, hij, s2⟩
      walk_at "w"
      intro b dxb hb hdx hne
      have hnew : ∀ {q : Addr} {o : HO}, H2 q = some o → q ≠ b ∧ q ≠ dxb := fun e => ⟨ne_of_none e hb, ne_of_none e hdx⟩
      refine ⟨b, dxb, r, rfl, upd_same, fun l H5 hl B5 hb5 => ⟨rfl, refs i bA, ?_, by rw [refs_len]; exact small1000 (by omega), ?_⟩⟩
      · exact hb5 _ _ (by rw [upd_ne (hnew hD2).1, upd_ne (hnew hD2).2]; exact hD2) (hnew hD2).1
      have s5 : Same H2 H5 := fun q o e => hb5 _ _ (by rw [upd_ne (hnew e).1, upd_ne (hnew e).2]; exact e) (hnew e).1
      have hl2 : H2 l = none := by
        cases q : H2 l with
        | none => rfl
        | some o => rw [upd_ne (hnew q).1, upd_ne (hnew q).2, q] at hl; cases hl
      have nlD : l ≠ D := (ne_of_none hD2 hl2).symm
      have nbD : b ≠ D := (ne_of_none hD2 hb).symm
      obtain ⟨⟨dxb5, B51⟩, B52⟩ := B5
      refine ⟨⟨fset bA i b, fset lA i l, _, rfl, by rw [upd_same, refs_snoc], fun k hk => ?_, fun k hk => ?_, fun i' j' hi' hj' hne' => ?_, (s2.trans s5).put hD⟩⟩
      · by_cases e : k = i
        · rw [e, fset_same, fset_same]
          exact ⟨⟨dxb5, by rw [upd_ne nbD]; exact B51⟩, by rw [upd_ne nlD]; exact B52⟩
        · rw [fset_ne e, fset_ne e]
          obtain ⟨⟨dxk, b1⟩, b2⟩ := hbk k (by omega)
          have nbk : bA k ≠ D := ne_of b1 hD2 (by intro z; cases z)
          exact ⟨⟨dxk, by rw [upd_ne nbk]; exact s5 _ _ b1⟩, by rw [upd_ne (hfr k (by omega)).2.2]; exact s5 _ _ b2⟩
      · by_cases e : k = i
        · rw [e, fset_same, fset_same]
          exact ⟨s2.free hb, s2.free hl2, nlD⟩
        · rw [fset_ne e, fset_ne e]
          exact hfr k (by omega)
      · have nb : ∀ m, m < i → b ≠ bA m ∧ l ≠ lA m := fun m hm => by
          obtain ⟨⟨dxm, b1⟩, b2⟩ := hbk m hm
          exact ⟨(ne_of_none b1 hb).symm, (ne_of_none b2 hl2).symm⟩
        by_cases e1 : i' = i
        · subst e1
          rw [fset_same, fset_same, fset_ne hne'.symm, fset_ne hne'.symm]
          exact nb j' (by omega)
        · by_cases e2 : j' = i
          · subst e2
            rw [fset_same, fset_same, fset_ne e1, fset_ne e1]
            have := nb i' (by omega)
            exact ⟨this.1.symm, this.2.symm⟩
          · rw [fset_ne e1, fset_ne e1, fset_ne e2, fset_ne e2]
            exact hij i' j' (by omega) (by omega) hne'
    · rintro σ H2 ⟨bA, lA, v0, rfl, hD2, hbk, hfr, hij, s2⟩
      have ht2 := s2 _ _ ht3
      walk_at "w"
      show Q .non (upd H2 t (.ins D_Table.C dx (putF "buckets" (V.ref D) (putF "room" (V.int r) (putF "wide" (V.int z) (putF "own" (V.int own) []))))))
      rw [tF_new]
      have n3 : ∀ {q : Addr}, H3 q = none → q ≠ t := fun h => (ne_of_none ht3 h).symm
      have old : ∀ {q : Addr}, H3 q = none → H q = none := fun h => by rw [← hb3 _ (n3 h)]; exact h
      refine k D bA lA _ ⟨⟨dx, upd_same⟩, by rw [upd_ne nDt]; exact hD2, fun k hk => ?_, fun i j hi hj h => (hij i j hi hj h).1, fun i j hi hj h => (hij i j hi hj h).2, fun k hk => (hfr k hk).2.2⟩ (old hD) (fun k hk => ⟨old (hfr k hk).1, old (hfr k hk).2.1⟩) fun c o e hc => ?_
      · obtain ⟨⟨dxk, b1⟩, b2⟩ := hbk k hk
        exact ⟨⟨dxk, by rw [upd_ne (n3 (hfr k hk).1)]; exact b1⟩, by rw [upd_ne (n3 (hfr k hk).2.1)]; exact b2⟩
      · rw [upd_ne hc]
        exact s2 _ _ (by rw [hb3 _ hc]; exact e)
theorem sc_Table_bucket_of : FnScope ["self", "name"] ["self", "name"] (defScope (inClass (top 16) 3)) := ⟨rfl, rfl, rfl, by decide +kernel, rfl, by decide +kernel, by decide +kernel⟩
theorem ok_Table_bof (T : Txt mg) {CB : Addr} (D_far : Df K mg "far" (top 11) ["one", "other"]) (D_step : Df K mg "step" (top 12) ["one", "other"]) (D_Table : DfC K mg "Table" ["own", "wide", "room", "buckets"]) (D_Table_bucket_of : DfM K D_Table.C "bucket_of" "Table.bucket_of" (inClass (top 16) 3) ["self", "name"]) : FnOk P w K mg base CX0 3 D_Table_bucket_of.f D_Table_bucket_of.fd ["self", "name"] (spTBof CB D_Table.C) := by
  have hcl := D_Table.cl
  obtain ⟨na1, na2, na3, na4, -⟩ := D_Table.na
  have G_step : FnOk P w K mg base CX0 2 _ _ _ _ := ok_step D_far D_step
  refine D_Table_bucket_of.fn.ok sc_Table_bucket_of (fun vs H Q E h => ?_) (fun cdv A outer s H vs Q E hr h => ?_)
  · obtain ⟨t, bl, own, z, r, m, n, bA, lA, ns, rfl, _⟩ := h
    rfl
  · obtain ⟨t, bl, own, z, r, m, n, bA, lA, ns, rfl, hT, hne, h1, h2, h3, h4, k⟩ := h
    obtain ⟨⟨dx, hob⟩, hli, -⟩ := id hT
    refine ⟨_, (pss_one (ps_ret (pe_ix ix_list (pe_fld (pv 0) rfl) (pe_call G_step (hr.mono (by decide)) rfl D_step.hm D_step.fn.kp D_step.b .nil pass0 (pa_cons (pe_fld (pv 0) rfl) (pa_cons (pv 1) pa_nil))) (fun _ _ => rfl)))), ?_⟩
    have e := bits_xor h1 h2 hne
    have hlt := stepN_lt h1 h2 h3 h4 hne
    have hat : atI (refs n bA) (((Builtin.Int.intBits (Builtin.bitXor own m) : Nat) : Int) - 1) = some (V.ref (bA (stepN own m))) := by
      rw [e]
      exact refs_at (by omega) (by rw [Int.toNat_natCast]; exact hlt)
    walk_at "w"
theorem sc_Table_hears : FnScope ["self", "name", "answers"] ["self", "name", "answers"] (defScope (inClass (top 16) 1)) := ⟨rfl, rfl, rfl, by decide +kernel, rfl, by decide +kernel, by decide +kernel⟩
theorem ok_Table_hears (T : Txt mg) {psA : List Str} {R : Addr → FuncData → Prop} {spA : Addr → FuncData → Sp} (GA : ∀ f fd, R f fd → FnOk P w K mg base CX0 5 f fd psA (spA f fd)) (bA' : ∀ f fd, R f fd → Binds K fd psA []) (mA : MonoA spA)
    (D_far : Df K mg "far" (top 11) ["one", "other"]) (D_step : Df K mg "step" (top 12) ["one", "other"]) (D_Bucket : DfC K mg "Bucket" ["room", "order"]) (D_Bucket_hears_when_full : DfM K D_Bucket.C "hears_when_full" "Bucket.hears_when_full" (inClass (top 14) 2) ["self", "name", "answers"]) (D_Bucket_hears : DfM K D_Bucket.C "hears" "Bucket.hears" (inClass (top 14) 1) ["self", "name", "answers"]) (D_Table : DfC K mg "Table" ["own", "wide", "room", "buckets"]) (D_Table_bucket_of : DfM K D_Table.C "bucket_of" "Table.bucket_of" (inClass (top 16) 3) ["self", "name"]) (D_Table_hears : DfM K D_Table.C "hears" "Table.hears" (inClass (top 16) 1) ["self", "name", "answers"]) : FnOk P w K mg base CX0 8 D_Table_hears.f D_Table_hears.fd ["self", "name", "answers"] (spTHears K D_Bucket.C D_Table.C R spA) := by
  have hcl := D_Table.cl
  obtain ⟨na1, na2, na3, na4, -⟩ := D_Table.na
  have G_Table_bucket_of : FnOk P w K mg base CX0 3 _ _ _ _ := ok_Table_bof (CB := D_Bucket.C) T D_far D_step D_Table D_Table_bucket_of
  have G_Bucket_hears : FnOk P w K mg base CX0 7 _ _ _ _ := ok_Bucket_hears T GA bA' mA D_Bucket D_Bucket_hears_when_full D_Bucket_hears
  refine D_Table_hears.fn.ok sc_Table_hears (fun vs H Q E h => ?_) (fun cdv A outer s H vs Q E hr h => ?_)
  · obtain ⟨t, bl, f, own, z, r, m, n, bA, lA, ns, rfl, _⟩ := h
    rfl
  · obtain ⟨t, bl, f, own, z, r, m, n, bA, lA, ns, rfl, hT, h1, h2, h3, h4, k1, k2⟩ := h
    obtain ⟨⟨dx, hob⟩, hli, hbk, -⟩ := id hT
    refine ⟨_, (pss_cons (ps_if (pt_cmpR op_eq (pv 1) (pe_fld (pv 0) rfl) (nomark _))
       (pss_one (ps_ret pe_str))
       pss_nil)
      (pss_one (ps_ret (pe_meth (pe_meth (pv 0) D_Table.cl D_Table_bucket_of.me G_Table_bucket_of (hr.mono (by decide)) D_Table_bucket_of.b .nil pass0 (pa_cons (pv 1) pa_nil)) D_Bucket.cl D_Bucket_hears.me G_Bucket_hears (hr.mono (by decide)) D_Bucket_hears.b .nil pass0 (pa_cons (pv 1) (pa_cons (pv 2) pa_nil)))))), ?_⟩
    walk_at "w"
    by_cases hne : m = own
    · subst hne
      refine iteD rfl ?_
      exact k1 rfl
    · have hne' : own ≠ m := fun e => hne e.symm
      refine iteDn (fun e => hne (by injection e)) ?_
      have hlt := stepN_lt h1 h2 h3 h4 hne'
      obtain ⟨⟨dk, hk1⟩, hk2⟩ := hbk _ hlt
      have hf := k2 hne'
      walk_at "w"
theorem sc_Table_bucket : FnScope ["self", "k"] ["self", "k"] (defScope (inClass (top 16) 4)) := ⟨rfl, rfl, rfl, by decide +kernel, rfl, by decide +kernel, by decide +kernel⟩
theorem ok_Table_bucket (T : Txt mg) (D_Bucket : DfC K mg "Bucket" ["room", "order"]) (D_Bucket_names : DfM K D_Bucket.C "names" "Bucket.names" (inClass (top 14) 4) ["self"]) (D_Table : DfC K mg "Table" ["own", "wide", "room", "buckets"]) (D_Table_bucket : DfM K D_Table.C "bucket" "Table.bucket" (inClass (top 16) 4) ["self", "k"]) : FnOk P w K mg base CX0 2 D_Table_bucket.f D_Table_bucket.fd ["self", "k"] (spTBucket D_Bucket.C D_Table.C) := by
  have hcl := D_Table.cl
  obtain ⟨na1, na2, na3, na4, -⟩ := D_Table.na
  have G_Bucket_names : FnOk P w K mg base CX0 1 _ _ _ _ := ok_Bucket_names T D_Bucket D_Bucket_names
  refine D_Table_bucket.fn.ok sc_Table_bucket (fun vs H Q E h => ?_) (fun cdv A outer s H vs Q E hr h => ?_)
  · obtain ⟨t, bl, own, z, r, j, n, bA, lA, ns, rfl, _⟩ := h
    rfl
  · obtain ⟨t, bl, own, z, r, j, n, bA, lA, ns, rfl, hT, h1, h2, k⟩ := h
    obtain ⟨⟨dx, hob⟩, hli, hbk, -⟩ := id hT
    have hB := hbk _ h2
    obtain ⟨⟨dk, hk1⟩, hk2⟩ := id hB
    refine ⟨_, (pss_one (ps_ret (pe_meth0 (pe_ix ix_list (pe_fld (pv 0) rfl) (pv 1) (fun _ _ => rfl)) D_Bucket.cl D_Bucket_names.me G_Bucket_names (hr.mono (by decide)) D_Bucket_names.b .nil pass0))), ?_⟩
    have hat := refs_at (f := bA) h1 h2
    walk_at "w"
theorem sc_Table_keeps : FnScope ["self", "names", "bucket"] ["self"] (defScope (inClass (top 16) 5)) := ⟨rfl, rfl, rfl, by decide +kernel, rfl, by decide +kernel, by decide +kernel⟩
theorem ok_Table_keeps (T : Txt mg) (D_Bucket : DfC K mg "Bucket" ["room", "order"]) (D_Bucket_names : DfM K D_Bucket.C "names" "Bucket.names" (inClass (top 14) 4) ["self"]) (D_Table : DfC K mg "Table" ["own", "wide", "room", "buckets"]) (D_Table_keeps : DfM K D_Table.C "keeps" "Table.keeps" (inClass (top 16) 5) ["self"]) : FnOk P w K mg base CX0 2 D_Table_keeps.f D_Table_keeps.fd ["self"] (spTKeeps D_Bucket.C D_Table.C) := by
  have hcl := D_Table.cl
  obtain ⟨na1, na2, na3, na4, -⟩ := D_Table.na
  have G_Bucket_names : FnOk P w K mg base CX0 1 _ _ _ _ := ok_Bucket_names T D_Bucket D_Bucket_names
  refine D_Table_keeps.fn.ok sc_Table_keeps (fun vs H Q E h => ?_) (fun cdv A outer s H vs Q E hr h => ?_)
  · obtain ⟨t, bl, own, z, r, n, bA, lA, ns, rfl, _⟩ := h
    rfl
  · obtain ⟨t, bl, own, z, r, n, bA, lA, ns, rfl, hT, hlen, k⟩ := h
    obtain ⟨⟨dx, hob⟩, hli, hbk, -⟩ := id hT
    refine ⟨_, (pss_cons (ps_set (i := 1) sc_Table_keeps.nd rfl (Or.inl rfl) (pe_lst pa_nil))
      (pss_cons (ps_for PassesOwn.never rfl (pi_list (pe_fld (pv 0) rfl)) (pg_name (i := 2) sc_Table_keeps.nd rfl (Or.inl rfl))
       (pss_one (ps_expr (pe_bm PySem.F.plainAttrs_list PySem.F.slot_list_extend PySem.F.type_list_extend mt_extend (pv 1) (pa_cons (pe_meth0 (pv 2) D_Bucket.cl D_Bucket_names.me G_Bucket_names (hr.mono (by decide)) D_Bucket_names.b .nil pass0) pa_nil)))))
      (pss_one (ps_ret (pe_callB call_sorted rfl T.n_sorted bt_sorted (pa_cons (pv 1) pa_nil)))))), ?_⟩
    walk_at "w"
    intro p hp
    have s0 : Same H (upd H p (.lst [])) := Same.new H hp
    have hob0 := s0 _ _ hob
    have hli0 := s0 _ _ hli
    walk_at "w"
    refine for_list (K := K) (a := bl) (xs := refs n bA) (fun i σ H2 => Hold (∃ v : Option V, σ = [some (.ref t), some (.ref p), v] ∧ Same H H2 ∧ H2 p = some (.lst ((catN ns i).map V.int))))
      ⟨⟨none, rfl, s0, upd_same⟩⟩ (fun i σ H2 _ ⟨_, _, s2, _⟩ => SqL.of (s2 _ _ hli)) ?_ ?_
    · rintro i y σ H2 hi ⟨v, rfl, s2, hp2⟩
      obtain ⟨hin, rfl⟩ := refs_of hi
      obtain ⟨⟨dk, hk1⟩, hk2⟩ := hbk _ hin
      have hB : BuckAt D_Bucket.C H2 (bA i) (lA i) r (ns i) := ⟨⟨dk, s2 _ _ hk1⟩, s2 _ _ hk2⟩
      have hk1' := s2 _ _ hk1
      walk_at "w"
      intro m H3 hm hm3 s3
      have hp3 := s3 _ _ hp2
      have hsz : ((catN ns i).map V.int).length + ((ns i).map V.int).length ≤ sizeLine := by
        have e1 := catN_le (ns := ns) (j := i + 1) (k := n) hin
        rw [catN_succ, List.length_append] at e1
        rw [List.length_map, List.length_map]
        exact Nat.le_of_lt (small1000 (by omega))
      walk_at "w"
      refine ⟨⟨_, rfl, (s2.trans s3).put hp, ?_⟩⟩
      rw [upd_same, catN_succ, List.map_append]
    · rintro σ H2 ⟨v, rfl, s2, hp2⟩
      rw [refs_len] at hp2
      walk_at "w"
      intro m hm
      exact k m _ (s2.free hm) upd_same (s2.put (s2.free hm))
end
local macro_rules | `(tactic| walk_at "fld") => `(tactic| first | exact bF_room _ _ | exact bF_order _ _ | exact bF_full _ _ | exact bF_hears _ _ | exact bF_drops _ _ | exact bF_names _ _ | exact flat_ints _)
local macro_rules | `(tactic| walk_at "fld") => `(tactic| first | exact tF_own _ _ _ _ | exact tF_wide _ _ _ _ | exact tF_room _ _ _ _ | exact tF_buckets _ _ _ _ | exact tF_n1 _ _ _ _ | exact tF_n2 _ _ _ _ | exact tF_n3 _ _ _ _ | exact tF_n4 _ _ _ _ | exact tF_n5 _ _ _ _ | exact tF_n6 _ _ _ _)
section
variable {P : Program} {w : World} {K : PySem.W.Frag} {mg : Str → Option Value} {base : Heap}
theorem sc_is_whole : FnScope ["thing"] ["thing"] (defScope (top 9)) := ⟨rfl, rfl, rfl, by decide +kernel, rfl, by decide +kernel, by decide +kernel⟩
def NotWhole (K : PySem.W.Frag) (H : Hp) (v : V) : Prop := (∃ b, v = .bl b) ∨ ∃ t, TyOf K H v t ∧ PySem.W.kitOne K t (.type "int") = some false
def spWholeV (K : PySem.W.Frag) : Sp := fun vs H Q _ => ∃ v, vs = [v] ∧ ((∃ i, v = .int i) ∧ Q (.bl true) H ∨ NotWhole K H v ∧ Q (.bl false) H)
theorem ok_is_whole (T : Txt mg) (D : Df K mg "is_whole" (top 9) ["thing"]) : FnOk P w K mg base CX0 1 D.f D.fd ["thing"] (spWholeV K) := by
  refine D.fn.ok sc_is_whole (fun vs H Q E h => ?_) (fun cdv A outer s H vs Q E hr h => ?_)
  · obtain ⟨v, rfl, _⟩ := h
    rfl
  · obtain ⟨v, rfl, h⟩ := h
    refine ⟨_, (pss_one (ps_ret (pe_and (pe_callB call_isi rfl T.n_isinstance bt_isinstance (pa_cons (pv 0) (pa_cons (pe_ty rfl T.n_int bt_int) pa_nil))) (pe_one (pe_not (pe_callB call_isi rfl T.n_isinstance bt_isinstance (pa_cons (pv 0) (pa_cons (pe_ty rfl T.n_bool bt_bool) pa_nil)))))))), ?_⟩
    rcases h with ⟨⟨i, rfl⟩, k⟩ | ⟨⟨b, rfl⟩ | ⟨t, ht, hk⟩, k⟩
    · walk_at "w"
    · walk_at "w"
    · walk_at "w"
theorem sc_is_name : FnScope ["thing", "wide"] ["thing", "wide"] (defScope (top 10)) := ⟨rfl, rfl, rfl, by decide +kernel, rfl, by decide +kernel, by decide +kernel⟩
def spIsName (K : PySem.W.Frag) : Sp := fun vs H Q _ => ∃ (v : V) (z : Int), vs = [v, .int z] ∧ ((∃ i, v = .int i ∧ Q (.bl (decide (0 ≤ i) && decide (((Builtin.Int.intBits i : Nat) : Int) ≤ z))) H) ∨ NotWhole K H v ∧ Q (.bl false) H)
theorem ok_is_name (T : Txt mg) (D_is_whole : Df K mg "is_whole" (top 9) ["thing"]) (D : Df K mg "is_name" (top 10) ["thing", "wide"]) : FnOk P w K mg base CX0 2 D.f D.fd ["thing", "wide"] (spIsName K) := by
  have G_is_whole : FnOk P w K mg base CX0 1 _ _ _ _ := ok_is_whole T D_is_whole
  refine D.fn.ok sc_is_name (fun vs H Q E h => ?_) (fun cdv A outer s H vs Q E hr h => ?_)
  · obtain ⟨v, z, rfl, _⟩ := h
    rfl
  · obtain ⟨v, z, rfl, h⟩ := h
    refine ⟨_, (pss_one (ps_ret (pe_and (pe_call G_is_whole (hr.mono (by decide)) rfl D_is_whole.hm D_is_whole.fn.kp D_is_whole.b .nil pass0 (pa_cons (pv 0) pa_nil)) (pe_and (pe_cmpR op_ge (pv 0) pe_int (nomark _)) (pe_one (pe_cmpR op_le (pe_bitlen (pv 0)) (pv 1) (nomark _))))))), ?_⟩
    rcases h with ⟨i, rfl, k⟩ | ⟨hw, k⟩
    · refine ⟨_, rfl, _, rfl, .inl ⟨⟨i, rfl⟩, ?_⟩⟩
      walk_at "w"
      by_cases hi : 0 ≤ i
      · refine iteD hi ?_
        rw [decide_eq_true hi, Bool.true_and] at k
        walk_at "w"
      · refine iteDn hi ?_
        rw [decide_eq_false hi, Bool.false_and] at k
        exact k
    · refine ⟨_, rfl, _, rfl, .inr ⟨hw, ?_⟩⟩
      walk_at "w"
end
def wF (z r : Int) (td sd : Addr) : List (Str × V) := [(("wide" : Str), V.int z), (("room" : Str), V.int r), (("tables" : Str), V.ref td), (("silent" : Str), V.ref sd)]
theorem wF_wide (z r : Int) (a b : Addr) : (wF z r a b).lookup ("wide" : Str) = some (V.int z) := by kernel_rfl
theorem wF_room (z r : Int) (a b : Addr) : (wF z r a b).lookup ("room" : Str) = some (V.int r) := by kernel_rfl
theorem wF_tables (z r : Int) (a b : Addr) : (wF z r a b).lookup ("tables" : Str) = some (V.ref a) := by kernel_rfl
theorem wF_silent (z r : Int) (a b : Addr) : (wF z r a b).lookup ("silent" : Str) = some (V.ref b) := by kernel_rfl
theorem wF_new (z r : Int) (a b : Addr) : putF "silent" (V.ref b) (putF "tables" (V.ref a) (putF "room" (V.int r) (putF "wide" (V.int z) []))) = wF z r a b := by kernel_rfl
theorem wF_m (m : Str) (h : m ∉ (["wide", "room", "tables", "silent"] : List Str)) (z r : Int) (a b : Addr) : (wF z r a b).lookup m = none := by
  simp only [List.mem_cons, List.not_mem_nil, or_false, not_or] at h
  obtain ⟨h1, h2, h3, h4⟩ := h
  have e1 : (m == "wide") = false := beq_eq_false_iff_ne.mpr h1
  have e2 : (m == "room") = false := beq_eq_false_iff_ne.mpr h2
  have e3 : (m == "tables") = false := beq_eq_false_iff_ne.mpr h3
  have e4 : (m == "silent") = false := beq_eq_false_iff_ne.mpr h4
  unfold wF
  simp only [List.lookup, e1, e2, e3, e4]
structure TRec where
  t : Addr
  bl : Addr
  bA : Nat → Addr
  lA : Nat → Addr
  ns : Nat → List Int
def tabsD (hs : List Int) (T : Int → TRec) : List (Key × V) := hs.map fun h => (Sum.inl h, V.ref (T h).t)
def silD (sil : List Int) : List (Key × V) := sil.map fun h => (Sum.inl h, V.bl true)
structure TownAt (CB CT CW : Addr) (H : Hp) (w td sd : Addr) (z r : Int) (hs sil : List Int) (T : Int → TRec) : Prop where
  ob : ∃ dx, H w = some (.ins CW dx (wF z r td sd))
  tb : H td = some (.dK (tabsD hs T))
  si : H sd = some (.dK (silD sil))
  ta : ∀ h ∈ hs, TabAt CB CT H (T h).t (T h).bl h z r z.toNat (T h).bA (T h).lA (T h).ns
  nd : hs.Nodup
  hb : ∀ h ∈ hs, 0 ≤ h ∧ h < 2 ^ z.toNat
  z1 : 1 ≤ z
  z2 : z ≤ 60
  r1 : 1 ≤ r
  r2 : r ≤ 8
  ln : hs.length ≤ 60
  ts : td ≠ sd
theorem TownAt.keep {CB CT CW : Addr} {H H' : Hp} {w td sd : Addr} {z r : Int} {hs sil : List Int} {T : Int → TRec} (W : TownAt CB CT CW H w td sd z r hs sil T) (s : ∀ q o, (∀ ps, o ≠ .tbl ps) → H q = some o → H' q = some o) : TownAt CB CT CW H' w td sd z r hs sil T := by
  obtain ⟨⟨dx, h1⟩, h2, h3, h4, h5, h6, h7, h8, h9, h10, h11, h12⟩ := W
  exact ⟨⟨dx, s _ _ (fun _ z => nomatch z) h1⟩, s _ _ (fun _ z => nomatch z) h2, s _ _ (fun _ z => nomatch z) h3, fun h hh => (h4 h hh).keep s, h5, h6, h7, h8, h9, h10, h11, h12⟩
theorem valV_tabs {hs : List Int} {T : Int → TRec} {i : Int} : valV (tabsD hs T) (Sum.inl i) = if i ∈ hs then some (V.ref (T i).t) else none := by
  induction hs with
  | nil => rfl
  | cons h t ih =>
    by_cases e : h = i
    · subst e
      rw [if_pos (List.mem_cons_self ..)]
      exact valV_pos rfl
    · have z : valV (tabsD (h :: t) T) (Sum.inl i) = valV (tabsD t T) (Sum.inl i) := valV_neg (by simpa using e)
      rw [z, ih]
      by_cases m : i ∈ t
      · rw [if_pos m, if_pos (List.mem_cons_of_mem _ m)]
      · rw [if_neg m, if_neg (by simp [m, Ne.symm e])]
theorem valV_sil {sil : List Int} {i : Int} : (valV (silD sil) (Sum.inl i)).isSome = decide (i ∈ sil) := by
  induction sil with
  | nil => rfl
  | cons h t ih =>
    by_cases e : h = i
    · subst e
      have z : valV (silD (h :: t)) (Sum.inl h) = some (V.bl true) := valV_pos rfl
      rw [z]
      simp
    · have z : valV (silD (h :: t)) (Sum.inl i) = valV (silD t) (Sum.inl i) := valV_neg (by simpa using e)
      rw [z, ih]
      simp [Ne.symm e]
theorem bits_le {i z : Int} (hi : 0 ≤ i) (hz : 0 ≤ z) : decide (((Builtin.Int.intBits i : Nat) : Int) ≤ z) = decide (i < 2 ^ z.toNat) := by
  have c : ((2 ^ z.toNat : Nat) : Int) = 2 ^ z.toNat := by simp
  have hp := two_pow_pos z.toNat
  by_cases h0 : i = 0
  · subst h0
    have e : Builtin.Int.intBits 0 = 0 := by decide +kernel
    rw [e, decide_eq_true (by omega), decide_eq_true hp]
  · have e : Builtin.Int.intBits i = i.natAbs.log2 + 1 := by
      unfold Builtin.Int.intBits
      rw [if_neg (by simpa using h0)]
    rw [e]
    have l := Nat.log2_lt (n := i.natAbs) (k := z.toNat) (by omega)
    refine decide_eq_decide.mpr ⟨fun h => ?_, fun h => ?_⟩
    · have := l.mp (by omega)
      omega
    · have := l.mpr (by omega)
      omega
def nameB (z i : Int) : Bool := decide (0 ≤ i) && decide (((Builtin.Int.intBits i : Nat) : Int) ≤ z)
theorem nameB_of {z i : Int} (h0 : 0 ≤ i) (h1 : i < 2 ^ z.toNat) (hz : 1 ≤ z) : nameB z i = true := by
  unfold nameB
  rw [decide_eq_true h0, bits_le h0 (by omega), decide_eq_true h1]
  rfl
local macro_rules | `(tactic| walk_at "fld") => `(tactic| first | exact wF_wide _ _ _ _ | exact wF_room _ _ _ _ | exact wF_tables _ _ _ _ | exact wF_silent _ _ _ _ | exact wF_m _ (by decide +kernel) _ _ _ _ | exact DGet.k (k := Sum.inl _) (by walk_at "hp"))
def spIsHouse (K : PySem.W.Frag) (CB CT CW : Addr) : Sp := fun vs H Q _ => ∃ (w td sd : Addr) (z r : Int) (hs sil : List Int) (T : Int → TRec) (v : V), vs = [.ref w, v] ∧ TownAt CB CT CW H w td sd z r hs sil T ∧ ((∃ i, v = .int i ∧ Q (.bl (nameB z i && decide (i ∈ hs))) H) ∨ NotWhole K H v ∧ Q (.bl false) H)
def spAnswers (K : PySem.W.Frag) (CB CT CW : Addr) : Sp := fun vs H Q _ => ∃ (w td sd : Addr) (z r : Int) (hs sil : List Int) (T : Int → TRec) (v : V), vs = [.ref w, v] ∧ TownAt CB CT CW H w td sd z r hs sil T ∧ ((∃ i, v = .int i ∧ Q (.bl (nameB z i && decide (i ∈ hs) && !decide (i ∈ sil))) H) ∨ NotWhole K H v ∧ Q (.bl false) H)
section
variable {P : Program} {w : World} {K : PySem.W.Frag} {mg : Str → Option Value} {base : Heap}
theorem sc_Town_is_house : FnScope ["self", "thing"] ["self", "thing"] (defScope (inClass (top 19) 4)) := ⟨rfl, rfl, rfl, by decide +kernel, rfl, by decide +kernel, by decide +kernel⟩
theorem ok_Town_is_house (T : Txt mg) {CB CT : Addr} (D_is_whole : Df K mg "is_whole" (top 9) ["thing"]) (D_is_name : Df K mg "is_name" (top 10) ["thing", "wide"]) (D_Town : DfC K mg "Town" ["wide", "room", "tables", "silent"]) (D_Town_is_house : DfM K D_Town.C "is_house" "Town.is_house" (inClass (top 19) 4) ["self", "thing"]) : FnOk P w K mg base CX0 3 D_Town_is_house.f D_Town_is_house.fd ["self", "thing"] (spIsHouse K CB CT D_Town.C) := by
  have hcl := D_Town.cl
  obtain ⟨na1, na2, na3, na4, -⟩ := D_Town.na
  have G_is_name : FnOk P w K mg base CX0 2 _ _ _ _ := ok_is_name T D_is_whole D_is_name
  refine D_Town_is_house.fn.ok sc_Town_is_house (fun vs H Q E h => ?_) (fun cdv A outer s H vs Q E hr h => ?_)
  · obtain ⟨w, td, sd, z, r, hs, sil, TT, v, rfl, _⟩ := h
    rfl
  · obtain ⟨w, td, sd, z, r, hs, sil, TT, v, rfl, hW, h⟩ := h
    obtain ⟨⟨dx, hob⟩, htb, hsi, -⟩ := id hW
    refine ⟨_, (pss_one (ps_ret (pe_and (pe_call G_is_name (hr.mono (by decide)) rfl D_is_name.hm D_is_name.fn.kp D_is_name.b .nil pass0 (pa_cons (pv 1) (pa_cons (pe_fld (pv 0) rfl) pa_nil))) (pe_one (pe_cmp (pc_din (hu_of hr) (pv 1) (pe_fld (pv 0) rfl))))))), ?_⟩
    walk_at "w"
    rcases h with ⟨i, rfl, k⟩ | ⟨hw, k⟩
    · refine .inl ⟨i, rfl, ?_⟩
      refine ⟨_, rfl, ?_⟩
      change if nameB z i = true then _ else _
      cases hn : nameB z i with
      | true =>
        rw [hn, Bool.true_and] at k
        walk_at "w"
        rw [valV_tabs]
        by_cases m : i ∈ hs
        · rw [if_pos m]
          rw [decide_eq_true m] at k
          exact k
        · rw [if_neg m]
          rw [decide_eq_false m] at k
          exact k
      | false =>
        rw [hn, Bool.false_and] at k
        walk_at "w"
    · refine .inr ⟨hw, ?_⟩
      walk_at "w"
theorem sc_Town_answers : FnScope ["self", "name"] ["self", "name"] (defScope (inClass (top 19) 3)) := ⟨rfl, rfl, rfl, by decide +kernel, rfl, by decide +kernel, by decide +kernel⟩
theorem ok_Town_answers (T : Txt mg) {CB CT : Addr} (D_is_whole : Df K mg "is_whole" (top 9) ["thing"]) (D_is_name : Df K mg "is_name" (top 10) ["thing", "wide"]) (D_Town : DfC K mg "Town" ["wide", "room", "tables", "silent"]) (D_Town_is_house : DfM K D_Town.C "is_house" "Town.is_house" (inClass (top 19) 4) ["self", "thing"]) (D_Town_answers : DfM K D_Town.C "answers" "Town.answers" (inClass (top 19) 3) ["self", "name"]) : FnOk P w K mg base CX0 4 D_Town_answers.f D_Town_answers.fd ["self", "name"] (spAnswers K CB CT D_Town.C) := by
  have hcl := D_Town.cl
  obtain ⟨na1, na2, na3, na4, -⟩ := D_Town.na
  have G_Town_is_house : FnOk P w K mg base CX0 3 _ _ _ _ := ok_Town_is_house (CB := CB) (CT := CT) T D_is_whole D_is_name D_Town D_Town_is_house
  refine D_Town_answers.fn.ok sc_Town_answers (fun vs H Q E h => ?_) (fun cdv A outer s H vs Q E hr h => ?_)
  · obtain ⟨w, td, sd, z, r, hs, sil, TT, v, rfl, _⟩ := h
    rfl
  · obtain ⟨w, td, sd, z, r, hs, sil, TT, v, rfl, hW, h⟩ := h
    obtain ⟨⟨dx, hob⟩, htb, hsi, -⟩ := id hW
    refine ⟨_, (pss_one (ps_ret (pe_and (pe_meth (pv 0) D_Town.cl D_Town_is_house.me G_Town_is_house (hr.mono (by decide)) D_Town_is_house.b .nil pass0 (pa_cons (pv 1) pa_nil)) (pe_one (pe_cmp (pc_dnotin (hu_of hr) (pv 1) (pe_fld (pv 0) rfl))))))), ?_⟩
    walk_at "w"
    rcases h with ⟨i, rfl, k⟩ | ⟨hw, k⟩
    · refine .inl ⟨i, rfl, ?_⟩
      refine ⟨_, rfl, ?_⟩
      cases hn : (nameB z i && decide (i ∈ hs)) with
      | true =>
        rw [hn, Bool.true_and] at k
        walk_at "w"
        rw [valV_sil]
        exact k
      | false =>
        rw [hn, Bool.false_and] at k
        walk_at "w"
    · refine .inr ⟨hw, ?_⟩
      walk_at "w"
theorem sc_Town_check_house : FnScope ["self", "thing"] ["self", "thing"] (defScope (inClass (top 19) 16)) := ⟨rfl, rfl, rfl, by decide +kernel, rfl, by decide +kernel, by decide +kernel⟩
def spCheckHouse (CB CT CW : Addr) : Sp := fun vs H Q _ => ∃ (w td sd : Addr) (z r : Int) (hs sil : List Int) (T : Int → TRec) (i : Int), vs = [.ref w, .int i] ∧ TownAt CB CT CW H w td sd z r hs sil T ∧ i ∈ hs ∧ Q .non H
theorem ok_Town_check_house (T : Txt mg) {CB CT : Addr} (D_NoHouse : DfE K mg "NoHouse") (D_is_whole : Df K mg "is_whole" (top 9) ["thing"]) (D_is_name : Df K mg "is_name" (top 10) ["thing", "wide"]) (D_Town : DfC K mg "Town" ["wide", "room", "tables", "silent"]) (D_Town_is_house : DfM K D_Town.C "is_house" "Town.is_house" (inClass (top 19) 4) ["self", "thing"]) (D_Town_check_house : DfM K D_Town.C "check_house" "Town.check_house" (inClass (top 19) 16) ["self", "thing"]) : FnOk P w K mg base CX0 4 D_Town_check_house.f D_Town_check_house.fd ["self", "thing"] (spCheckHouse CB CT D_Town.C) := by
  have hcl := D_Town.cl
  have G_Town_is_house : FnOk P w K mg base CX0 3 _ _ _ _ := ok_Town_is_house (CB := CB) (CT := CT) T D_is_whole D_is_name D_Town D_Town_is_house
  refine D_Town_check_house.fn.ok sc_Town_check_house (fun vs H Q E h => ?_) (fun cdv A outer s H vs Q E hr h => ?_)
  · obtain ⟨w, td, sd, z, r, hs, sil, TT, i, rfl, _⟩ := h
    rfl
  · obtain ⟨w, td, sd, z, r, hs, sil, TT, i, rfl, hW, hi, k⟩ := h
    obtain ⟨⟨dx, hob⟩, htb, hsi, -⟩ := id hW
    have hn : nameB z i = true := nameB_of (hW.hb i hi).1 (hW.hb i hi).2 hW.z1
    refine ⟨_, (pss_one (ps_if (pt_not (pt_val (pe_meth (pv 0) D_Town.cl D_Town_is_house.me G_Town_is_house (hr.mono (by decide)) D_Town_is_house.b .nil pass0 (pa_cons (pv 1) pa_nil))))
       (pss_one (ps_raise (W := fun _ => False) D_NoHouse rfl rfl (pa_cons pe_str pa_nil) (fun _ _ _ _ _ _ _ _ _ hw => hw.elim)))
       pss_nil)), ?_⟩
    walk_at "w"
    refine .inl ⟨i, rfl, ?_⟩
    rw [hn, decide_eq_true hi]
    walk_at "w"
theorem sc_Town_check_name : FnScope ["self", "thing"] ["self", "thing"] (defScope (inClass (top 19) 15)) := ⟨rfl, rfl, rfl, by decide +kernel, rfl, by decide +kernel, by decide +kernel⟩
def spCheckName (CB CT CW : Addr) : Sp := fun vs H Q _ => ∃ (w td sd : Addr) (z r : Int) (hs sil : List Int) (T : Int → TRec) (i : Int), vs = [.ref w, .int i] ∧ TownAt CB CT CW H w td sd z r hs sil T ∧ 0 ≤ i ∧ i < 2 ^ z.toNat ∧ Q .non H
theorem ok_Town_check_name (T : Txt mg) {CB CT : Addr} (D_NoName : DfE K mg "NoName") (D_is_whole : Df K mg "is_whole" (top 9) ["thing"]) (D_is_name : Df K mg "is_name" (top 10) ["thing", "wide"]) (D_Town : DfC K mg "Town" ["wide", "room", "tables", "silent"]) (D_Town_check_name : DfM K D_Town.C "check_name" "Town.check_name" (inClass (top 19) 15) ["self", "thing"]) : FnOk P w K mg base CX0 3 D_Town_check_name.f D_Town_check_name.fd ["self", "thing"] (spCheckName CB CT D_Town.C) := by
  have hcl := D_Town.cl
  obtain ⟨na1, na2, na3, na4, -⟩ := D_Town.na
  have G_is_name : FnOk P w K mg base CX0 2 _ _ _ _ := ok_is_name T D_is_whole D_is_name
  refine D_Town_check_name.fn.ok sc_Town_check_name (fun vs H Q E h => ?_) (fun cdv A outer s H vs Q E hr h => ?_)
  · obtain ⟨w, td, sd, z, r, hs, sil, TT, i, rfl, _⟩ := h
    rfl
  · obtain ⟨w, td, sd, z, r, hs, sil, TT, i, rfl, hW, h0, h1, k⟩ := h
    obtain ⟨⟨dx, hob⟩, htb, hsi, -⟩ := id hW
    have hn : nameB z i = true := nameB_of h0 h1 hW.z1
    refine ⟨_, (pss_one (ps_if (pt_not (pt_val (pe_call G_is_name (hr.mono (by decide)) rfl D_is_name.hm D_is_name.fn.kp D_is_name.b .nil pass0 (pa_cons (pv 1) (pa_cons (pe_fld (pv 0) rfl) pa_nil)))))
       (pss_one (ps_raise (W := fun _ => False) D_NoName rfl rfl (pa_cons pe_str pa_nil) (fun _ _ _ _ _ _ _ _ _ hw => hw.elim)))
       pss_nil)), ?_⟩
    walk_at "w"
    refine .inl ⟨i, rfl, ?_⟩
    unfold nameB at hn
    rw [hn]
    walk_at "w"
theorem sc_Town_check_answering : FnScope ["self", "thing"] ["self", "thing"] (defScope (inClass (top 19) 17)) := ⟨rfl, rfl, rfl, by decide +kernel, rfl, by decide +kernel, by decide +kernel⟩
def spCheckAns (CB CT CW : Addr) : Sp := fun vs H Q _ => ∃ (w td sd : Addr) (z r : Int) (hs sil : List Int) (T : Int → TRec) (i : Int), vs = [.ref w, .int i] ∧ TownAt CB CT CW H w td sd z r hs sil T ∧ i ∈ hs ∧ i ∉ sil ∧ Q .non H
theorem ok_Town_check_answering (T : Txt mg) {CB CT : Addr} (D_NoHouse : DfE K mg "NoHouse") (D_Silent : DfE K mg "Silent") (D_is_whole : Df K mg "is_whole" (top 9) ["thing"]) (D_is_name : Df K mg "is_name" (top 10) ["thing", "wide"]) (D_Town : DfC K mg "Town" ["wide", "room", "tables", "silent"]) (D_Town_is_house : DfM K D_Town.C "is_house" "Town.is_house" (inClass (top 19) 4) ["self", "thing"]) (D_Town_answers : DfM K D_Town.C "answers" "Town.answers" (inClass (top 19) 3) ["self", "name"]) (D_Town_check_house : DfM K D_Town.C "check_house" "Town.check_house" (inClass (top 19) 16) ["self", "thing"]) (D_Town_check_answering : DfM K D_Town.C "check_answering" "Town.check_answering" (inClass (top 19) 17) ["self", "thing"]) : FnOk P w K mg base CX0 5 D_Town_check_answering.f D_Town_check_answering.fd ["self", "thing"] (spCheckAns CB CT D_Town.C) := by
  have hcl := D_Town.cl
  have G_Town_check_house : FnOk P w K mg base CX0 4 _ _ _ _ := ok_Town_check_house (CB := CB) (CT := CT) T D_NoHouse D_is_whole D_is_name D_Town D_Town_is_house D_Town_check_house
  have G_Town_answers : FnOk P w K mg base CX0 4 _ _ _ _ := ok_Town_answers (CB := CB) (CT := CT) T D_is_whole D_is_name D_Town D_Town_is_house D_Town_answers
  refine D_Town_check_answering.fn.ok sc_Town_check_answering (fun vs H Q E h => ?_) (fun cdv A outer s H vs Q E hr h => ?_)
  · obtain ⟨w, td, sd, z, r, hs, sil, TT, i, rfl, _⟩ := h
    rfl
  · obtain ⟨w, td, sd, z, r, hs, sil, TT, i, rfl, hW, hi, hns, k⟩ := h
    obtain ⟨⟨dx, hob⟩, htb, hsi, -⟩ := id hW
    have hn : nameB z i = true := nameB_of (hW.hb i hi).1 (hW.hb i hi).2 hW.z1
    refine ⟨_, (pss_cons (ps_expr (pe_meth (pv 0) D_Town.cl D_Town_check_house.me G_Town_check_house (hr.mono (by decide)) D_Town_check_house.b .nil pass0 (pa_cons (pv 1) pa_nil)))
      (pss_one (ps_if (pt_not (pt_val (pe_meth (pv 0) D_Town.cl D_Town_answers.me G_Town_answers (hr.mono (by decide)) D_Town_answers.b .nil pass0 (pa_cons (pv 1) pa_nil))))
       (pss_one (ps_raise (W := fun _ => False) D_Silent rfl rfl (pa_cons pe_str pa_nil) (fun _ _ _ _ _ _ _ _ _ hw => hw.elim)))
       pss_nil))), ?_⟩
    walk_at "w"
    refine .inl ⟨i, rfl, ?_⟩
    rw [hn, decide_eq_true hi, decide_eq_false hns]
    walk_at "w"
theorem sc_Town_houses : FnScope ["self"] ["self"] (defScope (inClass (top 19) 1)) := ⟨rfl, rfl, rfl, by decide +kernel, rfl, by decide +kernel, by decide +kernel⟩
def spHouses (CB CT CW : Addr) : Sp := fun vs H Q _ => ∃ (w td sd : Addr) (z r : Int) (hs sil : List Int) (T : Int → TRec), vs = [.ref w] ∧ TownAt CB CT CW H w td sd z r hs sil T ∧ ∀ l, H l = none → Q (.ref l) (upd H l (.lst ((sortI hs).map V.int)))
theorem ok_Town_houses (T : Txt mg) {CB CT : Addr} (D_Town : DfC K mg "Town" ["wide", "room", "tables", "silent"]) (D_Town_houses : DfM K D_Town.C "houses" "Town.houses" (inClass (top 19) 1) ["self"]) : FnOk P w K mg base CX0 1 D_Town_houses.f D_Town_houses.fd ["self"] (spHouses CB CT D_Town.C) := by
  have hcl := D_Town.cl
  obtain ⟨na1, na2, na3, na4, -⟩ := D_Town.na
  refine D_Town_houses.fn.ok sc_Town_houses (fun vs H Q E h => ?_) (fun cdv A outer s H vs Q E hr h => ?_)
  · obtain ⟨w, td, sd, z, r, hs, sil, TT, rfl, _⟩ := h
    rfl
  · obtain ⟨w, td, sd, z, r, hs, sil, TT, rfl, hW, k⟩ := h
    obtain ⟨⟨dx, hob⟩, htb, hsi, -⟩ := id hW
    have hln := hW.ln
    have hkeys : (tabsD hs TT).map (·.1) = hs.map Sum.inl := by
      unfold tabsD
      rw [List.map_map]
      rfl
    have h64 : hs.length < 64 := by omega
    refine ⟨_, (pss_one (ps_ret (pe_callB (call_sortedD rfl) rfl T.n_sorted bt_sorted (pa_cons (pe_fld (pv 0) rfl) pa_nil)))), ?_⟩
    walk_at "w"
theorem sc_Town_bucket : FnScope ["self", "house", "k"] ["self", "house", "k"] (defScope (inClass (top 19) 5)) := ⟨rfl, rfl, rfl, by decide +kernel, rfl, by decide +kernel, by decide +kernel⟩
def spTownBucket (CB CT CW : Addr) : Sp := fun vs H Q _ => ∃ (w td sd : Addr) (z r : Int) (hs sil : List Int) (T : Int → TRec) (i j : Int), vs = [.ref w, .int i, .int j] ∧ TownAt CB CT CW H w td sd z r hs sil T ∧ i ∈ hs ∧ 0 ≤ j ∧ j.toNat < z.toNat ∧
  ∀ (m : Addr) (H' : Hp), H m = none → H' m = some (.lst (((T i).ns j.toNat).map V.int)) → Same H H' → Q (.ref m) H'
theorem ok_Town_bucket (T : Txt mg) (D_NoHouse : DfE K mg "NoHouse") (D_is_whole : Df K mg "is_whole" (top 9) ["thing"]) (D_is_name : Df K mg "is_name" (top 10) ["thing", "wide"]) (D_Bucket : DfC K mg "Bucket" ["room", "order"]) (D_Bucket_names : DfM K D_Bucket.C "names" "Bucket.names" (inClass (top 14) 4) ["self"]) (D_Table : DfC K mg "Table" ["own", "wide", "room", "buckets"]) (D_Table_bucket : DfM K D_Table.C "bucket" "Table.bucket" (inClass (top 16) 4) ["self", "k"]) (D_Town : DfC K mg "Town" ["wide", "room", "tables", "silent"]) (D_Town_is_house : DfM K D_Town.C "is_house" "Town.is_house" (inClass (top 19) 4) ["self", "thing"]) (D_Town_check_house : DfM K D_Town.C "check_house" "Town.check_house" (inClass (top 19) 16) ["self", "thing"]) (D_Town_bucket : DfM K D_Town.C "bucket" "Town.bucket" (inClass (top 19) 5) ["self", "house", "k"]) : FnOk P w K mg base CX0 5 D_Town_bucket.f D_Town_bucket.fd ["self", "house", "k"] (spTownBucket D_Bucket.C D_Table.C D_Town.C) := by
  have hcl := D_Town.cl
  obtain ⟨na1, na2, na3, na4, -⟩ := D_Town.na
  have G_Table_bucket : FnOk P w K mg base CX0 2 _ _ _ _ := ok_Table_bucket T D_Bucket D_Bucket_names D_Table D_Table_bucket
  have G_Town_check_house : FnOk P w K mg base CX0 4 _ _ _ _ := ok_Town_check_house (CB := D_Bucket.C) (CT := D_Table.C) T D_NoHouse D_is_whole D_is_name D_Town D_Town_is_house D_Town_check_house
  refine D_Town_bucket.fn.ok sc_Town_bucket (fun vs H Q E h => ?_) (fun cdv A outer s H vs Q E hr h => ?_)
  · obtain ⟨w, td, sd, z, r, hs, sil, TT, i, j, rfl, _⟩ := h
    rfl
  · obtain ⟨w, td, sd, z, r, hs, sil, TT, i, j, rfl, hW, hi, hj, hj2, k⟩ := h
    obtain ⟨⟨dx, hob⟩, htb, hsi, hta, -⟩ := id hW
    have hTi := hta i hi
    obtain ⟨⟨dxi, hobi⟩, -⟩ := id hTi
    have hg : DGet H td (V.int i) (some (V.ref (TT i).t)) := by
      have := DGet.k (k := Sum.inl i) htb
      rw [valV_tabs, if_pos hi] at this
      exact this
    refine ⟨_, (pss_cons (ps_expr (pe_meth (pv 0) D_Town.cl D_Town_check_house.me G_Town_check_house (hr.mono (by decide)) D_Town_check_house.b .nil pass0 (pa_cons (pv 1) pa_nil)))
      (pss_one (ps_ret (pe_meth (pe_dget (hu_of hr) (pe_fld (pv 0) rfl) (pv 1) (fun _ _ => rfl)) D_Table.cl D_Table_bucket.me G_Table_bucket (hr.mono (by decide)) D_Table_bucket.b .nil pass0 (pa_cons (pv 2) pa_nil))))), ?_⟩
    walk_at "w"
theorem sc_Town_keeps : FnScope ["self", "house"] ["self", "house"] (defScope (inClass (top 19) 6)) := ⟨rfl, rfl, rfl, by decide +kernel, rfl, by decide +kernel, by decide +kernel⟩
def spTownKeeps (CB CT CW : Addr) : Sp := fun vs H Q _ => ∃ (w td sd : Addr) (z r : Int) (hs sil : List Int) (T : Int → TRec) (i : Int), vs = [.ref w, .int i] ∧ TownAt CB CT CW H w td sd z r hs sil T ∧ i ∈ hs ∧ (catN (T i).ns z.toNat).length < 64 ∧
  ∀ (m : Addr) (H' : Hp), H m = none → H' m = some (.lst ((sortI (catN (T i).ns z.toNat)).map V.int)) → Same H H' → Q (.ref m) H'
theorem ok_Town_keeps (T : Txt mg) (D_NoHouse : DfE K mg "NoHouse") (D_is_whole : Df K mg "is_whole" (top 9) ["thing"]) (D_is_name : Df K mg "is_name" (top 10) ["thing", "wide"]) (D_Bucket : DfC K mg "Bucket" ["room", "order"]) (D_Bucket_names : DfM K D_Bucket.C "names" "Bucket.names" (inClass (top 14) 4) ["self"]) (D_Table : DfC K mg "Table" ["own", "wide", "room", "buckets"]) (D_Table_keeps : DfM K D_Table.C "keeps" "Table.keeps" (inClass (top 16) 5) ["self"]) (D_Town : DfC K mg "Town" ["wide", "room", "tables", "silent"]) (D_Town_is_house : DfM K D_Town.C "is_house" "Town.is_house" (inClass (top 19) 4) ["self", "thing"]) (D_Town_check_house : DfM K D_Town.C "check_house" "Town.check_house" (inClass (top 19) 16) ["self", "thing"]) (D_Town_keeps : DfM K D_Town.C "keeps" "Town.keeps" (inClass (top 19) 6) ["self", "house"]) : FnOk P w K mg base CX0 5 D_Town_keeps.f D_Town_keeps.fd ["self", "house"] (spTownKeeps D_Bucket.C D_Table.C D_Town.C) := by
  have hcl := D_Town.cl
  obtain ⟨na1, na2, na3, na4, -⟩ := D_Town.na
  have G_Table_keeps : FnOk P w K mg base CX0 2 _ _ _ _ := ok_Table_keeps T D_Bucket D_Bucket_names D_Table D_Table_keeps
  have G_Town_check_house : FnOk P w K mg base CX0 4 _ _ _ _ := ok_Town_check_house (CB := D_Bucket.C) (CT := D_Table.C) T D_NoHouse D_is_whole D_is_name D_Town D_Town_is_house D_Town_check_house
  refine D_Town_keeps.fn.ok sc_Town_keeps (fun vs H Q E h => ?_) (fun cdv A outer s H vs Q E hr h => ?_)
  · obtain ⟨w, td, sd, z, r, hs, sil, TT, i, rfl, _⟩ := h
    rfl
  · obtain ⟨w, td, sd, z, r, hs, sil, TT, i, rfl, hW, hi, hlen, k⟩ := h
    obtain ⟨⟨dx, hob⟩, htb, hsi, hta, -⟩ := id hW
    have hTi := hta i hi
    obtain ⟨⟨dxi, hobi⟩, -⟩ := id hTi
    have hg : DGet H td (V.int i) (some (V.ref (TT i).t)) := by
      have := DGet.k (k := Sum.inl i) htb
      rw [valV_tabs, if_pos hi] at this
      exact this
    refine ⟨_, (pss_cons (ps_expr (pe_meth (pv 0) D_Town.cl D_Town_check_house.me G_Town_check_house (hr.mono (by decide)) D_Town_check_house.b .nil pass0 (pa_cons (pv 1) pa_nil)))
      (pss_one (ps_ret (pe_meth0 (pe_dget (hu_of hr) (pe_fld (pv 0) rfl) (pv 1) (fun _ _ => rfl)) D_Table.cl D_Table_keeps.me G_Table_keeps (hr.mono (by decide)) D_Table_keeps.b .nil pass0)))), ?_⟩
    walk_at "w"
end
local macro_rules | `(tactic| walk_at "fld") => `(tactic| first | exact bF_room _ _ | exact bF_order _ _ | exact bF_full _ _ | exact bF_hears _ _ | exact bF_drops _ _ | exact bF_names _ _ | exact flat_ints _)
local macro_rules | `(tactic| walk_at "fld") => `(tactic| first | exact tF_own _ _ _ _ | exact tF_wide _ _ _ _ | exact tF_room _ _ _ _ | exact tF_buckets _ _ _ _ | exact tF_n1 _ _ _ _ | exact tF_n2 _ _ _ _ | exact tF_n3 _ _ _ _ | exact tF_n4 _ _ _ _ | exact tF_n5 _ _ _ _ | exact tF_n6 _ _ _ _)
local macro_rules | `(tactic| walk_at "fld") => `(tactic| first | exact wF_wide _ _ _ _ | exact wF_room _ _ _ _ | exact wF_tables _ _ _ _ | exact wF_silent _ _ _ _ | exact wF_m _ (by decide +kernel) _ _ _ _ | exact DGet.k (k := Sum.inl _) (by walk_at "hp"))
def sizeV (v : V) (most : Int) : Bool := match v with | .int i => decide (1 ≤ i) && decide (i ≤ most) | _ => false
def Kinded (K : PySem.W.Frag) (H : Hp) (v : V) : Prop := (∃ i, v = .int i) ∨ NotWhole K H v ∧ ∀ i, v ≠ .int i
def spIsSize (K : PySem.W.Frag) : Sp := fun vs H Q _ => ∃ (v : V) (m : Int), vs = [v, .int m] ∧ Kinded K H v ∧ Q (.bl (sizeV v m)) H
section
variable {P : Program} {w : World} {K : PySem.W.Frag} {mg : Str → Option Value} {base : Heap}
theorem sc_is_size : FnScope ["thing", "most"] ["thing", "most"] (defScope (top 18)) := ⟨rfl, rfl, rfl, by decide +kernel, rfl, by decide +kernel, by decide +kernel⟩
theorem ok_is_size (T : Txt mg) (D_is_whole : Df K mg "is_whole" (top 9) ["thing"]) (D : Df K mg "is_size" (top 18) ["thing", "most"]) : FnOk P w K mg base CX0 2 D.f D.fd ["thing", "most"] (spIsSize K) := by
  have G_is_whole : FnOk P w K mg base CX0 1 _ _ _ _ := ok_is_whole T D_is_whole
  refine D.fn.ok sc_is_size (fun vs H Q E h => ?_) (fun cdv A outer s H vs Q E hr h => ?_)
  · obtain ⟨v, m, rfl, _⟩ := h
    rfl
  · obtain ⟨v, m, rfl, hk, k⟩ := h
    refine ⟨_, (pss_one (ps_ret (pe_and (pe_call G_is_whole (hr.mono (by decide)) rfl D_is_whole.hm D_is_whole.fn.kp D_is_whole.b .nil pass0 (pa_cons (pv 0) pa_nil)) (pe_one (pe_chain op_le op_le pe_int (pv 0) (pv 1)))))), ?_⟩
    rcases hk with ⟨i, rfl⟩ | ⟨hw, hni⟩
    · refine ⟨_, rfl, _, rfl, .inl ⟨⟨i, rfl⟩, ?_⟩⟩
      walk_at "w"
      have k : Q (.bl (decide (1 ≤ i) && decide (i ≤ m))) H := k
      by_cases h1 : 1 ≤ i
      · rw [decide_eq_true h1, Bool.true_and] at k
        refine iteD h1 ?_
        walk_at "w"
      · rw [decide_eq_false h1, Bool.false_and] at k
        refine iteDn h1 ?_
        exact k
    · have e : sizeV v m = false := by
        cases v <;> first | rfl | exact absurd rfl (hni _)
      rw [e] at k
      refine ⟨_, rfl, _, rfl, .inr ⟨hw, ?_⟩⟩
      walk_at "w"
theorem sc_Town___init__ : FnScope ["self", "wide", "room"] ["self", "wide", "room"] (defScope (inClass (top 19) 0)) := ⟨rfl, rfl, rfl, by decide +kernel, rfl, by decide +kernel, by decide +kernel⟩
def spWInit (CB CT CW : Addr) : Sp := fun vs H Q _ => ∃ (w dx : Addr) (z r : Int), vs = [.ref w, .int z, .int r] ∧ H w = some (.ins CW dx []) ∧ 1 ≤ z ∧ z ≤ 60 ∧ 1 ≤ r ∧ r ≤ 8 ∧
  ∀ (td sd : Addr) (H' : Hp) (T : Int → TRec), TownAt CB CT CW H' w td sd z r [] [] T → H td = none → H sd = none → td ≠ sd → But1 w H H' → Q .non H'
theorem ok_Town_init (T : Txt mg) {CB CT : Addr} (D_NoSize : DfE K mg "NoSize") (D_is_whole : Df K mg "is_whole" (top 9) ["thing"]) (D_is_size : Df K mg "is_size" (top 18) ["thing", "most"]) (D_Town : DfC K mg "Town" ["wide", "room", "tables", "silent"]) (D_Town___init__ : DfM K D_Town.C "__init__" "Town.__init__" (inClass (top 19) 0) ["self", "wide", "room"]) : FnOk P w K mg base CX0 3 D_Town___init__.f D_Town___init__.fd ["self", "wide", "room"] (spWInit CB CT D_Town.C) := by
  have hcl := D_Town.cl
  obtain ⟨na1, na2, na3, na4, -⟩ := D_Town.na
  have G_is_size : FnOk P w K mg base CX0 2 _ _ _ _ := ok_is_size T D_is_whole D_is_size
  refine D_Town___init__.fn.ok sc_Town___init__ (fun vs H Q E h => ?_) (fun cdv A outer s H vs Q E hr h => ?_)
  · obtain ⟨w, dx, z, r, rfl, _⟩ := h
    rfl
  · obtain ⟨w, dx, z, r, rfl, hw, hz1, hz2, hr1, hr2, k⟩ := h
    have e1 : sizeV (.int z) 60 = true := by
      show (decide (1 ≤ z) && decide (z ≤ 60)) = true
      rw [decide_eq_true hz1, decide_eq_true hz2]
      rfl
    have e2 : sizeV (.int r) 8 = true := by
      show (decide (1 ≤ r) && decide (r ≤ 8)) = true
      rw [decide_eq_true hr1, decide_eq_true hr2]
      rfl
    have kd1 : Kinded K H (.int z) := .inl ⟨z, rfl⟩
    have kd2 : Kinded K H (.int r) := .inl ⟨r, rfl⟩
    refine ⟨_, (pss_cons (ps_if (pt_not (pt_val (pe_call G_is_size (hr.mono (by decide)) rfl D_is_size.hm D_is_size.fn.kp D_is_size.b .nil pass0 (pa_cons (pv 1) (pa_cons pe_int pa_nil)))))
       (pss_one (ps_raise (W := fun _ => False) D_NoSize rfl rfl (pa_cons pe_str pa_nil) (fun _ _ _ _ _ _ _ _ _ hw => hw.elim)))
       pss_nil)
      (pss_cons (ps_if (pt_not (pt_val (pe_call G_is_size (hr.mono (by decide)) rfl D_is_size.hm D_is_size.fn.kp D_is_size.b .nil pass0 (pa_cons (pv 2) (pa_cons pe_int pa_nil)))))
       (pss_one (ps_raise (W := fun _ => False) D_NoSize rfl rfl (pa_cons pe_str pa_nil) (fun _ _ _ _ _ _ _ _ _ hw => hw.elim)))
       pss_nil)
      (pss_cons (ps_fld (pv 0) (pv 1) rfl)
      (pss_cons (ps_fld (pv 0) (pv 2) rfl)
      (pss_cons (ps_fld (pv 0) pe_dnewK rfl)
      (pss_one (ps_fld (pv 0) pe_dnewK rfl))))))), ?_⟩
    walk_at "w"
    rw [e1]
    walk_at "w"
    rw [e2]
    walk_at "w"
    intro td htd
    have ntw : td ≠ w := (ne_of_none upd_same htd).symm
    have htd0 : H td = none := by rw [upd_ne ntw, upd_ne ntw] at htd; exact htd
    walk_at "w"
    intro sd hsd
    have nsw : sd ≠ w := fun e => by rw [e, upd_same] at hsd; cases hsd
    have nst : td ≠ sd := fun e => by rw [← e, upd_ne ntw, upd_same] at hsd; cases hsd
    have hsd0 : H sd = none := by rw [upd_ne nsw, upd_ne nst.symm, upd_ne nsw, upd_ne nsw] at hsd; exact hsd
    walk_at "w"
    refine k td sd _ (fun _ => ⟨0, 0, fun _ => 0, fun _ => 0, fun _ => []⟩) ⟨⟨dx, ?_⟩, ?_, ?_, fun h hh => (nomatch hh), List.nodup_nil, fun h hh => (nomatch hh), hz1, hz2, hr1, hr2, by decide, nst⟩ htd0 hsd0 nst fun c o e hc => ?_
    · rw [upd_same, wF_new]
    · rw [upd_ne ntw, upd_ne nst, upd_ne ntw, upd_same]
      rfl
    · rw [upd_ne nsw, upd_same]
      rfl
    · rw [upd_ne hc, upd_ne (ne_of_none e hsd0), upd_ne hc, upd_ne (ne_of_none e htd0), upd_ne hc, upd_ne hc]
      exact e
end
local macro_rules | `(tactic| walk_at "fld") => `(tactic| first | exact bF_room _ _ | exact bF_order _ _ | exact bF_full _ _ | exact bF_hears _ _ | exact bF_drops _ _ | exact bF_names _ _ | exact flat_ints _)
local macro_rules | `(tactic| walk_at "fld") => `(tactic| first | exact tF_own _ _ _ _ | exact tF_wide _ _ _ _ | exact tF_room _ _ _ _ | exact tF_buckets _ _ _ _ | exact tF_n1 _ _ _ _ | exact tF_n2 _ _ _ _ | exact tF_n3 _ _ _ _ | exact tF_n4 _ _ _ _ | exact tF_n5 _ _ _ _ | exact tF_n6 _ _ _ _)
local macro_rules | `(tactic| walk_at "fld") => `(tactic| first | exact wF_wide _ _ _ _ | exact wF_room _ _ _ _ | exact wF_tables _ _ _ _ | exact wF_silent _ _ _ _ | exact wF_m _ (by decide +kernel) _ _ _ _ | exact DGet.k (k := Sum.inl _) (by walk_at "hp"))
theorem TabAt.keepD {CB CT t bl : Addr} {own z r : Int} {n : Nat} {bA lA : Nat → Addr} {ns : Nat → List Int} {H H' : Hp} (T : TabAt CB CT H t bl own z r n bA lA ns) (s : ∀ q o, (∀ ps, o ≠ .tbl ps) → (∀ d, o ≠ .dK d) → H q = some o → H' q = some o) : TabAt CB CT H' t bl own z r n bA lA ns := by
  obtain ⟨⟨dx, h1⟩, h2, h3, h4, h5, h6⟩ := T
  refine ⟨⟨dx, s _ _ (fun _ z => nomatch z) (fun _ z => nomatch z) h1⟩, s _ _ (fun _ z => nomatch z) (fun _ z => nomatch z) h2, fun k hk => ?_, h4, h5, h6⟩
  obtain ⟨⟨dx, b1⟩, b2⟩ := h3 k hk
  exact ⟨⟨dx, s _ _ (fun _ z => nomatch z) (fun _ z => nomatch z) b1⟩, s _ _ (fun _ z => nomatch z) (fun _ z => nomatch z) b2⟩
section
variable {P : Program} {w : World} {K : PySem.W.Frag} {mg : Str → Option Value} {base : Heap}
def spSettles : Sp := fun vs H Q _ => ∃ a b c : V, vs = [a, b, c] ∧ Q .non H
theorem sc_Town_settles : FnScope ["self", "house", "visited"] ["self", "house", "visited"] (defScope (inClass (top 19) 19)) := ⟨rfl, rfl, rfl, by decide +kernel, rfl, by decide +kernel, by decide +kernel⟩
theorem ok_Town_settles {CW : Addr} (D : DfM K CW "settles" "Town.settles" (inClass (top 19) 19) ["self", "house", "visited"]) : FnOk P w K mg base CX0 1 D.f D.fd ["self", "house", "visited"] spSettles := by
  refine D.fn.ok sc_Town_settles (fun vs H Q E h => ?_) (fun cdv A outer s H vs Q E hr h => ?_)
  · obtain ⟨a, b, c, rfl, _⟩ := h
    rfl
  · obtain ⟨a, b, c, rfl, k⟩ := h
    exact ⟨_, (pss_one ps_pass), k⟩
theorem sc_Town_answering : FnScope ["self"] ["self"] (defScope (inClass (top 19) 2)) := ⟨rfl, rfl, rfl, by decide +kernel, rfl, by decide +kernel, by decide +kernel⟩
def spAnswering (CB CT CW : Addr) : Sp := fun vs H Q _ => ∃ (w td sd : Addr) (z r : Int) (hs sil : List Int) (T : Int → TRec), vs = [.ref w] ∧ TownAt CB CT CW H w td sd z r hs sil T ∧ ∀ (l : Addr) (H' : Hp), Same H H' → H l = none → H' l = some (.lst (((sortI hs).filter fun h => !decide (h ∈ sil)).map V.int)) → Q (.ref l) H'
theorem ok_Town_answering (T : Txt mg) {CB CT : Addr} (D_is_whole : Df K mg "is_whole" (top 9) ["thing"]) (D_is_name : Df K mg "is_name" (top 10) ["thing", "wide"]) (D_Town : DfC K mg "Town" ["wide", "room", "tables", "silent"]) (D_Town_is_house : DfM K D_Town.C "is_house" "Town.is_house" (inClass (top 19) 4) ["self", "thing"]) (D_Town_answers : DfM K D_Town.C "answers" "Town.answers" (inClass (top 19) 3) ["self", "name"]) (D_Town_houses : DfM K D_Town.C "houses" "Town.houses" (inClass (top 19) 1) ["self"]) (D_Town_answering : DfM K D_Town.C "answering" "Town.answering" (inClass (top 19) 2) ["self"]) : FnOk P w K mg base CX0 5 D_Town_answering.f D_Town_answering.fd ["self"] (spAnswering CB CT D_Town.C) := by
  have hcl := D_Town.cl
  have G_Town_houses : FnOk P w K mg base CX0 1 _ _ _ _ := ok_Town_houses (CB := CB) (CT := CT) T D_Town D_Town_houses
  have G_Town_answers : FnOk P w K mg base CX0 4 _ _ _ _ := ok_Town_answers (CB := CB) (CT := CT) T D_is_whole D_is_name D_Town D_Town_is_house D_Town_answers
  refine D_Town_answering.fn.ok sc_Town_answering (fun vs H Q E h => ?_) (fun cdv A outer s H vs Q E hr h => ?_)
  · obtain ⟨w, td, sd, z, r, hs, sil, TT, rfl, _⟩ := h
    rfl
  · obtain ⟨w, td, sd, z, r, hs, sil, TT, rfl, hW, k⟩ := h
    obtain ⟨⟨dx, hob⟩, htb, hsi, -⟩ := id hW
    have hln := hW.ln
    refine ⟨_, (pss_one (ps_ret (pe_comp rfl (compText_of (own := ["house"]) (caps := [0]) (N' := ["house", "self"]) (by kernel_rfl)) (pi_list (pe_meth0 (pv 0) D_Town.cl D_Town_houses.me G_Town_houses (hr.mono (by decide)) D_Town_houses.b .nil pass0)) (fun _ _ _ _ _ => (pg_name (i := 0) (show (["house", "self"] : List Str).Nodup by decide +kernel) rfl (Or.inl rfl))) (fun _ _ _ _ _ => (pts_one (pt_val (pe_meth (pv 1) D_Town.cl D_Town_answers.me G_Town_answers (hr.mono (by decide)) D_Town_answers.b .nil pass0 (pa_cons (pv 0) pa_nil))))) (fun _ _ _ _ _ => (pv 0))))), ?_⟩
    walk_at "w"
    intro l hl
    walk_at "w"
    intro D hD
    have s1 : Same H (upd H l (.lst ((sortI hs).map V.int))) := Same.new H hl
    have hl1 : upd H l (.lst ((sortI hs).map V.int)) l = some (.lst ((sortI hs).map V.int)) := upd_same
    generalize upd H l (.lst ((sortI hs).map V.int)) = H1 at s1 hl1 hD ⊢
    refine comp_filter (fun h => !decide (h ∈ sil)) hD (SqL.of hl1) (by rw [sortI_len]; omega) (fun x hx H2 Qt s2 q => ?_) fun H2 s2 hD2 => ?_
    · have hx' : x ∈ hs := (sortI_perm hs).subset hx
      have hW2 : TownAt CB CT D_Town.C H2 w td sd z r hs sil TT := hW.keep fun q o _ e => s2 _ _ (s1 _ _ e)
      obtain ⟨⟨dx2, hob2⟩, -⟩ := id hW2
      have hn : nameB z x = true := nameB_of (hW.hb x hx').1 (hW.hb x hx').2 hW.z1
      walk_at "w"
      refine .inl ⟨x, rfl, ?_⟩
      rw [hn, decide_eq_true hx', Bool.true_and, Bool.true_and]
      walk_at "w"
      exact q H2 (Same.refl H2)
    · exact k D H2 (s1.trans s2) (s1.free hD) hD2
end
theorem Tab.hold {T1 : Addr} {po : Pos} {qu : Str} {H H' : Hp} (t : Tab H T1 po qu) (s : ∀ q o, ((∃ x k, o = .frz x k) ∨ q = T1) → H q = some o → H' q = some o) : Tab H' T1 po qu := by
  obtain ⟨ps, h1, h2, z⟩ := t
  refine ⟨ps, s _ _ (.inr rfl) h1, h2, ?_⟩
  rcases z with z | ⟨c', oc, k, z1, z2, z3⟩
  · exact .inl z
  · exact .inr ⟨c', oc, k, z1, s _ _ (.inl ⟨_, _, rfl⟩) z2, z3⟩
def hearL (r : Int) (aw : Int → Bool) (ns : List Int) (n : Int) : List Int :=
  if n ∈ ns then ns.erase n ++ [n] else if (ns.length : Int) < r then ns ++ [n] else match ns with | [] => [] | x :: t => t ++ [if aw x then x else n]
def setH {α : Type} (N : Int → α) (h : Int) (x : α) : Int → α := fun g => if g = h then x else N g
theorem setH_same {α : Type} {N : Int → α} {h : Int} {x : α} : setH N h x h = x := if_pos rfl
theorem setH_ne {α : Type} {N : Int → α} {h g : Int} {x : α} (e : g ≠ h) : setH N h x g = N g := if_neg e
def hearN (r : Int) (aw : Int → Bool) (N : Int → Nat → List Int) (h n : Int) : Int → Nat → List Int := setH N h (fset (N h) (stepN h n) (hearL r aw (N h (stepN h n)) n))
def meetN (r : Int) (aw : Int → Bool) (N : Int → Nat → List Int) (a b : Int) : Int → Nat → List Int := hearN r aw (hearN r aw N a b) b a
def meetAll (r : Int) (aw : Int → Bool) (N : Int → Nat → List Int) (a : Int) : List Int → Int → Nat → List Int
  | [] => N
  | b :: t => meetAll r aw (meetN r aw N a b) a t
theorem meetAll_snoc {r : Int} {aw : Int → Bool} {a b : Int} : ∀ {l : List Int} {N : Int → Nat → List Int}, meetAll r aw N a (l ++ [b]) = meetN r aw (meetAll r aw N a l) a b
  | [], _ => rfl
  | _ :: t, _ => meetAll_snoc (l := t)
theorem hearL_mem {r : Int} {aw : Int → Bool} {ns : List Int} {n m : Int} (h : m ∈ hearL r aw ns n) : m ∈ ns ∨ m = n := by
  unfold hearL at h
  split at h
  · rcases List.mem_append.mp h with h | h
    · exact .inl (List.mem_of_mem_erase h)
    · exact .inr (List.mem_singleton.mp h)
  · split at h
    · rcases List.mem_append.mp h with h | h
      · exact .inl h
      · exact .inr (List.mem_singleton.mp h)
    · split at h
      · cases h
      · rename_i x t _ _
        rcases List.mem_append.mp h with h | h
        · exact .inl (List.mem_cons_of_mem _ h)
        · have e := List.mem_singleton.mp h
          split at e
          · exact .inl (e ▸ List.mem_cons_self ..)
          · exact .inr e
theorem snoc_nodup {l : List Int} {x : Int} (h : l.Nodup) (hx : x ∉ l) : (l ++ [x]).Nodup := List.nodup_append.mpr ⟨h, by simp, fun a ha b hb e => hx (by rw [← List.mem_singleton.mp hb, ← e]; exact ha)⟩
theorem hearL_nodup {r : Int} {aw : Int → Bool} {ns : List Int} {n : Int} (h : ns.Nodup) : (hearL r aw ns n).Nodup := by
  unfold hearL
  split
  · exact snoc_nodup (h.erase n) (List.Nodup.not_mem_erase h)
  · rename_i hn
    split
    · exact snoc_nodup h hn
    · split
      · exact List.nodup_nil
      · obtain ⟨h1, h2⟩ := List.nodup_cons.mp h
        split
        · exact snoc_nodup h2 h1
        · exact snoc_nodup h2 fun z => hn (List.mem_cons_of_mem _ z)
theorem hearL_len {r : Int} {aw : Int → Bool} {ns : List Int} {n : Int} (hr : 1 ≤ r) (h : (ns.length : Int) ≤ r) : ((hearL r aw ns n).length : Int) ≤ r := by
  unfold hearL
  split
  · rename_i hn
    have := List.length_erase_of_mem hn
    have := List.length_pos_of_mem hn
    rw [List.length_append, List.length_singleton]
    omega
  · split
    · rw [List.length_append, List.length_singleton]
      omega
    · split
      · simp only [List.length_nil]
        omega
      · rw [List.length_append, List.length_singleton]
        rw [List.length_cons] at h
        exact h
structure NOk (pool : List Int) (z : Nat) (r : Int) (hs : List Int) (N : Int → Nat → List Int) : Prop where
  nd : ∀ h ∈ hs, ∀ k, (N h k).Nodup
  le : ∀ h ∈ hs, ∀ k, ((N h k).length : Int) ≤ r
  st : ∀ h ∈ hs, ∀ k, ∀ m ∈ N h k, m ∈ pool ∧ m ≠ h ∧ stepN h m = k
theorem NOk.hear {pool : List Int} {z : Nat} {r : Int} {hs : List Int} {N : Int → Nat → List Int} (O : NOk pool z r hs N) (hr : 1 ≤ r) {aw : Int → Bool} {a b : Int} (hb : b ∈ pool) (hne : b ≠ a) : NOk pool z r hs (hearN r aw N a b) := by
  unfold hearN
  refine ⟨fun h hh k => ?_, fun h hh k => ?_, fun h hh k m hm => ?_⟩
  · by_cases e : h = a
    · subst e
      rw [setH_same]
      by_cases e2 : k = stepN h b
      · subst e2
        rw [fset_same]
        exact hearL_nodup (O.nd h hh _)
      · rw [fset_ne e2]
        exact O.nd h hh _
    · rw [setH_ne e]
      exact O.nd h hh _
  · by_cases e : h = a
    · subst e
      rw [setH_same]
      by_cases e2 : k = stepN h b
      · subst e2
        rw [fset_same]
        exact hearL_len hr (O.le h hh _)
      · rw [fset_ne e2]
        exact O.le h hh _
    · rw [setH_ne e]
      exact O.le h hh _
  · by_cases e : h = a
    · subst e
      rw [setH_same] at hm
      by_cases e2 : k = stepN h b
      · subst e2
        rw [fset_same] at hm
        rcases hearL_mem hm with y | rfl
        · exact O.st h hh _ m y
        · exact ⟨hb, hne, rfl⟩
      · rw [fset_ne e2] at hm
        exact O.st h hh _ m hm
    · rw [setH_ne e] at hm
      exact O.st h hh _ m hm
theorem NOk.meet {pool : List Int} {z : Nat} {r : Int} {hs : List Int} {N : Int → Nat → List Int} (O : NOk pool z r hs N) (hr : 1 ≤ r) {aw : Int → Bool} {a b : Int} (ha : a ∈ pool) (hb : b ∈ pool) (hne : b ≠ a) : NOk pool z r hs (meetN r aw N a b) := (O.hear hr hb hne).hear hr ha hne.symm
theorem mem_catN {ns : Nat → List Int} {m : Int} : ∀ {n : Nat}, m ∈ catN ns n ↔ ∃ k, k < n ∧ m ∈ ns k
  | 0 => ⟨fun h => (nomatch h), fun ⟨k, h, _⟩ => absurd h (Nat.not_lt_zero k)⟩
  | n + 1 => by
    rw [catN_succ, List.mem_append, mem_catN (n := n)]
    constructor
    · rintro (⟨k, h1, h2⟩ | h)
      · exact ⟨k, Nat.lt_succ_of_lt h1, h2⟩
      · exact ⟨n, Nat.lt_succ_self n, h⟩
    · rintro ⟨k, h1, h2⟩
      by_cases e : k = n
      · subst e
        exact .inr h2
      · exact .inl ⟨k, by omega, h2⟩
theorem catN_nodup {ns : Nat → List Int} {st : Int → Nat} (h1 : ∀ k, (ns k).Nodup) (h2 : ∀ k, ∀ m ∈ ns k, st m = k) : ∀ {n : Nat}, (catN ns n).Nodup
  | 0 => List.nodup_nil
  | n + 1 => by
    rw [catN_succ]
    refine List.nodup_append.mpr ⟨catN_nodup h1 h2, h1 n, fun a ha b hb e => ?_⟩
    subst e
    obtain ⟨k, hk, hm⟩ := mem_catN.mp ha
    have := h2 k a hm
    have := h2 n a hb
    omega
theorem NOk.cat {pool : List Int} {z : Nat} {r : Int} {hs : List Int} {N : Int → Nat → List Int} (O : NOk pool z r hs N) {h : Int} (hh : h ∈ hs) (n : Nat) : (catN (N h) n).Nodup := catN_nodup (st := stepN h) (O.nd h hh) fun k m hm => (O.st h hh k m hm).2.2
theorem len_of_sub : ∀ {a b : List Int}, a.Nodup → (∀ x ∈ a, x ∈ b) → a.length ≤ b.length
  | [], _, _, _ => Nat.zero_le _
  | x :: a, b, h, s => by
    obtain ⟨h1, h2⟩ := List.nodup_cons.mp h
    have hx := s x (List.mem_cons_self ..)
    have := len_of_sub (b := b.erase x) h2 fun y hy => (List.mem_erase_of_ne (fun (e : y = x) => h1 (by rw [← e]; exact hy))).mpr (s y (List.mem_cons_of_mem _ hy))
    have e := List.length_erase_of_mem hx
    have := List.length_pos_of_mem hx
    rw [List.length_cons]
    omega
theorem NOk.len {pool : List Int} {z : Nat} {r : Int} {hs : List Int} {N : Int → Nat → List Int} (O : NOk pool z r hs N) {h : Int} (hh : h ∈ hs) (n : Nat) : (catN (N h) n).length ≤ pool.length :=
  len_of_sub (O.cat hh n) fun x hx => by
    obtain ⟨k, _, hm⟩ := mem_catN.mp hx
    exact (O.st h hh k x hm).1
theorem sortI_eq {a b : List Int} (p : a.Perm b) : sortI a = sortI b := sortI_of ((sortI_perm a).trans p) (sortI_sorted a)
theorem perm_of {a b : List Int} (ha : a.Nodup) (hb : b.Nodup) (h : ∀ x, x ∈ a ↔ x ∈ b) : a.Perm b := (List.perm_ext_iff_of_nodup ha hb).mpr h
inductive Rch (E : Int → Int → Prop) (d : Int) : Int → Prop where
  | own : Rch E d d
  | go {a b : Int} : Rch E d a → E a b → Rch E d b
theorem Rch.of_closed {E : Int → Int → Prop} {d : Int} {ks : List Int} (hd : d ∈ ks) (hc : ∀ a ∈ ks, ∀ b, E a b → b ∈ ks) {x : Int} (h : Rch E d x) : x ∈ ks := by
  induction h with
  | own => exact hd
  | go _ e ih => exact hc _ ih _ e
def edge (z : Nat) (aw : Int → Bool) (N : Int → Nat → List Int) (a b : Int) : Prop := b ∈ catN (N a) z ∧ aw b = true
def passK (aw : Int → Bool) (f : List Int) (xs : List Int) : List Int := xs.foldl (fun f o => if aw o && !decide (o ∈ f) then f ++ [o] else f) f
theorem passK_snoc {aw : Int → Bool} {f xs : List Int} {o : Int} : passK aw f (xs ++ [o]) = if aw o && !decide (o ∈ passK aw f xs) then passK aw f xs ++ [o] else passK aw f xs := by
  unfold passK
  rw [List.foldl_append]
  rfl
structure Grown (R : Int → Prop) (f g : List Int) : Prop where
  sub : ∀ x ∈ f, x ∈ g
  nd : g.Nodup
  re : ∀ x ∈ g, R x
  le : f = g ∨ f.length < g.length
theorem Grown.refl {R : Int → Prop} {f : List Int} (h1 : f.Nodup) (h2 : ∀ x ∈ f, R x) : Grown R f f := ⟨fun _ h => h, h1, h2, .inl rfl⟩
theorem Grown.trans {R : Int → Prop} {f g h : List Int} (a : Grown R f g) (b : Grown R g h) : Grown R f h :=
  ⟨fun x hx => b.sub x (a.sub x hx), b.nd, b.re, by
    rcases a.le with rfl | a1
    · exact b.le
    · rcases b.le with rfl | b1
      · exact .inr a1
      · exact .inr (Nat.lt_trans a1 b1)⟩
theorem Grown.snoc {R : Int → Prop} {f : List Int} {o : Int} (h1 : f.Nodup) (h2 : ∀ x ∈ f, R x) (ho : o ∉ f) (hR : R o) : Grown R f (f ++ [o]) :=
  ⟨fun x hx => List.mem_append_left _ hx, snoc_nodup h1 ho, fun x hx => (List.mem_append.mp hx).elim (h2 x) fun z => List.mem_singleton.mp z ▸ hR, .inr (by rw [List.length_append, List.length_singleton]; omega)⟩
theorem passK_grown {R : Int → Prop} {aw : Int → Bool} : ∀ {xs f : List Int}, f.Nodup → (∀ x ∈ f, R x) → (∀ x ∈ xs, aw x = true → R x) → Grown R f (passK aw f xs) ∧ ∀ x ∈ xs, aw x = true → x ∈ passK aw f xs
  | [], f, h1, h2, _ => ⟨Grown.refl h1 h2, fun x hx => (nomatch hx)⟩
  | o :: xs, f, h1, h2, h3 => by
    show Grown R f (passK aw (if aw o && !decide (o ∈ f) then f ++ [o] else f) xs) ∧ ∀ x ∈ o :: xs, aw x = true → x ∈ passK aw (if aw o && !decide (o ∈ f) then f ++ [o] else f) xs
    have g1 : Grown R f (if aw o && !decide (o ∈ f) then f ++ [o] else f) := by
      split
      · rename_i e
        simp only [Bool.and_eq_true, Bool.not_eq_true', decide_eq_false_iff_not] at e
        exact Grown.snoc h1 h2 e.2 (h3 o (List.mem_cons_self ..) e.1)
      · exact Grown.refl h1 h2
    have ho : aw o = true → o ∈ (if aw o && !decide (o ∈ f) then f ++ [o] else f) := fun e => by
      by_cases m : o ∈ f
      · exact g1.sub o m
      · rw [if_pos (by simp [e, m])]
        exact List.mem_append_right _ (List.mem_singleton.mpr rfl)
    obtain ⟨g2, i2⟩ := passK_grown g1.nd g1.re fun x hx => h3 x (List.mem_cons_of_mem _ hx)
    refine ⟨g1.trans g2, fun x hx hax => ?_⟩
    rcases List.mem_cons.mp hx with rfl | hx
    · exact g2.sub _ (ho hax)
    · exact i2 x hx hax
def passA (aw : Int → Bool) (kp : Int → List Int) (f : List Int) (xs : List Int) : List Int := xs.foldl (fun f h => passK aw f (kp h)) f
theorem passA_snoc {aw : Int → Bool} {kp : Int → List Int} {f xs : List Int} {o : Int} : passA aw kp f (xs ++ [o]) = passK aw (passA aw kp f xs) (kp o) := by
  unfold passA
  rw [List.foldl_append]
  rfl
theorem passA_grown {R : Int → Prop} {aw : Int → Bool} {kp : Int → List Int} (hR : ∀ a, R a → ∀ x ∈ kp a, aw x = true → R x) : ∀ {xs f : List Int}, f.Nodup → (∀ x ∈ f, R x) → (∀ x ∈ xs, R x) → Grown R f (passA aw kp f xs) ∧ ∀ a ∈ xs, ∀ x ∈ kp a, aw x = true → x ∈ passA aw kp f xs
  | [], f, h1, h2, _ => ⟨Grown.refl h1 h2, fun x hx => (nomatch hx)⟩
  | o :: xs, f, h1, h2, h3 => by
    show Grown R f (passA aw kp (passK aw f (kp o)) xs) ∧ ∀ a ∈ o :: xs, ∀ x ∈ kp a, aw x = true → x ∈ passA aw kp (passK aw f (kp o)) xs
    obtain ⟨g1, i1⟩ := passK_grown h1 h2 (hR o (h3 o (List.mem_cons_self ..)))
    obtain ⟨g2, i2⟩ := passA_grown hR g1.nd g1.re fun x hx => h3 x (List.mem_cons_of_mem _ hx)
    refine ⟨g1.trans g2, fun a ha x hx hax => ?_⟩
    rcases List.mem_cons.mp ha with rfl | ha
    · exact g2.sub _ (i1 x hx hax)
    · exact i2 a ha x hx hax
def turnsL (aw : Int → Bool) (kp : Int → List Int) (d : Int) : Nat → List Int
  | 0 => [d]
  | n + 1 => passA aw kp (turnsL aw kp d n) (turnsL aw kp d n)
theorem turns_ok {R : Int → Prop} {aw : Int → Bool} {kp : Int → List Int} {d : Int} (hd : R d) (hR : ∀ a, R a → ∀ x ∈ kp a, aw x = true → R x) : ∀ n, (turnsL aw kp d n).Nodup ∧ (∀ x ∈ turnsL aw kp d n, R x) ∧ d ∈ turnsL aw kp d n
  | 0 => ⟨by simp [turnsL], fun x hx => List.mem_singleton.mp hx ▸ hd, List.mem_singleton.mpr rfl⟩
  | n + 1 => by
    obtain ⟨h1, h2, h3⟩ := turns_ok hd hR n
    obtain ⟨g, _⟩ := passA_grown hR h1 h2 h2
    exact ⟨g.nd, g.re, g.sub _ h3⟩
theorem turns_len {R : Int → Prop} {aw : Int → Bool} {kp : Int → List Int} {d : Int} (hd : R d) (hR : ∀ a, R a → ∀ x ∈ kp a, aw x = true → R x) : ∀ n, (∀ a ∈ turnsL aw kp d n, ∀ x ∈ kp a, aw x = true → x ∈ turnsL aw kp d n) ∨ n + 1 ≤ (turnsL aw kp d n).length
  | 0 => .inr (Nat.le_refl _)
  | n + 1 => by
    obtain ⟨h1, h2, _⟩ := turns_ok hd hR n
    obtain ⟨g, i⟩ := passA_grown hR h1 h2 h2
    rcases g.le with e | e
    · exact .inl fun a ha x hx hax => by
        rw [show turnsL aw kp d (n + 1) = turnsL aw kp d n from e.symm] at ha
        exact i a ha x hx hax
    · rcases turns_len hd hR n with c | c
      · have h : ∀ x ∈ passA aw kp (turnsL aw kp d n) (turnsL aw kp d n), x ∈ turnsL aw kp d n := by
          have hR' : ∀ a, a ∈ turnsL aw kp d n → ∀ x ∈ kp a, aw x = true → x ∈ turnsL aw kp d n := c
          exact (passA_grown (R := fun x => x ∈ turnsL aw kp d n) hR' h1 (fun _ h => h) (fun _ h => h)).1.re
        have := len_of_sub g.nd h
        omega
      · exact .inr (Nat.lt_of_le_of_lt c e)
theorem come_list {z : Nat} {aw : Int → Bool} {N : Int → Nat → List Int} {kp : Int → List Int} {hs : List Int} {d : Int} (hk : ∀ a ∈ hs, (kp a).Perm (catN (N a) z)) (haw : ∀ x, aw x = true → x ∈ hs) (hd : d ∈ hs) :
    (turnsL aw kp d hs.length).Nodup ∧ ∀ x, x ∈ turnsL aw kp d hs.length ↔ Rch (edge z aw N) d x := by
  have hRs : ∀ x, Rch (edge z aw N) d x → x ∈ hs := fun x h => by
    cases h with
    | own => exact hd
    | go _ e => exact haw _ e.2
  have hR : ∀ a, Rch (edge z aw N) d a → ∀ x ∈ kp a, aw x = true → Rch (edge z aw N) d x := fun a ha x hx hax => .go ha ⟨(hk a (hRs a ha)).subset hx, hax⟩
  obtain ⟨h1, h2, h3⟩ := turns_ok (R := Rch (edge z aw N) d) (aw := aw) (kp := kp) .own hR hs.length
  refine ⟨h1, fun x => ⟨h2 x, fun h => ?_⟩⟩
  have hc : ∀ a ∈ turnsL aw kp d hs.length, ∀ x ∈ kp a, aw x = true → x ∈ turnsL aw kp d hs.length := by
    rcases turns_len (R := Rch (edge z aw N) d) (aw := aw) (kp := kp) .own hR hs.length with c | c
    · exact c
    · have := len_of_sub h1 fun x hx => hRs x (h2 x hx)
      omega
  exact Rch.of_closed h3 (fun a ha b e => hc a ha b ((hk a (hRs a (h2 a ha))).symm.subset e.1) e.2) h
theorem take_snoc {l : List Int} {j : Nat} {x : Int} (h : l[j]? = some x) : l.take (j + 1) = l.take j ++ [x] := by
  obtain ⟨h1, h2⟩ := List.getElem?_eq_some_iff.mp h
  rw [List.take_succ_eq_append_getElem h1, h2]
theorem step_more {m k : Nat} (hm : m ≠ 0) : (1 : Int) < ((m : Nat) : Int) / 2 ^ k ↔ k < m.log2 := by
  have e : ((m : Nat) : Int) / 2 ^ k = ((m / 2 ^ k : Nat) : Int) := by simp
  have h2 : 0 < 2 ^ k := Nat.two_pow_pos k
  rw [e]
  have a : (1 : Int) < ((m / 2 ^ k : Nat) : Int) ↔ 2 ≤ m / 2 ^ k := by omega
  rw [a, Nat.le_div_iff_mul_le h2, show k < m.log2 ↔ k + 1 ≤ m.log2 from Iff.rfl, Nat.le_log2 hm, Nat.pow_succ, Nat.mul_comm]
theorem filter_erase {l : List Int} {n : Int} (h : l.Nodup) : l.filter (fun y => !decide (y = n)) = l.erase n := by
  rw [h.erase_eq_filter]
  exact List.filter_congr fun x _ => by
    by_cases e : x = n <;> simp [e]
def flatK (ns : Nat → List Int) (ks : List Nat) : List Int := (ks.map ns).flatten
theorem flatK_snoc {ns : Nat → List Int} {ks : List Nat} {k : Nat} : flatK ns (ks ++ [k]) = flatK ns ks ++ ns k := by
  unfold flatK
  rw [List.map_append, List.flatten_append]
  simp
theorem mem_flatK {ns : Nat → List Int} {ks : List Nat} {m : Int} : m ∈ flatK ns ks ↔ ∃ k ∈ ks, m ∈ ns k := by
  unfold flatK
  rw [List.mem_flatten]
  constructor
  · rintro ⟨l, hl, hm⟩
    obtain ⟨k, hk, rfl⟩ := List.mem_map.mp hl
    exact ⟨k, hk, hm⟩
  · rintro ⟨k, hk, hm⟩
    exact ⟨_, List.mem_map.mpr ⟨k, hk, rfl⟩, hm⟩
theorem flatK_nodup {ns : Nat → List Int} {st : Int → Nat} (h1 : ∀ k, (ns k).Nodup) (h2 : ∀ k, ∀ m ∈ ns k, st m = k) : ∀ {ks : List Nat}, ks.Nodup → (flatK ns ks).Nodup
  | [], _ => List.nodup_nil
  | k :: ks, h => by
    obtain ⟨a, b⟩ := List.nodup_cons.mp h
    show (ns k ++ flatK ns ks).Nodup
    refine List.nodup_append.mpr ⟨h1 k, flatK_nodup h1 h2 b, fun x hx y hy e => ?_⟩
    subst e
    obtain ⟨j, hj, hm⟩ := mem_flatK.mp hy
    have e1 := h2 k x hx
    have e2 := h2 j x hm
    exact a (e1.symm.trans e2 ▸ hj)
theorem flatK_perm {pool : List Int} {z : Nat} {r : Int} {hs : List Int} {N : Int → Nat → List Int} (O : NOk pool z r hs N) {h : Int} (hh : h ∈ hs) {ks : List Nat} (hk : ks.Nodup) (kl : ∀ k ∈ ks, k < z) (no : ∀ k, k ∉ ks → N h k = []) : (flatK (N h) ks).Perm (catN (N h) z) := by
  refine perm_of (flatK_nodup (st := stepN h) (O.nd h hh) (fun k m hm => (O.st h hh k m hm).2.2) hk) (O.cat hh z) fun x => ?_
  rw [mem_flatK, mem_catN]
  constructor
  · rintro ⟨k, a, b⟩
    exact ⟨k, kl k a, b⟩
  · rintro ⟨k, a, b⟩
    by_cases e : k ∈ ks
    · exact ⟨k, e, b⟩
    · rw [no k e] at b
      cases b
theorem take_snocN {l : List Nat} {j : Nat} {x : Nat} (h : l[j]? = some x) : l.take (j + 1) = l.take j ++ [x] := by
  obtain ⟨h1, h2⟩ := List.getElem?_eq_some_iff.mp h
  rw [List.take_succ_eq_append_getElem h1, h2]
local macro_rules | `(tactic| walk_at "fld") => `(tactic| first | exact bF_room _ _ | exact bF_order _ _ | exact bF_full _ _ | exact bF_hears _ _ | exact bF_drops _ _ | exact bF_names _ _ | exact flat_ints _)
local macro_rules | `(tactic| walk_at "fld") => `(tactic| first | exact tF_own _ _ _ _ | exact tF_wide _ _ _ _ | exact tF_room _ _ _ _ | exact tF_buckets _ _ _ _ | exact tF_n1 _ _ _ _ | exact tF_n2 _ _ _ _ | exact tF_n3 _ _ _ _ | exact tF_n4 _ _ _ _ | exact tF_n5 _ _ _ _ | exact tF_n6 _ _ _ _)
local macro_rules | `(tactic| walk_at "fld") => `(tactic| first | exact wF_wide _ _ _ _ | exact wF_room _ _ _ _ | exact wF_tables _ _ _ _ | exact wF_silent _ _ _ _ | exact wF_m _ (by decide +kernel) _ _ _ _ | exact DGet.k (k := Sum.inl _) (by walk_at "hp"))
structure Apart (z : Nat) (hs : List Int) (T : Int → TRec) : Prop where
  b : ∀ h ∈ hs, ∀ g ∈ hs, h ≠ g → ∀ i j, i < z → j < z → (T h).bA i ≠ (T g).bA j
  l : ∀ h ∈ hs, ∀ g ∈ hs, h ≠ g → ∀ i j, i < z → j < z → (T h).lA i ≠ (T g).lA j
  n : ∀ h ∈ hs, ∀ g ∈ hs, h ≠ g → ∀ j, j < z → (T h).bl ≠ (T g).lA j
def setT (T : Int → TRec) (h : Int) (k : Nat) (l' : Addr) (xs : List Int) : Int → TRec := setH T h ⟨(T h).t, (T h).bl, (T h).bA, fset (T h).lA k l', fset (T h).ns k xs⟩
def Own (td sd : Addr) (z : Nat) (hs : List Int) (T : Int → TRec) (q : Addr) : Prop := q = td ∨ q = sd ∨ ∃ h ∈ hs, q = (T h).bl ∨ ∃ k, k < z ∧ (q = (T h).bA k ∨ q = (T h).lA k)
structure Deed (H H' : Hp) (O O' : Addr → Prop) : Prop where
  k : ∀ q o, (∀ ps, o ≠ .tbl ps) → H q = some o → ¬ O q → H' q = some o
  o : ∀ q, O' q → O q ∨ H q = none
  e : ∀ q, H' q = none → H q = none
theorem Deed.refl (H : Hp) (O : Addr → Prop) : Deed H H O O := ⟨fun _ _ _ e _ => e, fun _ h => .inl h, fun _ h => h⟩
theorem Deed.same {H H' : Hp} {O : Addr → Prop} (s : Same H H') : Deed H H' O O := ⟨fun _ _ _ e _ => s _ _ e, fun _ h => .inl h, fun q h => s.free h⟩
theorem Deed.trans {H H1 H2 : Hp} {O O1 O2 : Addr → Prop} (a : Deed H H1 O O1) (b : Deed H1 H2 O1 O2) : Deed H H2 O O2 := by
  refine ⟨fun q o ho e hn => b.k q o ho (a.k q o ho e hn) fun z => ?_, fun q z => ?_, fun q h => a.e q (b.e q h)⟩
  · rcases a.o q z with y | y
    · exact hn y
    · rw [e] at y
      cases y
  · rcases b.o q z with y | y
    · exact a.o q y
    · exact .inr (a.e q y)
theorem TabAt.only {CB CT t bl : Addr} {own z r : Int} {n : Nat} {bA lA : Nat → Addr} {ns : Nat → List Int} {H H' : Hp} (T : TabAt CB CT H t bl own z r n bA lA ns) (s1 : ∀ o, H t = some o → H' t = some o) (s2 : ∀ o, H bl = some o → H' bl = some o)
    (s3 : ∀ k, k < n → ∀ o, H (bA k) = some o → H' (bA k) = some o) (s4 : ∀ k, k < n → ∀ o, H (lA k) = some o → H' (lA k) = some o) : TabAt CB CT H' t bl own z r n bA lA ns := by
  obtain ⟨⟨dx, h1⟩, h2, h3, h4, h5, h6⟩ := T
  refine ⟨⟨dx, s1 _ h1⟩, s2 _ h2, fun k hk => ?_, h4, h5, h6⟩
  obtain ⟨⟨dx, b1⟩, b2⟩ := h3 k hk
  exact ⟨⟨dx, s3 k hk _ b1⟩, s4 k hk _ b2⟩
theorem ins_ne {C C' dx dx' : Addr} {f g : List (Str × V)} {H : Hp} {p q : Addr} (h1 : H p = some (.ins C dx f)) (h2 : H q = some (.ins C' dx' g)) (hl : f.length ≠ g.length) : p ≠ q := fun e => by
  rw [e, h2] at h1
  have := Option.some.inj h1
  injection this with _ _ h3
  exact hl (congrArg List.length h3.symm)
theorem setT_ns {T : Int → TRec} {h : Int} {k : Nat} {l' : Addr} {xs : List Int} : (fun g => (setT T h k l' xs g).ns) = setH (fun g => (T g).ns) h (fset (T h).ns k xs) := by
  funext g
  unfold setT
  by_cases e : g = h
  · subst e
    rw [setH_same, setH_same]
  · rw [setH_ne e, setH_ne e]
theorem setT_t {T : Int → TRec} {h g : Int} {k : Nat} {l' : Addr} {xs : List Int} : (setT T h k l' xs g).t = (T g).t := by
  unfold setT
  by_cases e : g = h
  · subst e
    rw [setH_same]
  · rw [setH_ne e]
theorem setT_bl {T : Int → TRec} {h g : Int} {k : Nat} {l' : Addr} {xs : List Int} : (setT T h k l' xs g).bl = (T g).bl := by
  unfold setT
  by_cases e : g = h
  · subst e
    rw [setH_same]
  · rw [setH_ne e]
theorem setT_bA {T : Int → TRec} {h g : Int} {k : Nat} {l' : Addr} {xs : List Int} : (setT T h k l' xs g).bA = (T g).bA := by
  unfold setT
  by_cases e : g = h
  · subst e
    rw [setH_same]
  · rw [setH_ne e]
theorem setT_lA {T : Int → TRec} {h g : Int} {k j : Nat} {l' : Addr} {xs : List Int} : (g = h ∧ j = k ∧ (setT T h k l' xs g).lA j = l') ∨ (¬ (g = h ∧ j = k) ∧ (setT T h k l' xs g).lA j = (T g).lA j) := by
  unfold setT
  by_cases e : g = h
  · subst e
    rw [setH_same]
    by_cases e2 : j = k
    · subst e2
      exact .inl ⟨rfl, rfl, fset_same⟩
    · exact .inr ⟨fun z => e2 z.2, fset_ne e2⟩
  · rw [setH_ne e]
    exact .inr ⟨fun z => e z.1, rfl⟩
theorem tabsD_setT {hs : List Int} {T : Int → TRec} {h : Int} {k : Nat} {l' : Addr} {xs : List Int} : tabsD hs (setT T h k l' xs) = tabsD hs T := by
  unfold tabsD
  exact List.map_congr_left fun g _ => by rw [setT_t]
section
variable {CB CT CW w td sd : Addr} {H H' : Hp} {z r : Int} {hs sil : List Int} {T : Int → TRec}
theorem TownAt.turn (W : TownAt CB CT CW H w td sd z r hs sil T) (A : Apart z.toNat hs T) {h : Int} (hh : h ∈ hs) {k : Nat} (hk : k < z.toNat) {l' : Addr} {xs : List Int} (hB : BuckAt CB H' ((T h).bA k) l' r xs) (hl : l' = (T h).lA k ∨ H l' = none)
    (fr : ∀ q o, (∀ ps, o ≠ .tbl ps) → H q = some o → q ≠ (T h).bA k → q ≠ (T h).lA k → H' q = some o) (he : ∀ q, H' q = none → H q = none) :
    TownAt CB CT CW H' w td sd z r hs sil (setT T h k l' xs) ∧ Apart z.toNat hs (setT T h k l' xs) ∧ Deed H H' (Own td sd z.toNat hs T) (Own td sd z.toNat hs (setT T h k l' xs)) := by
  obtain ⟨⟨dx, hob⟩, htb, hsi, hta, hnd, hhb, hz1, hz2, hr1, hr2, hln, hts⟩ := id W
  have hTh := hta h hh
  obtain ⟨⟨dk, hk1⟩, hk2⟩ := hTh.bk k hk
  have exl : ∀ g ∈ hs, ∀ j, j < z.toNat → ∃ ys, H ((T g).lA j) = some (.lst ys) := fun g hg j hj => ⟨_, ((hta g hg).bk j hj).li⟩
  refine ⟨⟨⟨dx, ?_⟩, ?_, ?_, fun g hg => ?_, hnd, hhb, hz1, hz2, hr1, hr2, hln, hts⟩, ⟨?_, ?_, ?_⟩, ⟨fun q o ho e hn => ?_, fun q hq => ?_, fun q hq => ?_⟩⟩
  · exact fr _ _ (fun _ z => nomatch z) hob (ins_ne hob hk1 (by simp [wF, bF])) (ne_of hob hk2 (by intro z; cases z))
  · rw [tabsD_setT]
    exact fr _ _ (fun _ z => nomatch z) htb (ne_of htb hk1 (by intro z; cases z)) (ne_of htb hk2 (by intro z; cases z))
  · exact fr _ _ (fun _ z => nomatch z) hsi (ne_of hsi hk1 (by intro z; cases z)) (ne_of hsi hk2 (by intro z; cases z))
  · by_cases e : g = h
    · subst e
      have := hTh.turn hk (fun _ => False) hB hl (fun q o ho e a b _ => fr q o ho e a b) (fun _ z => z.elim)
      unfold setT
      rw [setH_same]
      exact this
    · unfold setT
      rw [setH_ne e]
      have hTg := hta g hg
      obtain ⟨dg, hg1⟩ := hTg.ob
      refine hTg.only (fun o eo => ?_) (fun o eo => ?_) (fun j hj o eo => ?_) (fun j hj o eo => ?_)
      · have e1 := hg1.symm.trans eo
        cases e1
        exact fr _ _ (fun _ z => nomatch z) eo (ins_ne eo hk1 (by simp [tF, bF])) (ne_of eo hk2 (by intro z; cases z))
      · have e1 := hTg.li.symm.trans eo
        cases e1
        exact fr _ _ (fun _ z => nomatch z) eo (ne_of eo hk1 (by intro z; cases z)) (A.n g hg h hh e k hk)
      · obtain ⟨⟨dj, hj1⟩, hj2⟩ := hTg.bk j hj
        have e1 := hj1.symm.trans eo
        cases e1
        exact fr _ _ (fun _ z => nomatch z) eo (A.b g hg h hh e j k hj hk) (ne_of eo hk2 (by intro z; cases z))
      · obtain ⟨⟨dj, hj1⟩, hj2⟩ := hTg.bk j hj
        have e1 := hj2.symm.trans eo
        cases e1
        exact fr _ _ (fun _ z => nomatch z) eo (ne_of eo hk1 (by intro z; cases z)) (A.l g hg h hh e j k hj hk)
  · intro g hg g' hg' hne i j hi hj
    rw [setT_bA, setT_bA]
    exact A.b g hg g' hg' hne i j hi hj
  · intro g hg g' hg' hne i j hi hj
    have fresh : ∀ g'' ∈ hs, g'' ≠ h → ∀ m, m < z.toNat → l' ≠ (T g'').lA m := fun g'' hg'' hn m hm => by
      rcases hl with y | y
      · rw [y]
        exact A.l h hh g'' hg'' (Ne.symm hn) k m hk hm
      · obtain ⟨ys, hy⟩ := exl g'' hg'' m hm
        exact (ne_of_none hy y).symm
    rcases setT_lA (T := T) (h := h) (g := g) (k := k) (j := i) (l' := l') (xs := xs) with ⟨a1, a2, a3⟩ | ⟨a1, a3⟩ <;> rcases setT_lA (T := T) (h := h) (g := g') (k := k) (j := j) (l' := l') (xs := xs) with ⟨b1, b2, b3⟩ | ⟨b1, b3⟩
    · exact absurd (a1.trans b1.symm) hne
    · rw [a3, b3]
      exact fresh g' hg' (fun y => hne (a1.trans y.symm)) j hj
    · rw [a3, b3]
      exact (fresh g hg (fun y => hne (y.trans b1.symm)) i hi).symm
    · rw [a3, b3]
      exact A.l g hg g' hg' hne i j hi hj
  · intro g hg g' hg' hne j hj
    rw [setT_bl]
    rcases setT_lA (T := T) (h := h) (g := g') (k := k) (j := j) (l' := l') (xs := xs) with ⟨b1, b2, b3⟩ | ⟨b1, b3⟩
    · rw [b3]
      rcases hl with y | y
      · rw [y]
        exact A.n g hg h hh (fun y => hne (y.trans b1.symm)) k hk
      · exact ne_of_none (hta g hg).li y
    · rw [b3]
      exact A.n g hg g' hg' hne j hj
  · exact fr q o ho e (fun y => hn (.inr (.inr ⟨h, hh, .inr ⟨k, hk, .inl y⟩⟩))) (fun y => hn (.inr (.inr ⟨h, hh, .inr ⟨k, hk, .inr y⟩⟩)))
  · rcases hq with y | y | ⟨g, hg, y | ⟨j, hj, y⟩⟩
    · exact .inl (.inl y)
    · exact .inl (.inr (.inl y))
    · rw [setT_bl] at y
      exact .inl (.inr (.inr ⟨g, hg, .inl y⟩))
    · rw [setT_bA] at y
      rcases y with y | y
      · exact .inl (.inr (.inr ⟨g, hg, .inr ⟨j, hj, .inl y⟩⟩))
      · rcases setT_lA (T := T) (h := h) (g := g) (k := k) (j := j) (l' := l') (xs := xs) with ⟨b1, b2, b3⟩ | ⟨b1, b3⟩
        · rw [b3] at y
          subst y
          rcases hl with y | y
          · exact .inl (.inr (.inr ⟨h, hh, .inr ⟨k, hk, .inr y⟩⟩))
          · exact .inr y
        · rw [b3] at y
          exact .inl (.inr (.inr ⟨g, hg, .inr ⟨j, hj, .inr y⟩⟩))
  · exact he q hq
end
def lamH : Expr := match (defBody (inClass (top 19) 25)).getD 0 (.Pass lam0) with | .Expr (.Call _ (_ :: e :: _) _ _) _ => e | _ => .Constant .none 0 lam0
def quH : Str := (("Town.hears_of" : Str) ++ ".<locals>.") ++ "<lambda>"
abbrev RH : Addr → FuncData → Prop := RLm "<lambda>" quH (laArgs lamH) (laBody lamH) (laScope lamH)
abbrev LamH (H : Hp) (f : Addr) (cv : List V) (fd : FuncData) : Prop := LamV H f "<lambda>" quH (laArgs lamH) (laBody lamH) (laScope lamH) ["self"] cv fd
def spHL (K : PySem.W.Frag) (CB CT CW : Addr) (cv : List V) : Sp := fun vs H Q E => ∃ (w : Addr) (i : V), vs = [i] ∧ cv = [.ref w] ∧ (∃ dx fs, H w = some (.ins CW dx fs) ∧ fs.lookup ("answers" : Str) = none) ∧ spAnswers K CB CT CW [.ref w, i] H Q E
def spH (K : PySem.W.Frag) (CB CT CW : Addr) (f : Addr) (fd : FuncData) : Sp := fun vs H Q E => ∃ cv, cv.length = (["self"] : List Str).length ∧ LamH H f cv fd ∧ spHL K CB CT CW cv vs H Q E
theorem spH_mono {K : PySem.W.Frag} {CB CT CW : Addr} : MonoA (spH K CB CT CW) := fun f fd vs H Q Q' E hq h => by
  obtain ⟨cv, h1, h2, w, i, e1, e2, h3, w', td, sd, z, r, hs, sil, T, v, e3, hW, k⟩ := h
  refine ⟨cv, h1, h2, w, i, e1, e2, h3, w', td, sd, z, r, hs, sil, T, v, e3, hW, ?_⟩
  rcases k with ⟨j, e, k⟩ | ⟨a, k⟩
  · exact .inl ⟨j, e, hq _ _ k⟩
  · exact .inr ⟨a, hq _ _ k⟩
def awB (hs sil : List Int) (x : Int) : Bool := decide (x ∈ hs) && !decide (x ∈ sil)
theorem awB_of {z : Int} {hs sil : List Int} (hb : ∀ h ∈ hs, 0 ≤ h ∧ h < 2 ^ z.toNat) (z1 : 1 ≤ z) (x : Int) : (nameB z x && decide (x ∈ hs) && !decide (x ∈ sil)) = awB hs sil x := by
  unfold awB
  by_cases e : x ∈ hs
  · rw [nameB_of (hb x e).1 (hb x e).2 z1, Bool.true_and]
  · rw [decide_eq_false e, Bool.and_false, Bool.false_and]
section
variable {P : Program} {w : World} {K : PySem.W.Frag} {mg : Str → Option Value} {base : Heap}
theorem binds_H {f : Addr} {fd : FuncData} (h : RH f fd) : Binds K fd ["first"] [] := by
  obtain ⟨clos, pm, c', ct, rfl⟩ := h
  exact .all fun us hl => match us, hl with | [_], _ => rfl
theorem sc_lamH : CloScope ["first", "self"] ["first"] ["self"] (laScope lamH) := ⟨rfl, rfl, rfl, by decide +kernel, by decide +kernel, by decide +kernel, by decide +kernel, by decide +kernel, by decide +kernel, by decide +kernel⟩
theorem ok_lamH (T : Txt mg) {CB CT : Addr} (D_is_whole : Df K mg "is_whole" (top 9) ["thing"]) (D_is_name : Df K mg "is_name" (top 10) ["thing", "wide"]) (D_Town : DfC K mg "Town" ["wide", "room", "tables", "silent"]) (D_Town_is_house : DfM K D_Town.C "is_house" "Town.is_house" (inClass (top 19) 4) ["self", "thing"]) (D_Town_answers : DfM K D_Town.C "answers" "Town.answers" (inClass (top 19) 3) ["self", "name"]) {f : Addr} {fd : FuncData} : FnOk P w K mg base CX0 5 f fd ["first"] (spH K CB CT D_Town.C f fd) := by
  have G_Town_answers : FnOk P w K mg base CX0 4 _ _ _ _ := ok_Town_answers (CB := CB) (CT := CT) T D_is_whole D_is_name D_Town D_Town_is_house D_Town_answers
  refine fn_lam (name := "<lambda>") (qual := quH) (params := laArgs lamH) (body := laBody lamH) (sp := spHL K CB CT D_Town.C) sc_lamH (fun cv vs H Q E h => ?_) (fun clos cdv A outer s H cv vs Q E hr hcl h => ?_)
  · obtain ⟨w, i, rfl, _⟩ := h
    rfl
  · obtain ⟨w, i, rfl, rfl, ⟨dx, fs, hw, hfs⟩, k⟩ := h
    refine ⟨_, (pe_meth (pv 1) D_Town.cl D_Town_answers.me G_Town_answers (hr.mono (by decide)) D_Town_answers.b .nil pass0 (pa_cons (pv 0) pa_nil)), ?_⟩
    exact ⟨_, rfl, w, dx, fs, rfl, hw, hfs, _, rfl, k⟩
def spHearsOf (K : PySem.W.Frag) (CB CT CW T1 : Addr) : Sp := fun vs H Q _ => ∃ (w td sd : Addr) (z r : Int) (hs sil : List Int) (T : Int → TRec) (h n : Int), vs = [.ref w, .int h, .int n] ∧ TownAt CB CT CW H w td sd z r hs sil T ∧ Apart z.toNat hs T ∧ h ∈ hs ∧ 0 ≤ n ∧ n < 2 ^ z.toNat ∧ n ≠ h ∧ (∀ k, ((T h).ns k).length ≤ 1000) ∧ Tab H T1 (laPos lamH) quH ∧
  ∀ (H' : Hp) (T' : Int → TRec), TownAt CB CT CW H' w td sd z r hs sil T' → Apart z.toNat hs T' → (fun g => (T' g).ns) = hearN r (awB hs sil) (fun g => (T g).ns) h n → Deed H H' (Own td sd z.toNat hs T) (Own td sd z.toNat hs T') → Tab H' T1 (laPos lamH) quH → Q .non H'
theorem sc_Town_hears_of : FnScope ["self", "house", "name"] ["self", "house", "name"] (defScope (inClass (top 19) 25)) := ⟨rfl, rfl, rfl, by decide +kernel, rfl, by decide +kernel, by decide +kernel⟩
theorem ok_Town_hears_of (T : Txt mg) (hK : K.In base) (D_far : Df K mg "far" (top 11) ["one", "other"]) (D_step : Df K mg "step" (top 12) ["one", "other"]) (D_is_whole : Df K mg "is_whole" (top 9) ["thing"]) (D_is_name : Df K mg "is_name" (top 10) ["thing", "wide"]) (D_Bucket : DfC K mg "Bucket" ["room", "order"]) (D_Bucket_hears_when_full : DfM K D_Bucket.C "hears_when_full" "Bucket.hears_when_full" (inClass (top 14) 2) ["self", "name", "answers"]) (D_Bucket_hears : DfM K D_Bucket.C "hears" "Bucket.hears" (inClass (top 14) 1) ["self", "name", "answers"]) (D_Table : DfC K mg "Table" ["own", "wide", "room", "buckets"]) (D_Table_bucket_of : DfM K D_Table.C "bucket_of" "Table.bucket_of" (inClass (top 16) 3) ["self", "name"]) (D_Table_hears : DfM K D_Table.C "hears" "Table.hears" (inClass (top 16) 1) ["self", "name", "answers"])
    (D_Town : DfC K mg "Town" ["wide", "room", "tables", "silent"]) (D_Town_is_house : DfM K D_Town.C "is_house" "Town.is_house" (inClass (top 19) 4) ["self", "thing"]) (D_Town_answers : DfM K D_Town.C "answers" "Town.answers" (inClass (top 19) 3) ["self", "name"]) (D_Town_hears_of : DfMF K D_Town.C "hears_of" "Town.hears_of" (inClass (top 19) 25) ["self", "house", "name"]) (hB : base.BuiltinsAt mg D_Town_hears_of.P) : FnOk P w K mg base CX0 9 D_Town_hears_of.f D_Town_hears_of.fd ["self", "house", "name"] (spHearsOf K D_Bucket.C D_Table.C D_Town.C D_Town_hears_of.P) := by
  have hcl := D_Town.cl
  obtain ⟨na1, na2, na3, na4, -⟩ := D_Town.na
  have GA : ∀ f fd, RH f fd → FnOk P w K mg base CX0 5 f fd ["first"] (spH K D_Bucket.C D_Table.C D_Town.C f fd) := fun f fd _ => ok_lamH T D_is_whole D_is_name D_Town D_Town_is_house D_Town_answers
  have bA : ∀ f fd, RH f fd → Binds K fd ["first"] [] := fun f fd h => binds_H h
  have G_Table_hears : FnOk P w K mg base CX0 8 _ _ _ _ := ok_Table_hears T GA bA spH_mono D_far D_step D_Bucket D_Bucket_hears_when_full D_Bucket_hears D_Table D_Table_bucket_of D_Table_hears
  refine D_Town_hears_of.ok hK sc_Town_hears_of (fz := ["self"]) (by decide +kernel) (fun vs H Q E h => ?_) (fun A outer s H vs Q E hr h H1 sm hcv hC => ?_)
  · obtain ⟨w, td, sd, z, r, hs, sil, TT, h, n, rfl, _⟩ := h
    rfl
  · obtain ⟨w, td, sd, z, r, hs, sil, TT, h, n, rfl, hW0, hA, hh, hn0, hn1, hne, hlen, hT, k0⟩ := h
    have hW : TownAt D_Bucket.C D_Table.C D_Town.C H1 w td sd z r hs sil TT := hW0.keep fun q o _ e => sm _ _ e
    have k : ∀ (H' : Hp) (T' : Int → TRec), TownAt D_Bucket.C D_Table.C D_Town.C H' w td sd z r hs sil T' → Apart z.toNat hs T' → (fun g => (T' g).ns) = hearN r (awB hs sil) (fun g => (TT g).ns) h n → Deed H1 H' (Own td sd z.toNat hs TT) (Own td sd z.toNat hs T') → Tab H' D_Town_hears_of.P (laPos lamH) quH → Q .non H' := fun H' T' a b c d e => k0 H' T' a b c ((Deed.same sm).trans d) e
    have hT1 : Tab H1 D_Town_hears_of.P (laPos lamH) quH := (sm.but _).2 _ _ hT
    clear k0 hW0
    obtain ⟨⟨dx, hob⟩, htb, hsi, hta, hnd, hhb, hz1, hz2, hr1, hr2, hln, hts⟩ := id hW
    have hTh := hta h hh
    obtain ⟨⟨dxh, hobh⟩, -⟩ := id hTh
    have hg : DGet H1 td (V.int h) (some (V.ref (TT h).t)) := by
      have := DGet.k (k := Sum.inl h) htb
      rw [valV_tabs, if_pos hh] at this
      exact this
    obtain ⟨c1, hc1, v1⟩ := hcv 0 "self" (.ref w) (by decide +kernel) rfl rfl
    refine ⟨_, (pss_one (ps_expr (pe_meth (pe_dget (hu_of hr) (pe_fld (pv 0) rfl) (pv 1) (fun _ _ => rfl)) D_Table.cl D_Table_hears.me G_Table_hears (hr.mono (by decide)) D_Table_hears.b .nil pass0 (pa_cons (pv 2) (pa_cons (pe_lam rfl hC hB (defFree_of (by kernel_rfl))) pa_nil))))), ?_⟩
    walk_at "w"
    refine tLam_of hT1 fun f H2 fo clos c' oc k1 k2 hb hT2 hf hf' sh hc' cs => ?_
    have nP : ∀ {b : Addr} {o : HO}, (∀ ps, o ≠ .tbl ps) → H1 b = some o → H2 b = some o := fun {b o} ho e => hb b o (fun y => by
      obtain ⟨ps, hP, _⟩ := hT1
      rw [y, hP] at e
      cases e
      exact ho _ rfl) e
    have keep : ∀ c v, CellV H1 c v → CellV H2 c v := fun c v hv => hv.same fun o k e => nP (fun _ z => nomatch z) e
    obtain ⟨fd, hd, hR, hF⟩ := lamv_of (qual := quH) (params := laArgs lamH) (body := laBody lamH) (scope := laScope lamH) (fr := ["self"]) (cv := [.ref w]) sh hf' hc' cs (fun i x v h1 h2 => by
      match i, h1, h2 with
      | 0, h1, h2 =>
        cases h1
        cases h2
        exact ⟨by decide +kernel, c1, hc1, keep _ _ v1⟩)
    have hW2 : TownAt D_Bucket.C D_Table.C D_Town.C H2 w td sd z r hs sil TT := hW.keep fun q o ho e => nP ho e
    have d2 : Deed H1 H2 (Own td sd z.toNat hs TT) (Own td sd z.toNat hs TT) := ⟨fun q o ho e _ => nP ho e, fun _ y => .inl y, fun q e => by
      by_cases y : q = D_Town_hears_of.P
      · obtain ⟨ps, hP, _⟩ := hT2
        rw [y, hP] at e
        cases e
      · cases eq : H1 q with
        | none => rfl
        | some o =>
          rw [hb q o y eq] at e
          cases e⟩
    obtain ⟨⟨dx2, hob2⟩, htb2, hsi2, hta2, -⟩ := id hW2
    have hTh2 := hta2 h hh
    obtain ⟨⟨dxh2, hobh2⟩, -⟩ := id hTh2
    have hst : stepN h n < z.toNat := stepN_lt (hhb h hh).1 hn0 (hhb h hh).2 hn1 (Ne.symm hne)
    have hBk := hTh2.bk _ hst
    have fin : ∀ (H3 : Hp) (l' : Addr) (xs : List Int), xs = hearL r (awB hs sil) ((TT h).ns (stepN h n)) n → BuckAt D_Bucket.C H3 ((TT h).bA (stepN h n)) l' r xs → (l' = (TT h).lA (stepN h n) ∨ H2 l' = none) → (But1 ((TT h).lA (stepN h n)) H2 H3 ∧ l' = (TT h).lA (stepN h n) ∨ But1 ((TT h).bA (stepN h n)) H2 H3) → Q .non H3 := fun H3 l' xs hxs B3 hl3 hbut => by
      have fr : ∀ q o, H2 q = some o → q ≠ (TT h).bA (stepN h n) → q ≠ (TT h).lA (stepN h n) → H3 q = some o := fun q o e a b => by
        rcases hbut with ⟨y, _⟩ | y
        · exact y q o e b
        · exact y q o e a
      have he : ∀ q, H3 q = none → H2 q = none := fun q e => by
        cases eq : H2 q with
        | none => rfl
        | some o =>
          exfalso
          obtain ⟨⟨db, y1⟩, y2⟩ := B3
          rcases hbut with ⟨y, rfl⟩ | y
          · by_cases e2 : q = (TT h).lA (stepN h n)
            · rw [e2, y2] at e
              cases e
            · rw [y q o eq e2] at e
              cases e
          · by_cases e2 : q = (TT h).bA (stepN h n)
            · rw [e2, y1] at e
              cases e
            · rw [y q o eq e2] at e
              cases e
      obtain ⟨W3, A3, d3⟩ := hW2.turn hA hh hst B3 hl3 (fun q o _ e a b => fr q o e a b) he
      refine k H3 _ W3 A3 ?_ (d2.trans d3) (Tab.hold hT2 fun q o ho e => ?_)
      · rw [setT_ns, hxs]
        rfl
      · obtain ⟨⟨db, y1⟩, y2⟩ := id hBk
        refine fr q o e (fun y => ?_) (fun y => ?_)
        · subst y
          rcases ho with ⟨x, kk, rfl⟩ | y
          · rw [y1] at e
            cases e
          · obtain ⟨ps, hP, _⟩ := hT2
            rw [← y, y1] at hP
            cases hP
        · subst y
          rcases ho with ⟨x, kk, rfl⟩ | y
          · rw [y2] at e
            cases e
          · obtain ⟨ps, hP, _⟩ := hT2
            rw [← y, y2] at hP
            cases hP
    refine ⟨(TT h).t, (TT h).bl, f, h, z, r, n, z.toNat, (TT h).bA, (TT h).lA, (TT h).ns, rfl, hTh2, (hhb h hh).1, hn0, (hhb h hh).2, hn1, fun y => absurd y.symm hne, fun _ => ?_⟩
    unfold spHears
    refine ⟨_, _, f, r, n, _, rfl, hBk, hlen _, hr1, fun hm H3 B3 b3 => ?_, fun hm hl H3 B3 b3 => ?_, fun hm hl => ?_⟩
    · exact fin H3 _ _ (by unfold hearL; rw [if_pos hm]) B3 (.inl rfl) (.inl ⟨b3, rfl⟩)
    · exact fin H3 _ _ (by unfold hearL; rw [if_neg hm, if_pos hl]) B3 (.inl rfl) (.inl ⟨b3, rfl⟩)
    · have hxs0 : ∃ x xs, (TT h).ns (stepN h n) = x :: xs := by
        cases e : (TT h).ns (stepN h n) with
        | nil =>
          rw [e] at hl
          exact absurd hl (by simp only [List.length_nil]; omega)
        | cons x xs => exact ⟨x, xs, rfl⟩
      obtain ⟨x, xs, hxs⟩ := hxs0
      have hln1 : xs.length ≤ 1000 := by
        have := hlen (stepN h n)
        rw [hxs, List.length_cons] at this
        omega
      rw [hxs] at hBk
      unfold spFull
      refine ⟨_, _, f, r, n, x, xs, fd, rfl, hBk, hln1, .inl ⟨fo, k1, hf', hd⟩, hR, [.ref w], rfl, hF, w, .int x, rfl, rfl, ⟨dx2, _, hob2, wF_m _ (by decide +kernel) _ _ _ _⟩, w, td, sd, z, r, hs, sil, TT, .int x, rfl, hW2, .inl ⟨x, rfl, _, rfl, hBk, fun l' H3 hl3 B3 b3 => ?_⟩⟩
      rw [awB_of hhb hz1 x] at B3
      refine fin H3 l' _ ?_ B3 (.inr hl3) (.inr b3)
      unfold hearL
      rw [if_neg hm, if_neg (show ¬ (((TT h).ns (stepN h n)).length : Int) < r by omega), hxs]
def spMeet (K : PySem.W.Frag) (CB CT CW T1 : Addr) : Sp := fun vs H Q _ => ∃ (w td sd : Addr) (z r : Int) (hs sil : List Int) (T : Int → TRec) (h n : Int), vs = [.ref w, .int h, .int n] ∧ TownAt CB CT CW H w td sd z r hs sil T ∧ Apart z.toNat hs T ∧ h ∈ hs ∧ n ∈ hs ∧ n ≠ h ∧ (∀ g ∈ hs, ∀ k, ((T g).ns k).length ≤ 1000) ∧ Tab H T1 (laPos lamH) quH ∧
  ∀ (H' : Hp) (T' : Int → TRec), TownAt CB CT CW H' w td sd z r hs sil T' → Apart z.toNat hs T' → (fun g => (T' g).ns) = meetN r (awB hs sil) (fun g => (T g).ns) h n → Deed H H' (Own td sd z.toNat hs T) (Own td sd z.toNat hs T') → Tab H' T1 (laPos lamH) quH → Q .non H'
theorem sc_Town_meet : FnScope ["self", "one", "other"] ["self", "one", "other"] (defScope (inClass (top 19) 24)) := ⟨rfl, rfl, rfl, by decide +kernel, rfl, by decide +kernel, by decide +kernel⟩
theorem ok_Town_meet (T : Txt mg) (hK : K.In base) (D_far : Df K mg "far" (top 11) ["one", "other"]) (D_step : Df K mg "step" (top 12) ["one", "other"]) (D_is_whole : Df K mg "is_whole" (top 9) ["thing"]) (D_is_name : Df K mg "is_name" (top 10) ["thing", "wide"]) (D_Bucket : DfC K mg "Bucket" ["room", "order"]) (D_Bucket_hears_when_full : DfM K D_Bucket.C "hears_when_full" "Bucket.hears_when_full" (inClass (top 14) 2) ["self", "name", "answers"]) (D_Bucket_hears : DfM K D_Bucket.C "hears" "Bucket.hears" (inClass (top 14) 1) ["self", "name", "answers"]) (D_Table : DfC K mg "Table" ["own", "wide", "room", "buckets"]) (D_Table_bucket_of : DfM K D_Table.C "bucket_of" "Table.bucket_of" (inClass (top 16) 3) ["self", "name"]) (D_Table_hears : DfM K D_Table.C "hears" "Table.hears" (inClass (top 16) 1) ["self", "name", "answers"])
    (D_Town : DfC K mg "Town" ["wide", "room", "tables", "silent"]) (D_Town_is_house : DfM K D_Town.C "is_house" "Town.is_house" (inClass (top 19) 4) ["self", "thing"]) (D_Town_answers : DfM K D_Town.C "answers" "Town.answers" (inClass (top 19) 3) ["self", "name"]) (D_Town_hears_of : DfMF K D_Town.C "hears_of" "Town.hears_of" (inClass (top 19) 25) ["self", "house", "name"]) (hB : base.BuiltinsAt mg D_Town_hears_of.P) (D_Town_meet : DfM K D_Town.C "meet" "Town.meet" (inClass (top 19) 24) ["self", "one", "other"]) : FnOk P w K mg base CX0 10 D_Town_meet.f D_Town_meet.fd ["self", "one", "other"] (spMeet K D_Bucket.C D_Table.C D_Town.C D_Town_hears_of.P) := by
  have hcl := D_Town.cl
  have G_Town_hears_of : FnOk P w K mg base CX0 9 _ _ _ _ := ok_Town_hears_of T hK D_far D_step D_is_whole D_is_name D_Bucket D_Bucket_hears_when_full D_Bucket_hears D_Table D_Table_bucket_of D_Table_hears D_Town D_Town_is_house D_Town_answers D_Town_hears_of hB
  refine D_Town_meet.fn.ok sc_Town_meet (fun vs H Q E h => ?_) (fun cdv A outer s H vs Q E hr h => ?_)
  · obtain ⟨w, td, sd, z, r, hs, sil, TT, h, n, rfl, _⟩ := h
    rfl
  · obtain ⟨w, td, sd, z, r, hs, sil, TT, h, n, rfl, hW, hA, hh, hn, hne, hlen, hT, k⟩ := h
    obtain ⟨⟨dx, hob⟩, -⟩ := id hW
    have hnb := hW.hb n hn
    have hn0 := hnb.1
    have hn1 := hnb.2
    have hlh := hlen h hh
    refine ⟨_, (pss_cons (ps_expr (pe_meth (pv 0) D_Town.cl D_Town_hears_of.me G_Town_hears_of (hr.mono (by decide)) D_Town_hears_of.b .nil pass0 (pa_cons (pv 1) (pa_cons (pv 2) pa_nil))))
      (pss_one (ps_expr (pe_meth (pv 0) D_Town.cl D_Town_hears_of.me G_Town_hears_of (hr.mono (by decide)) D_Town_hears_of.b .nil pass0 (pa_cons (pv 2) (pa_cons (pv 1) pa_nil)))))), ?_⟩
    walk_at "w"
    intro H1 T1 W1 A1 e1 d1 hT1
    obtain ⟨⟨dx1, hob1⟩, -⟩ := id W1
    have hhb := W1.hb h hh
    have hh0 := hhb.1
    have hh1 := hhb.2
    have hne' : h ≠ n := Ne.symm hne
    have hln : ∀ k, ((T1 n).ns k).length ≤ 1000 := fun k => by
      have e2 := congrFun (congrFun e1 n) k
      have e2 : (T1 n).ns k = hearN r (awB hs sil) (fun g => (TT g).ns) h n n k := e2
      unfold hearN at e2
      rw [setH_ne hne] at e2
      rw [e2]
      exact hlen n hn k
    walk_at "w"
    intro H2 T2 W2 A2 e2 d2 hT2
    refine k H2 T2 W2 A2 ?_ (d1.trans d2) hT2
    unfold meetN
    rw [e2, e1]
end
local macro_rules | `(tactic| walk_at "fld") => `(tactic| first | exact bF_room _ _ | exact bF_order _ _ | exact bF_full _ _ | exact bF_hears _ _ | exact bF_drops _ _ | exact bF_names _ _ | exact flat_ints _)
local macro_rules | `(tactic| walk_at "fld") => `(tactic| first | exact tF_own _ _ _ _ | exact tF_wide _ _ _ _ | exact tF_room _ _ _ _ | exact tF_buckets _ _ _ _ | exact tF_n1 _ _ _ _ | exact tF_n2 _ _ _ _ | exact tF_n3 _ _ _ _ | exact tF_n4 _ _ _ _ | exact tF_n5 _ _ _ _ | exact tF_n6 _ _ _ _)
local macro_rules | `(tactic| walk_at "fld") => `(tactic| first | exact wF_wide _ _ _ _ | exact wF_room _ _ _ _ | exact wF_tables _ _ _ _ | exact wF_silent _ _ _ _ | exact wF_m _ (by decide +kernel) _ _ _ _ | exact DGet.k (k := Sum.inl _) (by walk_at "hp"))
structure CT (E : Int → Int → Prop) (d : Int) (ks ws : List Int) : Prop where
  nd : ks.Nodup
  dm : d ∈ ks
  re : ∀ x ∈ ks, Rch E d x
  ws : ∀ x ∈ ws, x ∈ ks
theorem silD_put {ks : List Int} {x : Int} (h : x ∉ ks) : putK (silD ks) (Sum.inl x) (V.bl true) = silD (ks ++ [x]) := by
  have e : valV (silD ks) (Sum.inl x) = none := by
    have := valV_sil (sil := ks) (i := x)
    rw [decide_eq_false h] at this
    exact Option.isSome_eq_false_iff.mp this |> fun z => by simpa using z
  rw [putK_new _ e]
  unfold silD
  rw [List.map_append]
  rfl
theorem snoc_cases (l : List Int) : l = [] ∨ ∃ t a, l = t ++ [a] := by
  rcases List.eq_nil_or_concat l with h | ⟨t, a, h⟩
  · exact .inl h
  · exact .inr ⟨t, a, by rw [h, List.concat_eq_append]⟩
theorem snoc_map {l : List Int} {a : Int} : (l ++ [a]).map V.int = l.map V.int ++ [V.int a] := by simp
theorem drop_snoc {l : List Int} {a : Int} : ((l ++ [a]).map V.int).dropLast = l.map V.int := by
  rw [snoc_map, List.dropLast_concat]
section
variable {P : Program} {w : World} {K : PySem.W.Frag} {mg : Str → Option Value} {base : Heap}
theorem sc_Town_come_to : FnScope ["self", "house", "reached", "waiting", "here", "name"] ["self", "house"] (defScope (inClass (top 19) 8)) := ⟨rfl, rfl, rfl, by decide +kernel, rfl, by decide +kernel, by decide +kernel⟩
def spComeTo (CB CT CW : Addr) : Sp := fun vs H Q _ => ∃ (w td sd : Addr) (z r : Int) (hs sil : List Int) (T : Int → TRec) (i : Int), vs = [.ref w, .int i] ∧ TownAt CB CT CW H w td sd z r hs sil T ∧ i ∈ hs ∧ i ∉ sil ∧ (∀ g ∈ hs, (catN (T g).ns z.toNat).length < 64) ∧
  ∀ (l : Addr) (ks : List Int) (H' : Hp), Same H H' → H l = none → H' l = some (.lst ((sortI ks).map V.int)) → ks.Nodup → (∀ x, x ∈ ks ↔ Rch (edge z.toNat (awB hs sil) (fun g => (T g).ns)) i x) → Q (.ref l) H'
theorem ok_Town_come_to (T : Txt mg) (D_NoHouse : DfE K mg "NoHouse") (D_Silent : DfE K mg "Silent") (D_is_whole : Df K mg "is_whole" (top 9) ["thing"]) (D_is_name : Df K mg "is_name" (top 10) ["thing", "wide"]) (D_Bucket : DfC K mg "Bucket" ["room", "order"]) (D_Bucket_names : DfM K D_Bucket.C "names" "Bucket.names" (inClass (top 14) 4) ["self"]) (D_Table : DfC K mg "Table" ["own", "wide", "room", "buckets"]) (D_Table_keeps : DfM K D_Table.C "keeps" "Table.keeps" (inClass (top 16) 5) ["self"])
    (D_Town : DfC K mg "Town" ["wide", "room", "tables", "silent"]) (D_Town_is_house : DfM K D_Town.C "is_house" "Town.is_house" (inClass (top 19) 4) ["self", "thing"]) (D_Town_answers : DfM K D_Town.C "answers" "Town.answers" (inClass (top 19) 3) ["self", "name"]) (D_Town_check_house : DfM K D_Town.C "check_house" "Town.check_house" (inClass (top 19) 16) ["self", "thing"]) (D_Town_check_answering : DfM K D_Town.C "check_answering" "Town.check_answering" (inClass (top 19) 17) ["self", "thing"]) (D_Town_come_to : DfM K D_Town.C "come_to" "Town.come_to" (inClass (top 19) 8) ["self", "house"]) : FnOk P w K mg base CX0 6 D_Town_come_to.f D_Town_come_to.fd ["self", "house"] (spComeTo D_Bucket.C D_Table.C D_Town.C) := by
  have hcl := D_Town.cl
  obtain ⟨na1, na2, na3, na4, -⟩ := D_Town.na
  have G_Table_keeps : FnOk P w K mg base CX0 2 _ _ _ _ := ok_Table_keeps T D_Bucket D_Bucket_names D_Table D_Table_keeps
  have G_Town_answers : FnOk P w K mg base CX0 4 _ _ _ _ := ok_Town_answers (CB := D_Bucket.C) (CT := D_Table.C) T D_is_whole D_is_name D_Town D_Town_is_house D_Town_answers
  have G_Town_check_answering : FnOk P w K mg base CX0 5 _ _ _ _ := ok_Town_check_answering (CB := D_Bucket.C) (CT := D_Table.C) T D_NoHouse D_Silent D_is_whole D_is_name D_Town D_Town_is_house D_Town_answers D_Town_check_house D_Town_check_answering
  refine D_Town_come_to.fn.ok sc_Town_come_to (fun vs H Q E h => ?_) (fun cdv A outer s H vs Q E hr h => ?_)
  · obtain ⟨w, td, sd, z, r, hs, sil, TT, i, rfl, _⟩ := h
    rfl
  · obtain ⟨w, td, sd, z, r, hs, sil, TT, i, rfl, hW, hi, hns, hcl64, k⟩ := h
    obtain ⟨⟨dx, hob⟩, htb, hsi, hta, -⟩ := id hW
    have hln := hW.ln
    generalize hE : edge z.toNat (awB hs sil) (fun g => (TT g).ns) = E at k
    have inHs : ∀ x, Rch E i x → x ∈ hs := fun x hx => by
      subst hE
      cases hx with
      | own => exact hi
      | go _ e =>
        have e2 := e.2
        unfold awB at e2
        simp only [Bool.and_eq_true, decide_eq_true_eq] at e2
        exact e2.1
    have cntK : ∀ {ks ws : List Int}, CT E i ks ws → ks.length ≤ hs.length := fun c => len_of_sub c.nd fun x hx => inHs x (c.re x hx)
    refine ⟨_, (pss_cons (ps_expr (pe_meth (pv 0) D_Town.cl D_Town_check_answering.me G_Town_check_answering (hr.mono (by decide)) D_Town_check_answering.b .nil pass0 (pa_cons (pv 1) pa_nil)))
      (pss_cons (ps_set (i := 2) sc_Town_come_to.nd rfl (Or.inl rfl) (pe_disp (pps_cons (pv 1) pe_bl pps_nil) rfl rfl (fun z => nomatch z) (Nat.le_of_ble_eq_true rfl)))
      (pss_cons (ps_set (i := 3) sc_Town_come_to.nd rfl (Or.inl rfl) (pe_lst (pa_cons (pv 1) pa_nil)))
      (pss_cons (ps_while PassesOwn.never (pt_cmpR op_gt (pe_callB call_len_seq rfl T.n_len bt_len (pa_cons (pv 3) pa_nil)) pe_int (nomark _))
       (pss_cons (ps_set (i := 4) sc_Town_come_to.nd rfl (Or.inl rfl) (pe_bm0 PySem.F.plainAttrs_list PySem.F.slot_list_pop PySem.F.type_list_pop mt_pop (pv 3)))
        (pss_one (ps_for PassesOwn.never rfl (pi_list (pe_meth0 (pe_dget (hu_of hr) (pe_fld (pv 0) rfl) (pv 4) (fun _ _ => rfl)) D_Table.cl D_Table_keeps.me G_Table_keeps (hr.mono (by decide)) D_Table_keeps.b .nil pass0)) (pg_name (i := 5) sc_Town_come_to.nd rfl (Or.inl rfl))
         (pss_one (ps_if (PW.pt (pw_and (pt_cmp (pc_dnotin (hu_of hr) (pv 5) (pv 2))) (pw_and1 (pt_val (pe_meth (pv 0) D_Town.cl D_Town_answers.me G_Town_answers (hr.mono (by decide)) D_Town_answers.b .nil pass0 (pa_cons (pv 5) pa_nil))))))
           (pss_cons (ps_dput (hu_of hr) (pv 2) (pv 5) pe_bl rfl)
            (pss_one (ps_expr (pe_bm PySem.F.plainAttrs_list PySem.F.slot_list_append PySem.F.type_list_append mt_append (pv 3) (pa_cons (pv 5) pa_nil)))))
           pss_nil))))))
      (pss_one (ps_ret (pe_callB (call_sortedD rfl) rfl T.n_sorted bt_sorted (pa_cons (pv 2) pa_nil)))))))), ?_⟩
    walk_at "w"
    intro rc hrc
    refine ⟨_, rfl, ?_⟩
    refine ⟨upd_same, [(Sum.inl i, V.bl true)], rfl, (show 1 ≤ 15 by decide), ?_⟩
    have s1 : Same H (upd (upd H rc (.dK [])) rc (.dK (mergeK [] [(Sum.inl i, V.bl true)]))) := ((Same.refl H).lay hrc).put hrc
    have hrc1 : upd (upd H rc (.dK [])) rc (.dK (mergeK [] [(Sum.inl i, V.bl true)])) rc = some (.dK (silD [i])) := upd_same
    generalize upd (upd H rc (.dK [])) rc (.dK (mergeK [] [(Sum.inl i, V.bl true)])) = H1 at s1 hrc1 ⊢
    walk_at "w"
    intro wt hwt
    have s2 : Same H (upd H1 wt (.lst [V.int i])) := s1.put (s1.free hwt)
    have hwt2 : upd H1 wt (.lst [V.int i]) wt = some (.lst [V.int i]) := upd_same
    have hrc2 : upd H1 wt (.lst [V.int i]) rc = some (.dK (silD [i])) := by rw [upd_ne (ne_of_none hrc1 hwt)]; exact hrc1
    have hwt0 : H wt = none := s1.free hwt
    generalize upd H1 wt (.lst [V.int i]) = H2 at s2 hwt2 hrc2 ⊢
    have c0 : CT E i [i] [i] := ⟨by simp, List.mem_singleton.mpr rfl, fun x hx => List.mem_singleton.mp hx ▸ Rch.own, fun x hx => hx⟩
    walk_at "w"
    refine ⟨fun m σ H3 => Hold (∃ (v4 v5 : Option V) (ks ws : List Int), σ = [some (.ref w), some (.int i), some (.ref rc), some (.ref wt), v4, v5] ∧ Same H H3 ∧ H3 rc = some (.dK (silD ks)) ∧ H3 wt = some (.lst (ws.map V.int)) ∧ CT E i ks ws ∧ (∀ a ∈ ks, a ∉ ws → ∀ b, E a b → b ∈ ks) ∧ m = 2 * (hs.length - ks.length) + ws.length ∧ ws.length ≤ 2 * ks.length), ⟨_, ⟨none, none, [i], [i], rfl, s2, hrc2, hwt2, c0, fun a ha hn => absurd ha hn, rfl, by simp⟩⟩, ?_⟩
    rintro m σ H3 ⟨v4, v5, ks, ws, rfl, s3, hrc3, hwt3, c3, cl3, hm, hwl⟩
    have hkl := cntK c3
    rcases snoc_cases ws with rfl | ⟨ws', a, rfl⟩
    · have hkeys : List.map (fun x : Key × V => x.fst) (silD ks) = List.map Sum.inl ks := by
        unfold silD
        rw [List.map_map]
        rfl
      have h64 : ks.length < 64 := by omega
      walk_at "w"
      intro l hl
      refine k l ks _ (s3.put (s3.free hl)) (s3.free hl) upd_same c3.nd fun x => ⟨c3.re x, fun h => Rch.of_closed c3.dm (fun a ha b e => cl3 a ha (fun z => nomatch z) b e) h⟩
    · have hwt3 : H3 wt = some (.lst ((ws' ++ [a]).map V.int)) := hwt3
      have ha : a ∈ ks := c3.ws a (List.mem_append_right _ (List.mem_singleton.mpr rfl))
      have hah := inHs a (c3.re a ha)
      have s4 : Same H (upd H3 wt (.lst (((ws' ++ [a]).map V.int).dropLast))) := s3.put hwt0
      have hob4 := s4 _ _ hob
      have hTa4 := (hta a hah).same s4
      obtain ⟨⟨dxa, hoba⟩, -⟩ := id hTa4
      have hg4 : DGet (upd H3 wt (.lst (((ws' ++ [a]).map V.int).dropLast))) td (V.int a) (some (V.ref (TT a).t)) := by
        have := DGet.k (k := Sum.inl a) (s4 _ _ htb)
        rw [valV_tabs, if_pos hah] at this
        exact this
      have hrc4 : upd H3 wt (.lst (((ws' ++ [a]).map V.int).dropLast)) rc = some (.dK (silD ks)) := by rw [upd_ne (ne_of hrc3 hwt3 (by intro z; cases z))]; exact hrc3
      have hwt4 : upd H3 wt (.lst (((ws' ++ [a]).map V.int).dropLast)) wt = some (.lst (ws'.map V.int)) := by rw [upd_same, drop_snoc]
      have hl0 := hcl64 a hah
      have hlw : ((ws' ++ [a]).map V.int).length = ws'.length + 1 := by simp
      have hlast : ((ws' ++ [a]).map V.int)[((ws' ++ [a]).map V.int).length - 1]? = some (V.int a) := by rw [snoc_map]; simp
      have hpos : (0 : Int) < ((((ws' ++ [a]).map V.int).length : Nat) : Int) := by rw [hlw]; omega
      walk_at "w"
      refine iteD hpos ?_
      refine ⟨fun σ' H' => Hold (∃ (v4 v5 : Option V) (ks ws : List Int), σ' = [some (.ref w), some (.int i), some (.ref rc), some (.ref wt), v4, v5] ∧ Same H H' ∧ H' rc = some (.dK (silD ks)) ∧ H' wt = some (.lst (ws.map V.int)) ∧ CT E i ks ws ∧ (∀ a ∈ ks, a ∉ ws → ∀ b, E a b → b ∈ ks) ∧ 2 * (hs.length - ks.length) + ws.length < m ∧ ws.length ≤ 2 * ks.length), fun σ' H' ⟨v4, v5, ks, ws, e, a, b, c, d, f, g, h⟩ => ⟨_, g, ⟨v4, v5, ks, ws, e, a, b, c, d, f, rfl, h⟩⟩, ?_⟩
      walk_at "w"
      intro kl H5 hkl0 hkl5 s5
      have nkw : kl ≠ wt := fun e => by rw [e, upd_same] at hkl0; cases hkl0
      have nkr : kl ≠ rc := (ne_of_none hrc4 hkl0).symm
      have hrc5 := s5 _ _ hrc4
      have hwt5 := s5 _ _ hwt4
      walk_at "w"
      refine for_list (K := K) (a := kl) (xs := (sortI (catN (TT a).ns z.toNat)).map V.int) (fun j σ H6 => Hold (∃ (v5 : Option V) (ks6 ws6 : List Int), σ = [some (.ref w), some (.int i), some (.ref rc), some (.ref wt), some (.int a), v5] ∧ Same H H6 ∧ H6 kl = some (.lst ((sortI (catN (TT a).ns z.toNat)).map V.int)) ∧ H6 rc = some (.dK (silD ks6)) ∧ H6 wt = some (.lst (ws6.map V.int)) ∧ CT E i ks6 ws6 ∧ a ∈ ks6 ∧
          (∀ g ∈ ks6, g ∉ ws6 → g = a ∨ ∀ b, E g b → b ∈ ks6) ∧ (∀ x ∈ (sortI (catN (TT a).ns z.toNat)).take j, awB hs sil x = true → x ∈ ks6) ∧ 2 * (hs.length - ks6.length) + ws6.length < m ∧ ws6.length ≤ 2 * ks6.length)) ?_ (fun j σ H6 _ ⟨_, _, _, _, _, e, _⟩ => SqL.of e) ?_ ?_
      · refine ⟨⟨_, ks, ws', rfl, s4.trans s5, hkl5, hrc5, hwt5, ⟨c3.nd, c3.dm, c3.re, fun x hx => c3.ws x (List.mem_append_left _ hx)⟩, ha, fun g hg hn => ?_, fun x hx => absurd hx (by simp), ?_, ?_⟩⟩
        · by_cases e : g = a
          · exact .inl e
          · exact .inr fun b => cl3 g hg (fun y => by
              rcases List.mem_append.mp y with y | y
              · exact hn y
              · exact e (List.mem_singleton.mp y)) b
        · rw [hm, List.length_append, List.length_singleton]
          omega
        · rw [List.length_append, List.length_singleton] at hwl
          omega
      · rintro j y σ H6 hj ⟨v5, ks6, ws6, rfl, s6, hkl6, hrc6, hwt6, c6, ha6, cl6, dn6, hm6, hwl6⟩
        obtain ⟨x, hx, rfl⟩ : ∃ x, (sortI (catN (TT a).ns z.toNat))[j]? = some x ∧ y = V.int x := by
          rw [List.getElem?_map] at hj
          cases e : (sortI (catN (TT a).ns z.toNat))[j]? with
          | none => rw [e] at hj; cases hj
          | some x => rw [e] at hj; exact ⟨x, rfl, (Option.some.inj hj).symm⟩
        have hxm : x ∈ catN (TT a).ns z.toNat := (sortI_perm _).subset (List.mem_of_getElem? hx)
        have htk : (sortI (catN (TT a).ns z.toNat)).take (j + 1) = (sortI (catN (TT a).ns z.toNat)).take j ++ [x] := take_snoc hx
        have hW6 : TownAt D_Bucket.C D_Table.C D_Town.C H6 w td sd z r hs sil TT := hW.keep fun q o _ e => s6 _ _ e
        obtain ⟨⟨dx6, hob6⟩, -⟩ := id hW6
        have hkl6' := cntK c6
        have hvs := valV_sil (sil := ks6) (i := x)
        walk_at "w"
        rw [hvs]
        by_cases hxk : x ∈ ks6
        · rw [decide_eq_true hxk]
          refine ⟨⟨_, ks6, ws6, rfl, s6, hkl6, hrc6, hwt6, c6, ha6, cl6, fun y hy hay => ?_, hm6, hwl6⟩⟩
          rw [htk] at hy
          rcases List.mem_append.mp hy with hy | hy
          · exact dn6 y hy hay
          · exact List.mem_singleton.mp hy ▸ hxk
        · rw [decide_eq_false hxk]
          walk_at "w"
          refine .inl ⟨x, rfl, ?_⟩
          rw [awB_of hW.hb hW.z1 x]
          cases hax : awB hs sil x with
          | false =>
            walk_at "w"
            refine ⟨⟨_, ks6, ws6, rfl, s6, hkl6, hrc6, hwt6, c6, ha6, cl6, fun y hy hay => ?_, hm6, hwl6⟩⟩
            rw [htk] at hy
            rcases List.mem_append.mp hy with hy | hy
            · exact dn6 y hy hay
            · rw [List.mem_singleton.mp hy, hax] at hay
              cases hay
          | true =>
            have hszd : (silD ks6).length < sizeLine := by
              unfold silD
              rw [List.length_map]
              exact small1000 (by omega)
            have hput : DPut H6 rc (V.int x) (V.bl true) (upd H6 rc (.dK (putK (silD ks6) (Sum.inl x) (V.bl true)))) := DPut.k (k := Sum.inl x) hrc6 hszd
            have nrw : wt ≠ rc := ne_of hwt6 hrc6 (by intro z; cases z)
            have hwt7 : upd H6 rc (.dK (putK (silD ks6) (Sum.inl x) (V.bl true))) wt = some (.lst (ws6.map V.int)) := by rw [upd_ne nrw]; exact hwt6
            have hszw : (ws6.map V.int).length < sizeLine := by
              rw [List.length_map]
              exact small1000 (by omega)
            walk_at "w"
            have hRx : Rch E i x := by
              subst hE
              exact .go (c6.re a ha6) ⟨hxm, hax⟩
            refine ⟨⟨_, ks6 ++ [x], ws6 ++ [x], rfl, (s6.put hrc).put hwt0, ?_, ?_, ?_, ⟨snoc_nodup c6.nd hxk, List.mem_append_left _ c6.dm, fun y hy => ?_, fun y hy => ?_⟩, List.mem_append_left _ ha6, fun g hg hn => ?_, fun y hy hay => ?_, ?_, ?_⟩⟩
            · rw [upd_ne nkw, upd_ne nkr]
              exact hkl6
            · rw [upd_ne nrw.symm, upd_same, silD_put hxk]
            · rw [upd_same, snoc_map]
            · rcases List.mem_append.mp hy with y1 | y1
              · exact c6.re y y1
              · exact List.mem_singleton.mp y1 ▸ hRx
            · rcases List.mem_append.mp hy with y1 | y1
              · exact List.mem_append_left _ (c6.ws y y1)
              · exact List.mem_append_right _ y1
            · rcases List.mem_append.mp hg with y1 | y1
              · rcases cl6 g y1 (fun z => hn (List.mem_append_left _ z)) with e | e
                · exact .inl e
                · exact .inr fun b hb => List.mem_append_left _ (e b hb)
              · exact absurd (List.mem_append_right _ y1) hn
            · rw [htk] at hy
              rcases List.mem_append.mp hy with hy | hy
              · exact List.mem_append_left _ (dn6 y hy hay)
              · exact List.mem_append_right _ hy
            · have := len_of_sub (snoc_nodup c6.nd hxk) (b := hs) fun y hy => (List.mem_append.mp hy).elim (fun z => inHs y (c6.re y z)) fun z => inHs y (List.mem_singleton.mp z ▸ hRx)
              rw [List.length_append, List.length_singleton] at this ⊢
              rw [List.length_append, List.length_singleton]
              omega
            · rw [List.length_append, List.length_singleton, List.length_append, List.length_singleton]
              omega
      · rintro σ H6 ⟨v5, ks6, ws6, rfl, s6, hkl6, hrc6, hwt6, c6, ha6, cl6, dn6, hm6, hwl6⟩
        refine ⟨⟨_, _, ks6, ws6, rfl, s6, hrc6, hwt6, c6, fun g hg hn b hb => ?_, hm6, hwl6⟩⟩
        rcases cl6 g hg hn with rfl | e
        · subst hE
          refine dn6 b ?_ hb.2
          rw [List.take_of_length_le (by rw [List.length_map]; exact Nat.le_refl _)]
          exact (sortI_perm _).symm.subset hb.1
        · exact e b hb
theorem TownAt.ex {CB CT CW w td sd : Addr} {H : Hp} {z r : Int} {hs sil : List Int} {T : Int → TRec} (W : TownAt CB CT CW H w td sd z r hs sil T) {q : Addr} (h : Own td sd z.toNat hs T q) : ∃ o, H q = some o := by
  rcases h with rfl | rfl | ⟨g, hg, rfl | ⟨k, hk, rfl | rfl⟩⟩
  · exact ⟨_, W.tb⟩
  · exact ⟨_, W.si⟩
  · exact ⟨_, (W.ta g hg).li⟩
  · obtain ⟨⟨d, e⟩, _⟩ := (W.ta g hg).bk k hk
    exact ⟨_, e⟩
  · exact ⟨_, ((W.ta g hg).bk k hk).li⟩
theorem TownAt.notOwn {CB CT CW w td sd : Addr} {H : Hp} {z r : Int} {hs sil : List Int} {T : Int → TRec} (W : TownAt CB CT CW H w td sd z r hs sil T) {q : Addr} (h : H q = none) : ¬ Own td sd z.toNat hs T q := fun y => by
  obtain ⟨o, e⟩ := W.ex y
  rw [h] at e
  cases e
def notB (h : Int) (y : Int) : Bool := !decide (V.int y = V.int h)
theorem notB_eq {h y : Int} : notB h y = !decide (y = h) := by
  unfold notB
  by_cases e : y = h
  · rw [e, decide_eq_true rfl, decide_eq_true rfl]
  · rw [decide_eq_false e, decide_eq_false (fun z => e (by injection z))]
theorem notB_ne {h y : Int} (e : notB h y = true) : y ≠ h := fun z => by
  subst z
  unfold notB at e
  rw [decide_eq_true rfl] at e
  cases e
def visL (h : Int) (ks : List Int) : List Int := (sortI ks).filter (notB h)
theorem visL_mem {h x : Int} {ks : List Int} (hx : x ∈ visL h ks) : x ∈ ks ∧ x ≠ h := by
  obtain ⟨a, b⟩ := List.mem_filter.mp hx
  exact ⟨(sortI_perm _).subset a, notB_ne b⟩
theorem NOk.meets {pool : List Int} {z : Nat} {r : Int} {hs : List Int} (hr : 1 ≤ r) {aw : Int → Bool} {a : Int} (ha : a ∈ pool) : ∀ {l : List Int} {N : Int → Nat → List Int}, (∀ x ∈ l, x ∈ pool ∧ x ≠ a) → NOk pool z r hs N → NOk pool z r hs (meetAll r aw N a l)
  | [], _, _, O => O
  | b :: t, N, h, O => NOk.meets (l := t) hr ha (fun x hx => h x (List.mem_cons_of_mem _ hx)) (O.meet hr ha (h b (List.mem_cons_self ..)).1 (h b (List.mem_cons_self ..)).2)
theorem sc_Town_visits : FnScope ["self", "house", "door", "visited", "name"] ["self", "house", "door"] (defScope (inClass (top 19) 23)) := ⟨rfl, rfl, rfl, by decide +kernel, rfl, by decide +kernel, by decide +kernel⟩
def spVisits (CB CT CW T1 : Addr) : Sp := fun vs H Q _ => ∃ (w td sd : Addr) (z r : Int) (hs sil pool : List Int) (T : Int → TRec) (h d : Int), vs = [.ref w, .int h, .int d] ∧ TownAt CB CT CW H w td sd z r hs sil T ∧ Apart z.toNat hs T ∧ h ∈ hs ∧ d ∈ hs ∧ d ∉ sil ∧ NOk pool z.toNat r hs (fun g => (T g).ns) ∧ pool.length < 64 ∧ (∀ x ∈ hs, x ∈ pool) ∧ Tab H T1 (laPos lamH) quH ∧
  ∀ (l : Addr) (ks : List Int) (H' : Hp) (T' : Int → TRec), ks.Nodup → (∀ x, x ∈ ks ↔ Rch (edge z.toNat (awB hs sil) (fun g => (T g).ns)) d x) → TownAt CB CT CW H' w td sd z r hs sil T' → Apart z.toNat hs T' → (fun g => (T' g).ns) = meetAll r (awB hs sil) (fun g => (T g).ns) h (visL h ks) →
    Deed H H' (Own td sd z.toNat hs T) (Own td sd z.toNat hs T') → Tab H' T1 (laPos lamH) quH → H l = none → ¬ Own td sd z.toNat hs T' l → H' l = some (.lst ((visL h ks).map V.int)) → Q (.ref l) H'
theorem ok_Town_visits (T : Txt mg) (hK : K.In base) (D_NoHouse : DfE K mg "NoHouse") (D_Silent : DfE K mg "Silent") (D_far : Df K mg "far" (top 11) ["one", "other"]) (D_step : Df K mg "step" (top 12) ["one", "other"]) (D_is_whole : Df K mg "is_whole" (top 9) ["thing"]) (D_is_name : Df K mg "is_name" (top 10) ["thing", "wide"]) (D_Bucket : DfC K mg "Bucket" ["room", "order"]) (D_Bucket_names : DfM K D_Bucket.C "names" "Bucket.names" (inClass (top 14) 4) ["self"]) (D_Bucket_hears_when_full : DfM K D_Bucket.C "hears_when_full" "Bucket.hears_when_full" (inClass (top 14) 2) ["self", "name", "answers"]) (D_Bucket_hears : DfM K D_Bucket.C "hears" "Bucket.hears" (inClass (top 14) 1) ["self", "name", "answers"]) (D_Table : DfC K mg "Table" ["own", "wide", "room", "buckets"]) (D_Table_keeps : DfM K D_Table.C "keeps" "Table.keeps" (inClass (top 16) 5) ["self"]) (D_Table_bucket_of : DfM K D_Table.C "bucket_of" "Table.bucket_of" (inClass (top 16) 3) ["self", "name"]) (D_Table_hears : DfM K D_Table.C "hears" "Table.hears" (inClass (top 16) 1) ["self", "name", "answers"])
    (D_Town : DfC K mg "Town" ["wide", "room", "tables", "silent"]) (D_Town_is_house : DfM K D_Town.C "is_house" "Town.is_house" (inClass (top 19) 4) ["self", "thing"]) (D_Town_answers : DfM K D_Town.C "answers" "Town.answers" (inClass (top 19) 3) ["self", "name"]) (D_Town_check_house : DfM K D_Town.C "check_house" "Town.check_house" (inClass (top 19) 16) ["self", "thing"]) (D_Town_check_answering : DfM K D_Town.C "check_answering" "Town.check_answering" (inClass (top 19) 17) ["self", "thing"]) (D_Town_come_to : DfM K D_Town.C "come_to" "Town.come_to" (inClass (top 19) 8) ["self", "house"]) (D_Town_hears_of : DfMF K D_Town.C "hears_of" "Town.hears_of" (inClass (top 19) 25) ["self", "house", "name"]) (hB : base.BuiltinsAt mg D_Town_hears_of.P) (D_Town_meet : DfM K D_Town.C "meet" "Town.meet" (inClass (top 19) 24) ["self", "one", "other"]) (D_Town_visits : DfM K D_Town.C "visits" "Town.visits" (inClass (top 19) 23) ["self", "house", "door"]) : FnOk P w K mg base CX0 11 D_Town_visits.f D_Town_visits.fd ["self", "house", "door"] (spVisits D_Bucket.C D_Table.C D_Town.C D_Town_hears_of.P) := by
  have hcl := D_Town.cl
  have G_Town_come_to : FnOk P w K mg base CX0 6 _ _ _ _ := ok_Town_come_to T D_NoHouse D_Silent D_is_whole D_is_name D_Bucket D_Bucket_names D_Table D_Table_keeps D_Town D_Town_is_house D_Town_answers D_Town_check_house D_Town_check_answering D_Town_come_to
  have G_Town_meet : FnOk P w K mg base CX0 10 _ _ _ _ := ok_Town_meet T hK D_far D_step D_is_whole D_is_name D_Bucket D_Bucket_hears_when_full D_Bucket_hears D_Table D_Table_bucket_of D_Table_hears D_Town D_Town_is_house D_Town_answers D_Town_hears_of hB D_Town_meet
  refine D_Town_visits.fn.ok sc_Town_visits (fun vs H Q E h => ?_) (fun cdv A outer s H vs Q E hr h => ?_)
  · obtain ⟨w, td, sd, z, r, hs, sil, pool, TT, h, d, rfl, _⟩ := h
    rfl
  · obtain ⟨w, td, sd, z, r, hs, sil, pool, TT, h, d, rfl, hW, hA, hh, hd, hds, hO, hpl, hps, hT, k⟩ := h
    obtain ⟨⟨dx, hob⟩, -⟩ := id hW
    have hln := hW.ln
    have hr1 := hW.r1
    have hr2 := hW.r2
    have hc64 : ∀ g ∈ hs, (catN (TT g).ns z.toNat).length < 64 := fun g hg => Nat.lt_of_le_of_lt (hO.len hg z.toNat) hpl
    refine ⟨_, (pss_cons (ps_setC (i := 3) sc_Town_visits.nd rfl (Or.inl rfl) rfl (compText_of (own := ["name"]) (caps := [1]) (N' := ["name", "house"]) (by kernel_rfl)) (pi_list (pe_meth (pv 0) D_Town.cl D_Town_come_to.me G_Town_come_to (hr.mono (by decide)) D_Town_come_to.b .nil pass0 (pa_cons (pv 2) pa_nil))) (fun _ _ _ _ _ => (pg_name (i := 0) (show (["name", "house"] : List Str).Nodup by decide +kernel) rfl (Or.inl rfl))) (fun _ _ _ _ _ => (pts_one (pt_cmpR op_ne (pv 0) (pv 1) (nomark _)))) (fun _ _ _ _ _ => (pv 0)))
      (pss_cons (ps_for PassesOwn.never rfl (pi_list (pv 3)) (pg_name (i := 4) sc_Town_visits.nd rfl (Or.inl rfl))
       (pss_one (ps_expr (pe_meth (pv 0) D_Town.cl D_Town_meet.me G_Town_meet (hr.mono (by decide)) D_Town_meet.b .nil pass0 (pa_cons (pv 1) (pa_cons (pv 4) pa_nil))))))
      (pss_one (ps_ret (pv 3))))), ?_⟩
    walk_at "w"
    intro l ks H1 s1 hl hl1 hnd hmem
    have hW1 : TownAt D_Bucket.C D_Table.C D_Town.C H1 w td sd z r hs sil TT := hW.keep fun q o _ e => s1 _ _ e
    have inHs : ∀ x ∈ ks, x ∈ hs := fun x hx => by
      have hx := (hmem x).mp hx
      cases hx with
      | own => exact hd
      | go _ e =>
        have e2 := e.2
        unfold awB at e2
        simp only [Bool.and_eq_true, decide_eq_true_eq] at e2
        exact e2.1
    have hkl : ks.length ≤ hs.length := len_of_sub hnd inHs
    walk_at "w"
    intro D hD
    refine comp_filter (notB h) hD (SqL.of hl1) (by rw [sortI_len]; omega) (fun x hx H2 Qt s2 q => ?_) fun H2 s2 hD2 => ?_
    · walk_at "w"
      exact q H2 (Same.refl H2)
    · have hD2 : H2 D = some (.lst ((visL h ks).map V.int)) := hD2
      have s12 : Same H H2 := s1.trans s2
      have hW2 : TownAt D_Bucket.C D_Table.C D_Town.C H2 w td sd z r hs sil TT := hW.keep fun q o _ e => s12 _ _ e
      have hT2 : Tab H2 D_Town_hears_of.P (laPos lamH) quH := (s12.but _).2 _ _ hT
      have hD0 : H D = none := s1.free hD
      have nD := hW.notOwn hD0
      walk_at "w"
      refine for_list (K := K) (a := D) (xs := (visL h ks).map V.int) (fun j σ H6 => Hold (∃ (v : Option V) (T6 : Int → TRec), σ = [some (.ref w), some (.int h), some (.int d), some (.ref D), v] ∧ TownAt D_Bucket.C D_Table.C D_Town.C H6 w td sd z r hs sil T6 ∧ Apart z.toNat hs T6 ∧ (fun g => (T6 g).ns) = meetAll r (awB hs sil) (fun g => (TT g).ns) h ((visL h ks).take j) ∧ Deed H2 H6 (Own td sd z.toNat hs TT) (Own td sd z.toNat hs T6) ∧ Tab H6 D_Town_hears_of.P (laPos lamH) quH)) ?_ (fun j σ H6 _ ⟨_, _, _, _, _, _, e, _⟩ => SqL.of (e.k _ _ (fun _ z => nomatch z) hD2 nD)) ?_ ?_
      · exact ⟨⟨_, TT, rfl, hW2, hA, rfl, Deed.refl _ _, hT2⟩⟩
      · rintro j y σ H6 hj ⟨v, T6, rfl, W6, A6, e6, d6, hT6⟩
        obtain ⟨x, hx, rfl⟩ : ∃ x, (visL h ks)[j]? = some x ∧ y = V.int x := by
          rw [List.getElem?_map] at hj
          cases e : (visL h ks)[j]? with
          | none => rw [e] at hj; cases hj
          | some x => rw [e] at hj; exact ⟨x, rfl, (Option.some.inj hj).symm⟩
        have hxm := visL_mem (List.mem_of_getElem? hx)
        have hxh := inHs x hxm.1
        have hxn := hxm.2
        have O6 : NOk pool z.toNat r hs (fun g => (T6 g).ns) := by
          rw [e6]
          exact NOk.meets hr1 (hps h hh) (fun y hy => by
            have := visL_mem (List.mem_of_mem_take hy)
            exact ⟨hps y (inHs y this.1), this.2⟩) hO
        have hle6 : ∀ g ∈ hs, ∀ k, ((T6 g).ns k).length ≤ 1000 := fun g hg k => by
          have : (((T6 g).ns k).length : Int) ≤ r := O6.le g hg k
          omega
        obtain ⟨⟨dx6, hob6⟩, -⟩ := id W6
        walk_at "w"
        intro H7 T7 W7 A7 e7 d7 hT7
        refine ⟨⟨_, T7, rfl, W7, A7, ?_, d6.trans d7, hT7⟩⟩
        rw [e7, e6, take_snoc hx, meetAll_snoc]
      · rintro σ H6 ⟨v, T6, rfl, W6, A6, e6, d6, hT6⟩
        rw [List.length_map, List.take_length] at e6
        walk_at "w"
        refine k D ks H6 T6 hnd hmem W6 A6 e6 ((Deed.same s12).trans d6) hT6 hD0 (fun y => ?_) (d6.k _ _ (fun _ z => nomatch z) hD2 nD)
        rcases d6.o D y with y | y
        · exact nD y
        · rw [hD2] at y
          cases y
theorem sc_Town_come : FnScope ["self", "name", "door", "visited"] ["self", "name", "door"] (defScope (inClass (top 19) 11)) := ⟨rfl, rfl, rfl, by decide +kernel, rfl, by decide +kernel, by decide +kernel⟩
def setN (N : Int → Nat → List Int) (i : Int) : Int → Nat → List Int := setH N i (fun _ => [])
def spComeG (CB CT CW T1 : Addr) : Sp := fun vs H Q _ => ∃ (w td sd : Addr) (z r : Int) (hs sil pool : List Int) (T : Int → TRec) (i : Int) (dv : V), vs = [.ref w, .int i, dv] ∧ TownAt CB CT CW H w td sd z r hs sil T ∧ Apart z.toNat hs T ∧ 0 ≤ i ∧ i < 2 ^ z.toNat ∧ i ∉ hs ∧ hs.length < 60 ∧ NOk pool z.toNat r hs (fun g => (T g).ns) ∧ pool.length < 64 ∧ (∀ x ∈ hs, x ∈ pool) ∧ i ∈ pool ∧ (dv = .non ∨ ∃ d, dv = .int d ∧ d ∈ hs ∧ d ∉ sil) ∧ Tab H T1 (laPos lamH) quH ∧
  ∀ (l : Addr) (vis : List Int) (H' : Hp) (T' : Int → TRec), (dv = .non → vis = []) → (∀ d, dv = .int d → ∃ ks : List Int, ks.Nodup ∧ (∀ x, x ∈ ks ↔ Rch (edge z.toNat (awB (hs ++ [i]) sil) (setN (fun g => (T g).ns) i)) d x) ∧ vis = visL i ks) →
    TownAt CB CT CW H' w td sd z r (hs ++ [i]) sil T' → Apart z.toNat (hs ++ [i]) T' → (fun g => (T' g).ns) = meetAll r (awB (hs ++ [i]) sil) (setN (fun g => (T g).ns) i) i vis →
    Deed H H' (Own td sd z.toNat hs T) (Own td sd z.toNat (hs ++ [i]) T') → Tab H' T1 (laPos lamH) quH → H l = none → ¬ Own td sd z.toNat (hs ++ [i]) T' l → H' l = some (.lst (vis.map V.int)) → Q (.ref l) H'
theorem ok_Town_come (T : Txt mg) (hK : K.In base) (D_NoName : DfE K mg "NoName") (D_NoHouse : DfE K mg "NoHouse") (D_Silent : DfE K mg "Silent") (D_Taken : DfE K mg "Taken") (D_far : Df K mg "far" (top 11) ["one", "other"]) (D_step : Df K mg "step" (top 12) ["one", "other"]) (D_is_whole : Df K mg "is_whole" (top 9) ["thing"]) (D_is_name : Df K mg "is_name" (top 10) ["thing", "wide"]) (D_Bucket : DfC K mg "Bucket" ["room", "order"]) (D_Bucket___init__ : DfM K D_Bucket.C "__init__" "Bucket.__init__" (inClass (top 14) 0) ["self", "room"]) (D_Bucket_names : DfM K D_Bucket.C "names" "Bucket.names" (inClass (top 14) 4) ["self"]) (D_Bucket_hears_when_full : DfM K D_Bucket.C "hears_when_full" "Bucket.hears_when_full" (inClass (top 14) 2) ["self", "name", "answers"]) (D_Bucket_hears : DfM K D_Bucket.C "hears" "Bucket.hears" (inClass (top 14) 1) ["self", "name", "answers"]) (D_Table : DfC K mg "Table" ["own", "wide", "room", "buckets"]) (D_Table___init__ : DfM K D_Table.C "__init__" "Table.__init__" (inClass (top 16) 0) ["self", "own", "wide", "room"]) (D_Table_keeps : DfM K D_Table.C "keeps" "Table.keeps" (inClass (top 16) 5) ["self"]) (D_Table_bucket_of : DfM K D_Table.C "bucket_of" "Table.bucket_of" (inClass (top 16) 3) ["self", "name"]) (D_Table_hears : DfM K D_Table.C "hears" "Table.hears" (inClass (top 16) 1) ["self", "name", "answers"])
    (D_Town : DfC K mg "Town" ["wide", "room", "tables", "silent"]) (D_Town_is_house : DfM K D_Town.C "is_house" "Town.is_house" (inClass (top 19) 4) ["self", "thing"]) (D_Town_answers : DfM K D_Town.C "answers" "Town.answers" (inClass (top 19) 3) ["self", "name"]) (D_Town_check_name : DfM K D_Town.C "check_name" "Town.check_name" (inClass (top 19) 15) ["self", "thing"]) (D_Town_check_house : DfM K D_Town.C "check_house" "Town.check_house" (inClass (top 19) 16) ["self", "thing"]) (D_Town_check_answering : DfM K D_Town.C "check_answering" "Town.check_answering" (inClass (top 19) 17) ["self", "thing"]) (D_Town_come_to : DfM K D_Town.C "come_to" "Town.come_to" (inClass (top 19) 8) ["self", "house"]) (D_Town_hears_of : DfMF K D_Town.C "hears_of" "Town.hears_of" (inClass (top 19) 25) ["self", "house", "name"]) (hB : base.BuiltinsAt mg D_Town_hears_of.P) (D_Town_meet : DfM K D_Town.C "meet" "Town.meet" (inClass (top 19) 24) ["self", "one", "other"]) (D_Town_settles : DfM K D_Town.C "settles" "Town.settles" (inClass (top 19) 19) ["self", "house", "visited"]) (D_Town_visits : DfM K D_Town.C "visits" "Town.visits" (inClass (top 19) 23) ["self", "house", "door"]) (D_Town_come : DfMd K D_Town.C "come" "Town.come" (inClass (top 19) 11) ["self", "name", "door"] [Value.none]) : FnOk P w K mg base CX0 12 D_Town_come.f D_Town_come.fd ["self", "name", "door"] (spComeG D_Bucket.C D_Table.C D_Town.C D_Town_hears_of.P) := by
  have hcl := D_Town.cl
  obtain ⟨na1, na2, na3, na4, -⟩ := D_Town.na
  have G_Table___init__ : FnOk P w K mg base CX0 3 _ _ _ _ := ok_Table_init T D_Bucket D_Bucket___init__ D_Table D_Table___init__
  have G_Town_check_name : FnOk P w K mg base CX0 3 _ _ _ _ := ok_Town_check_name (CB := D_Bucket.C) (CT := D_Table.C) T D_NoName D_is_whole D_is_name D_Town D_Town_check_name
  have G_Town_is_house : FnOk P w K mg base CX0 3 _ _ _ _ := ok_Town_is_house (CB := D_Bucket.C) (CT := D_Table.C) T D_is_whole D_is_name D_Town D_Town_is_house
  have G_Town_check_answering : FnOk P w K mg base CX0 5 _ _ _ _ := ok_Town_check_answering (CB := D_Bucket.C) (CT := D_Table.C) T D_NoHouse D_Silent D_is_whole D_is_name D_Town D_Town_is_house D_Town_answers D_Town_check_house D_Town_check_answering
  have G_Town_visits : FnOk P w K mg base CX0 11 _ _ _ _ := ok_Town_visits T hK D_NoHouse D_Silent D_far D_step D_is_whole D_is_name D_Bucket D_Bucket_names D_Bucket_hears_when_full D_Bucket_hears D_Table D_Table_keeps D_Table_bucket_of D_Table_hears D_Town D_Town_is_house D_Town_answers D_Town_check_house D_Town_check_answering D_Town_come_to D_Town_hears_of hB D_Town_meet D_Town_visits
  have G_Town_settles : FnOk P w K mg base CX0 1 _ _ _ _ := ok_Town_settles D_Town_settles
  refine D_Town_come.ok sc_Town_come (fun vs H Q E h => ?_) (fun cdv A outer s H vs Q E hr h => ?_)
  · obtain ⟨w, td, sd, z, r, hs, sil, pool, TT, i, dv, rfl, _⟩ := h
    rfl
  · obtain ⟨w, td, sd, z, r, hs, sil, pool, TT, i, dv, rfl, hW, hA, h0, h1, hni, hlen, hO, hpl, hps, hip, hdv, hTb, k⟩ := h
    obtain ⟨⟨dx, hob⟩, htb, hsi, hta, hnd, hhb, hz1, hz2, hr1, hr2, hln, hts⟩ := id hW
    have hn : nameB z i = true := nameB_of h0 h1 hz1
    have fin : ∀ (t dxt : Addr), H t = none → H dxt = none → dxt ≠ t → ∀ (bl : Addr) (bA lA : Nat → Addr) (H1 : Hp), TabAt D_Bucket.C D_Table.C H1 t bl i z r z.toNat bA lA (fun _ => []) → upd (upd H dxt (.own t)) t (.ins D_Table.C dxt []) bl = none →
        (∀ k, k < z.toNat → upd (upd H dxt (.own t)) t (.ins D_Table.C dxt []) (bA k) = none ∧ upd (upd H dxt (.own t)) t (.ins D_Table.C dxt []) (lA k) = none) → But1 t (upd (upd H dxt (.own t)) t (.ins D_Table.C dxt [])) H1 →
        ∃ (H2 : Hp) (T2 : Int → TRec), H2 = upd H1 td (.dK (putK (tabsD hs TT) (Sum.inl i) (V.ref t))) ∧ H1 td = some (.dK (tabsD hs TT)) ∧ H1 w = some (.ins D_Town.C dx (wF z r td sd)) ∧ TownAt D_Bucket.C D_Table.C D_Town.C H2 w td sd z r (hs ++ [i]) sil T2 ∧ Apart z.toNat (hs ++ [i]) T2 ∧ (fun g => (T2 g).ns) = setN (fun g => (TT g).ns) i ∧ Deed H H2 (Own td sd z.toNat hs TT) (Own td sd z.toNat (hs ++ [i]) T2) ∧ Tab H2 D_Town_hears_of.P (laPos lamH) quH := fun t dxt ht hdx hne bl bA lA H1 hTab hbl hnew hb1 => by
      have s1 : Same H H1 := fun q o e => hb1 q o (by rw [upd_ne (ne_of_none e ht), upd_ne (ne_of_none e hdx)]; exact e) (ne_of_none e ht)
      have old : ∀ {q : Addr}, upd (upd H dxt (.own t)) t (.ins D_Table.C dxt []) q = none → H q = none := fun {q} e => by
        cases eq : H q with
        | none => rfl
        | some o =>
          rw [upd_ne (ne_of_none eq ht), upd_ne (ne_of_none eq hdx), eq] at e
          cases e
      have htb1 := s1 _ _ htb
      have hob1 := s1 _ _ hob
      have ntw : w ≠ td := ne_of hob1 htb1 (by intro z; cases z)
      let T2 : Int → TRec := setH TT i ⟨t, bl, bA, lA, fun _ => []⟩
      have eT : ∀ h ∈ hs, T2 h = TT h := fun h hh => setH_ne (fun e => hni (by rw [← e]; exact hh))
      have eTi : T2 i = ⟨t, bl, bA, lA, fun _ => []⟩ := setH_same
      have fr : ∀ q o, (∀ ps, o ≠ .tbl ps) → (∀ d, o ≠ .dK d) → H1 q = some o → upd H1 td (.dK (putK (tabsD hs TT) (Sum.inl i) (V.ref t))) q = some o := fun q o _ hd e => by
        rw [upd_ne (fun y => by rw [y, htb1] at e; exact hd _ (Option.some.inj e).symm)]
        exact e
      have mem : ∀ {h : Int}, h ∈ hs ++ [i] → h ∈ hs ∧ T2 h = TT h ∨ h = i := fun {h} hh => by
        rcases List.mem_append.mp hh with m | m
        · exact .inl ⟨m, eT h m⟩
        · exact .inr (List.mem_singleton.mp m)
      have exb : ∀ h ∈ hs, ∀ j, j < z.toNat → (∃ o, H ((TT h).bA j) = some o) ∧ (∃ o, H ((TT h).lA j) = some o) := fun h hh j hj => ⟨hW.ex (.inr (.inr ⟨h, hh, .inr ⟨j, hj, .inl rfl⟩⟩)), hW.ex (.inr (.inr ⟨h, hh, .inr ⟨j, hj, .inr rfl⟩⟩))⟩
      have nb : ∀ k, k < z.toNat → H (bA k) = none ∧ H (lA k) = none := fun k hk => ⟨old (hnew k hk).1, old (hnew k hk).2⟩
      refine ⟨_, T2, rfl, htb1, hob1, ⟨⟨dx, ?_⟩, ?_, ?_, fun h hh => ?_, snoc_nodup hnd hni, fun h hh => ?_, hz1, hz2, hr1, hr2, ?_, hts⟩, ⟨?_, ?_, ?_⟩, ?_, ⟨?_, ?_, ?_⟩, ?_⟩
      · exact fr _ _ (fun _ z => nomatch z) (fun _ z => nomatch z) hob1
      · rw [upd_same, putK_new _ (by rw [valV_tabs, if_neg hni])]
        unfold tabsD
        rw [List.map_append]
        congr 2
        congr 1
        · exact List.map_congr_left fun h hh => by rw [eT h hh]
        · show [(Sum.inl i, V.ref t)] = [(Sum.inl i, V.ref (T2 i).t)]
          rw [eTi]
      · rw [upd_ne hts.symm]
        exact s1 _ _ hsi
      · rcases mem hh with ⟨m, e⟩ | rfl
        · rw [e]
          exact (((hta h m).same s1).keepD fr)
        · rw [eTi]
          exact hTab.keepD fr
      · rcases List.mem_append.mp hh with m | m
        · exact hhb h m
        · rw [List.mem_singleton.mp m]
          exact ⟨h0, h1⟩
      · rw [List.length_append, List.length_singleton]
        omega
      · intro h hh g hg hne' a b ha hb
        rcases mem hh with ⟨m1, e1⟩ | rfl <;> rcases mem hg with ⟨m2, e2⟩ | rfl
        · rw [e1, e2]
          exact hA.b h m1 g m2 hne' a b ha hb
        · rw [e1, eTi]
          obtain ⟨o, eo⟩ := (exb h m1 a ha).1
          exact ne_of_none eo (nb b hb).1
        · rw [e2, eTi]
          obtain ⟨o, eo⟩ := (exb g m2 b hb).1
          exact (ne_of_none eo (nb a ha).1).symm
        · exact absurd rfl hne'
      · intro h hh g hg hne' a b ha hb
        rcases mem hh with ⟨m1, e1⟩ | rfl <;> rcases mem hg with ⟨m2, e2⟩ | rfl
        · rw [e1, e2]
          exact hA.l h m1 g m2 hne' a b ha hb
        · rw [e1, eTi]
          obtain ⟨o, eo⟩ := (exb h m1 a ha).2
          exact ne_of_none eo (nb b hb).2
        · rw [e2, eTi]
          obtain ⟨o, eo⟩ := (exb g m2 b hb).2
          exact (ne_of_none eo (nb a ha).2).symm
        · exact absurd rfl hne'
      · intro h hh g hg hne' b hb
        rcases mem hh with ⟨m1, e1⟩ | rfl <;> rcases mem hg with ⟨m2, e2⟩ | rfl
        · rw [e1, e2]
          exact hA.n h m1 g m2 hne' b hb
        · rw [e1, eTi]
          exact ne_of_none (hta h m1).li (nb b hb).2
        · rw [e2, eTi]
          obtain ⟨o, eo⟩ := (exb g m2 b hb).2
          exact (ne_of_none eo (old hbl)).symm
        · exact absurd rfl hne'
      · funext g
        show (setH TT i ⟨t, bl, bA, lA, fun _ => []⟩ g).ns = setH (fun g => (TT g).ns) i (fun _ => []) g
        by_cases e : g = i
        · subst e
          rw [setH_same, setH_same]
        · rw [setH_ne e, setH_ne e]
      · intro q o ho e hno
        rw [upd_ne (fun y => hno (.inl y))]
        exact s1 _ _ e
      · intro q hq
        rcases hq with y | y | ⟨h, hh, y⟩
        · exact .inl (.inl y)
        · exact .inl (.inr (.inl y))
        · rcases mem hh with ⟨m, e⟩ | rfl
          · rw [e] at y
            exact .inl (.inr (.inr ⟨h, m, y⟩))
          · rw [eTi] at y
            rcases y with rfl | ⟨j, hj, rfl | rfl⟩
            · exact .inr (old hbl)
            · exact .inr (nb j hj).1
            · exact .inr (nb j hj).2
      · intro q hq
        by_cases e : q = td
        · rw [e, upd_same] at hq
          cases hq
        · rw [upd_ne e] at hq
          exact s1.free hq
      · have hT1 : Tab H1 D_Town_hears_of.P (laPos lamH) quH := (s1.but _).2 _ _ hTb
        refine Tab.hold hT1 fun q o ho e => ?_
        rw [upd_ne (fun y => ?_)]
        · exact e
        · rw [y, htb1] at e
          cases e
          rcases ho with ⟨x, kk, e2⟩ | e2
          · cases e2
          · obtain ⟨ps, hP, _⟩ := hT1
            rw [← e2, y, htb1] at hP
            cases hP
    have hszd : (tabsD hs TT).length < sizeLine := by
      unfold tabsD
      rw [List.length_map]
      exact small1000 (by omega)
    refine ⟨_, (pss_cons (ps_expr (pe_meth (pv 0) D_Town.cl D_Town_check_name.me G_Town_check_name (hr.mono (by decide)) D_Town_check_name.b .nil pass0 (pa_cons (pv 1) pa_nil)))
      (pss_cons (ps_if (pt_val (pe_meth (pv 0) D_Town.cl D_Town_is_house.me G_Town_is_house (hr.mono (by decide)) D_Town_is_house.b .nil pass0 (pa_cons (pv 1) pa_nil)))
       (pss_one (ps_raise (W := fun _ => False) D_Taken rfl rfl (pa_cons pe_str pa_nil) (fun _ _ _ _ _ _ _ _ _ hw => hw.elim)))
       pss_nil)
      (pss_cons (ps_if (pt_cmpR op_notN (pv 2) pe_non (nomark _))
       (pss_one (ps_expr (pe_meth (pv 0) D_Town.cl D_Town_check_answering.me G_Town_check_answering (hr.mono (by decide)) D_Town_check_answering.b .nil pass0 (pa_cons (pv 2) pa_nil))))
       pss_nil)
      (pss_cons (ps_dput (hu_of hr) (pe_fld (pv 0) rfl) (pv 1) (pe_make (DfM.mk' D_Table D_Table___init__) G_Table___init__ (hr.mono (by decide)) rfl D_Table.hm D_Table___init__.b .nil pass0 (pa_cons (pv 1) (pa_cons (pe_fld (pv 0) rfl) (pa_cons (pe_fld (pv 0) rfl) pa_nil)))) rfl)
      (pss_cons (ps_set (i := 3) sc_Town_come.nd rfl (Or.inl rfl) (pe_ifExp (pt_cmpR op_isN (pv 2) pe_non (nomark _)) (pe_lst pa_nil) (pe_meth (pv 0) D_Town.cl D_Town_visits.me G_Town_visits (hr.mono (by decide)) D_Town_visits.b .nil pass0 (pa_cons (pv 1) (pa_cons (pv 2) pa_nil)))))
      (pss_cons (ps_expr (pe_meth (pv 0) D_Town.cl D_Town_settles.me G_Town_settles (hr.mono (by decide)) D_Town_settles.b .nil pass0 (pa_cons (pv 1) (pa_cons (pv 3) pa_nil))))
      (pss_one (ps_ret (pv 3))))))))), ?_⟩
    walk_at "w"
    refine .inl ⟨i, rfl, ?_⟩
    rw [hn, decide_eq_false hni]
    rcases hdv with rfl | ⟨d, rfl, hd, hds⟩
    · walk_at "w"
      intro t dxt ht hdx hne
      walk_at "w"
      intro bl bA lA H1 hTab hbl hnew hb1
      obtain ⟨H2, T2, rfl, htb1, hob1, W2, A2, e2, d2, hT2⟩ := fin t dxt ht hdx hne bl bA lA H1 hTab hbl hnew hb1
      have hput : DPut H1 td (V.int i) (V.ref t) (upd H1 td (.dK (putK (tabsD hs TT) (Sum.inl i) (V.ref t)))) := DPut.k (k := Sum.inl i) htb1 hszd
      generalize upd H1 td (.dK (putK (tabsD hs TT) (Sum.inl i) (V.ref t))) = H2 at hput W2 d2 hT2 ⊢
      walk_at "w"
      intro l hl
      have s3 : Same H2 (upd H2 l (.lst [])) := Same.new H2 hl
      have hl3 : upd H2 l (.lst []) l = some (.lst []) := upd_same
      generalize upd H2 l (.lst []) = H3 at s3 hl3 ⊢
      have W3 : TownAt D_Bucket.C D_Table.C D_Town.C H3 w td sd z r (hs ++ [i]) sil T2 := W2.keep fun q o _ e => s3 _ _ e
      obtain ⟨⟨dx3, hob3⟩, -⟩ := id W3
      walk_at "w"
      exact k l [] H3 T2 (fun _ => rfl) (fun d y => (nomatch y)) W3 A2 e2 (d2.trans (Deed.same s3)) ((s3.but _).2 _ _ hT2) (d2.e _ hl) (W2.notOwn hl) hl3
    · walk_at "w"
      intro t dxt ht hdx hne
      walk_at "w"
      intro bl bA lA H1 hTab hbl hnew hb1
      obtain ⟨H2, T2, rfl, htb1, hob1, W2, A2, e2, d2, hT2⟩ := fin t dxt ht hdx hne bl bA lA H1 hTab hbl hnew hb1
      have hput : DPut H1 td (V.int i) (V.ref t) (upd H1 td (.dK (putK (tabsD hs TT) (Sum.inl i) (V.ref t)))) := DPut.k (k := Sum.inl i) htb1 hszd
      generalize upd H1 td (.dK (putK (tabsD hs TT) (Sum.inl i) (V.ref t))) = H2 at hput W2 d2 hT2 ⊢
      have O2 : NOk pool z.toNat r (hs ++ [i]) (fun g => (T2 g).ns) := by
        rw [e2]
        unfold setN
        refine ⟨fun h hh k => ?_, fun h hh k => ?_, fun h hh k m hm => ?_⟩
        · by_cases e : h = i
          · rw [e, setH_same]
            exact List.nodup_nil
          · rw [setH_ne e]
            exact hO.nd h ((List.mem_append.mp hh).elim id fun y => absurd (List.mem_singleton.mp y) e) k
        · by_cases e : h = i
          · rw [e, setH_same]
            simp only [List.length_nil]
            omega
          · rw [setH_ne e]
            exact hO.le h ((List.mem_append.mp hh).elim id fun y => absurd (List.mem_singleton.mp y) e) k
        · by_cases e : h = i
          · rw [e, setH_same] at hm
            cases hm
          · rw [setH_ne e] at hm
            exact hO.st h ((List.mem_append.mp hh).elim id fun y => absurd (List.mem_singleton.mp y) e) k m hm
      have hps2 : ∀ x ∈ hs ++ [i], x ∈ pool := fun x hx => (List.mem_append.mp hx).elim (hps x) fun y => List.mem_singleton.mp y ▸ hip
      have him : i ∈ hs ++ [i] := List.mem_append_right _ (List.mem_singleton.mpr rfl)
      have hdm : d ∈ hs ++ [i] := List.mem_append_left _ hd
      obtain ⟨⟨dx2, hob2⟩, -⟩ := id W2
      walk_at "w"
      intro l ks H3 T3 hnd3 hmem W3 A3 e3 d3 hT3 hl hnl hl3
      obtain ⟨⟨dx3, hob3⟩, -⟩ := id W3
      rw [e2] at hmem e3
      walk_at "w"
      exact k l (visL i ks) H3 T3 (fun y => (nomatch y)) (fun d' y => ⟨ks, hnd3, by cases y; exact hmem, rfl⟩) W3 A3 e3 (d2.trans d3) hT3 (d2.e _ hl) hnl hl3
end
local macro_rules | `(tactic| walk_at "fld") => `(tactic| first | exact bF_room _ _ | exact bF_order _ _ | exact bF_full _ _ | exact bF_hears _ _ | exact bF_drops _ _ | exact bF_names _ _ | exact flat_ints _)
local macro_rules | `(tactic| walk_at "fld") => `(tactic| first | exact tF_own _ _ _ _ | exact tF_wide _ _ _ _ | exact tF_room _ _ _ _ | exact tF_buckets _ _ _ _ | exact tF_n1 _ _ _ _ | exact tF_n2 _ _ _ _ | exact tF_n3 _ _ _ _ | exact tF_n4 _ _ _ _ | exact tF_n5 _ _ _ _ | exact tF_n6 _ _ _ _)
local macro_rules | `(tactic| walk_at "fld") => `(tactic| first | exact wF_wide _ _ _ _ | exact wF_room _ _ _ _ | exact wF_tables _ _ _ _ | exact wF_silent _ _ _ _ | exact wF_m _ (by decide +kernel) _ _ _ _ | exact DGet.k (k := Sum.inl _) (by walk_at "hp"))
def delI (h : Int) (l : List Int) : List Int := l.filter fun x => !decide (x = h)
def addI (h : Int) (l : List Int) : List Int := if h ∈ l then l else l ++ [h]
theorem mem_delI {h x : Int} {l : List Int} : x ∈ delI h l ↔ x ∈ l ∧ x ≠ h := by
  unfold delI
  rw [List.mem_filter]
  simp
theorem delI_nodup {h : Int} {l : List Int} (hn : l.Nodup) : (delI h l).Nodup := hn.filter _
theorem delI_le {h : Int} {l : List Int} : (delI h l).length ≤ l.length := List.length_filter_le _ _
theorem delI_len {h : Int} {l : List Int} (hn : l.Nodup) (hh : h ∈ l) : (delI h l).length + 1 = l.length := by
  unfold delI
  rw [filter_erase hn, List.length_erase_of_mem hh]
  have := List.length_pos_of_mem hh
  omega
theorem delI_no {h : Int} {l : List Int} (hh : h ∉ l) : delI h l = l := by
  unfold delI
  refine List.filter_eq_self.mpr fun x hx => ?_
  rw [decide_eq_false (fun (e : x = h) => hh (by rw [← e]; exact hx))]
  rfl
theorem drop_tabs {h : Int} {hs : List Int} {T : Int → TRec} : dropK (tabsD hs T) (Sum.inl h) = tabsD (delI h hs) T := by
  unfold dropK tabsD delI
  rw [List.filter_map]
  congr 1
  refine List.filter_congr fun x _ => ?_
  show decide ((Sum.inl x : Key) ≠ Sum.inl h) = !decide (x = h)
  by_cases e : x = h
  · subst e
    simp
  · rw [decide_eq_false e]
    simp [e]
theorem drop_sil {h : Int} {sil : List Int} : dropK (silD sil) (Sum.inl h) = silD (delI h sil) := by
  unfold dropK silD delI
  rw [List.filter_map]
  congr 1
  refine List.filter_congr fun x _ => ?_
  show decide ((Sum.inl x : Key) ≠ Sum.inl h) = !decide (x = h)
  by_cases e : x = h
  · subst e
    simp
  · rw [decide_eq_false e]
    simp [e]
theorem put_sil {h : Int} {sil : List Int} : putK (silD sil) (Sum.inl h) (V.bl true) = silD (addI h sil) := by
  unfold addI
  by_cases e : h ∈ sil
  · rw [if_pos e]
    unfold putK
    rw [if_pos (by rw [valV_any, valV_sil, decide_eq_true e])]
    unfold silD
    rw [List.map_map]
    refine List.map_congr_left fun x _ => ?_
    show (if (Sum.inl x : Key) = Sum.inl h then ((Sum.inl x : Key), V.bl true) else ((Sum.inl x : Key), V.bl true)) = _
    split <;> rfl
  · rw [if_neg e]
    exact silD_put e
section
variable {CB CT CW w td sd : Addr} {H H' : Hp} {z r : Int} {hs sil : List Int} {T : Int → TRec}
theorem TownAt.dicts (W : TownAt CB CT CW H w td sd z r hs sil T) {hs' sil' : List Int} (k : ∀ q o, H q = some o → q ≠ td → q ≠ sd → H' q = some o) (e1 : H' td = some (.dK (tabsD hs' T))) (e2 : H' sd = some (.dK (silD sil'))) (hn : hs'.Nodup) (hm : ∀ x ∈ hs', x ∈ hs) (hl : hs'.length ≤ 60) : TownAt CB CT CW H' w td sd z r hs' sil' T := by
  obtain ⟨⟨dx, h1⟩, h2, h3, h4, h5, h6, h7, h8, h9, h10, h11, h12⟩ := W
  have up : ∀ q o, (∀ d, o ≠ .dK d) → H q = some o → H' q = some o := fun q o hd e => k q o e (fun y => by rw [y, h2] at e; exact hd _ (Option.some.inj e).symm) (fun y => by rw [y, h3] at e; exact hd _ (Option.some.inj e).symm)
  exact ⟨⟨dx, up _ _ (fun _ z => nomatch z) h1⟩, e1, e2, fun h hh => (h4 h (hm h hh)).keepD fun q o _ hd e => up q o hd e, hn, fun h hh => h6 h (hm h hh), h7, h8, h9, h10, hl, h12⟩
theorem Apart.sub {n : Nat} {hs' : List Int} (A : Apart n hs T) (hm : ∀ x ∈ hs', x ∈ hs) : Apart n hs' T := ⟨fun h hh g hg => A.b h (hm h hh) g (hm g hg), fun h hh g hg => A.l h (hm h hh) g (hm g hg), fun h hh g hg => A.n h (hm h hh) g (hm g hg)⟩
theorem NOk.sub {pool : List Int} {n : Nat} {hs' : List Int} {N : Int → Nat → List Int} (O : NOk pool n r hs N) (hm : ∀ x ∈ hs', x ∈ hs) : NOk pool n r hs' N := ⟨fun h hh => O.nd h (hm h hh), fun h hh => O.le h (hm h hh), fun h hh => O.st h (hm h hh)⟩
theorem Deed.dicts (W : TownAt CB CT CW H w td sd z r hs sil T) {hs' : List Int} (k : ∀ q o, H q = some o → q ≠ td → q ≠ sd → H' q = some o) (x1 : ∃ o, H' td = some o) (x2 : ∃ o, H' sd = some o) (hm : ∀ x ∈ hs', x ∈ hs) : Deed H H' (Own td sd z.toNat hs T) (Own td sd z.toNat hs' T) := by
  refine ⟨fun q o _ e hn => k q o e (fun y => hn (.inl y)) (fun y => hn (.inr (.inl y))), fun q hq => ?_, fun q hq => ?_⟩
  · rcases hq with y | y | ⟨g, hg, y⟩
    · exact .inl (.inl y)
    · exact .inl (.inr (.inl y))
    · exact .inl (.inr (.inr ⟨g, hm g hg, y⟩))
  · cases e : H q with
    | none => rfl
    | some o =>
      exfalso
      by_cases y1 : q = td
      · obtain ⟨o1, e1⟩ := x1
        rw [y1, e1] at hq
        cases hq
      · by_cases y2 : q = sd
        · obtain ⟨o1, e1⟩ := x2
          rw [y2, e1] at hq
          cases hq
        · rw [k q o e y1 y2] at hq
          cases hq
theorem Tab.dicts {T1 : Addr} {po : Pos} {qu : Str} (W : TownAt CB CT CW H w td sd z r hs sil T) (t : Tab H T1 po qu) (k : ∀ q o, H q = some o → q ≠ td → q ≠ sd → H' q = some o) : Tab H' T1 po qu := Tab.hold t fun q o ho e => by
  have key : ∀ d, o ≠ .dK d := fun d y => by
    subst y
    rcases ho with ⟨x, kk, e2⟩ | e2
    · cases e2
    · obtain ⟨ps, hP, _⟩ := t
      rw [← e2, e] at hP
      cases hP
  exact k q o e (fun y => by rw [y, W.tb] at e; exact key _ (Option.some.inj e).symm) (fun y => by rw [y, W.si] at e; exact key _ (Option.some.inj e).symm)
end
section
variable {P : Program} {w : World} {K : PySem.W.Frag} {mg : Str → Option Value} {base : Heap}
def spLeaves : Sp := fun vs H Q _ => ∃ a b : V, vs = [a, b] ∧ Q .non H
theorem sc_Town_leaves : FnScope ["self", "house"] ["self", "house"] (defScope (inClass (top 19) 20)) := ⟨rfl, rfl, rfl, by decide +kernel, rfl, by decide +kernel, by decide +kernel⟩
theorem ok_Town_leaves {CW : Addr} (D : DfM K CW "leaves" "Town.leaves" (inClass (top 19) 20) ["self", "house"]) : FnOk P w K mg base CX0 1 D.f D.fd ["self", "house"] spLeaves := by
  refine D.fn.ok sc_Town_leaves (fun vs H Q E h => ?_) (fun cdv A outer s H vs Q E hr h => ?_)
  · obtain ⟨a, b, rfl, _⟩ := h
    rfl
  · obtain ⟨a, b, rfl, k⟩ := h
    exact ⟨_, (pss_one ps_pass), k⟩
theorem sc_Town_hush : FnScope ["self", "house"] ["self", "house"] (defScope (inClass (top 19) 13)) := ⟨rfl, rfl, rfl, by decide +kernel, rfl, by decide +kernel, by decide +kernel⟩
def spHush (CB CT CW : Addr) : Sp := fun vs H Q _ => ∃ (w td sd : Addr) (z r : Int) (hs sil : List Int) (T : Int → TRec) (i : Int), vs = [.ref w, .int i] ∧ TownAt CB CT CW H w td sd z r hs sil T ∧ i ∈ hs ∧ sil.length ≤ 900 ∧
  ∀ (H' : Hp), TownAt CB CT CW H' w td sd z r hs (addI i sil) T → (∀ q o, H q = some o → q ≠ td → q ≠ sd → H' q = some o) → Q .non H'
theorem ok_Town_hush (T : Txt mg) {CB CT : Addr} (D_NoHouse : DfE K mg "NoHouse") (D_is_whole : Df K mg "is_whole" (top 9) ["thing"]) (D_is_name : Df K mg "is_name" (top 10) ["thing", "wide"]) (D_Town : DfC K mg "Town" ["wide", "room", "tables", "silent"]) (D_Town_is_house : DfM K D_Town.C "is_house" "Town.is_house" (inClass (top 19) 4) ["self", "thing"]) (D_Town_check_house : DfM K D_Town.C "check_house" "Town.check_house" (inClass (top 19) 16) ["self", "thing"]) (D_Town_hush : DfM K D_Town.C "hush" "Town.hush" (inClass (top 19) 13) ["self", "house"]) : FnOk P w K mg base CX0 5 D_Town_hush.f D_Town_hush.fd ["self", "house"] (spHush CB CT D_Town.C) := by
  have hcl := D_Town.cl
  obtain ⟨na1, na2, na3, na4, -⟩ := D_Town.na
  have G_Town_check_house : FnOk P w K mg base CX0 4 _ _ _ _ := ok_Town_check_house (CB := CB) (CT := CT) T D_NoHouse D_is_whole D_is_name D_Town D_Town_is_house D_Town_check_house
  refine D_Town_hush.fn.ok sc_Town_hush (fun vs H Q E h => ?_) (fun cdv A outer s H vs Q E hr h => ?_)
  · obtain ⟨w, td, sd, z, r, hs, sil, TT, i, rfl, _⟩ := h
    rfl
  · obtain ⟨w, td, sd, z, r, hs, sil, TT, i, rfl, hW, hi, hls, k⟩ := h
    obtain ⟨⟨dx, hob⟩, htb, hsi, -⟩ := id hW
    have hszd : (silD sil).length < sizeLine := by
      unfold silD
      rw [List.length_map]
      exact small1000 (by omega)
    have hput : DPut H sd (V.int i) (V.bl true) (upd H sd (.dK (putK (silD sil) (Sum.inl i) (V.bl true)))) := DPut.k (k := Sum.inl i) hsi hszd
    have kk : ∀ q o, H q = some o → q ≠ td → q ≠ sd → upd H sd (.dK (putK (silD sil) (Sum.inl i) (V.bl true))) q = some o := fun q o e _ y => by rw [upd_ne y]; exact e
    have hk := k _ (hW.dicts kk (by rw [upd_ne hW.ts]; exact htb) (by rw [upd_same, put_sil]) hW.nd (fun x hx => hx) hW.ln) kk
    refine ⟨_, (pss_cons (ps_expr (pe_meth (pv 0) D_Town.cl D_Town_check_house.me G_Town_check_house (hr.mono (by decide)) D_Town_check_house.b .nil pass0 (pa_cons (pv 1) pa_nil)))
      (pss_one (ps_dput (hu_of hr) (pe_fld (pv 0) rfl) (pv 1) pe_bl rfl))), ?_⟩
    walk_at "w"
theorem sc_Town_go : FnScope ["self", "house"] ["self", "house"] (defScope (inClass (top 19) 12)) := ⟨rfl, rfl, rfl, by decide +kernel, rfl, by decide +kernel, by decide +kernel⟩
def spGo (CB CT CW : Addr) : Sp := fun vs H Q _ => ∃ (w td sd : Addr) (z r : Int) (hs sil : List Int) (T : Int → TRec) (i : Int), vs = [.ref w, .int i] ∧ TownAt CB CT CW H w td sd z r hs sil T ∧ i ∈ hs ∧
  ∀ (H' : Hp), TownAt CB CT CW H' w td sd z r (delI i hs) (delI i sil) T → (∀ q o, H q = some o → q ≠ td → q ≠ sd → H' q = some o) → Q .non H'
theorem ok_Town_go (T : Txt mg) {CB CT : Addr} (D_NoHouse : DfE K mg "NoHouse") (D_is_whole : Df K mg "is_whole" (top 9) ["thing"]) (D_is_name : Df K mg "is_name" (top 10) ["thing", "wide"]) (D_Town : DfC K mg "Town" ["wide", "room", "tables", "silent"]) (D_Town_is_house : DfM K D_Town.C "is_house" "Town.is_house" (inClass (top 19) 4) ["self", "thing"]) (D_Town_check_house : DfM K D_Town.C "check_house" "Town.check_house" (inClass (top 19) 16) ["self", "thing"]) (D_Town_leaves : DfM K D_Town.C "leaves" "Town.leaves" (inClass (top 19) 20) ["self", "house"]) (D_Town_go : DfM K D_Town.C "go" "Town.go" (inClass (top 19) 12) ["self", "house"]) : FnOk P w K mg base CX0 5 D_Town_go.f D_Town_go.fd ["self", "house"] (spGo CB CT D_Town.C) := by
  have hcl := D_Town.cl
  obtain ⟨na1, na2, na3, na4, -⟩ := D_Town.na
  have G_Town_check_house : FnOk P w K mg base CX0 4 _ _ _ _ := ok_Town_check_house (CB := CB) (CT := CT) T D_NoHouse D_is_whole D_is_name D_Town D_Town_is_house D_Town_check_house
  have G_Town_leaves : FnOk P w K mg base CX0 1 _ _ _ _ := ok_Town_leaves D_Town_leaves
  refine D_Town_go.fn.ok sc_Town_go (fun vs H Q E h => ?_) (fun cdv A outer s H vs Q E hr h => ?_)
  · obtain ⟨w, td, sd, z, r, hs, sil, TT, i, rfl, _⟩ := h
    rfl
  · obtain ⟨w, td, sd, z, r, hs, sil, TT, i, rfl, hW, hi, k⟩ := h
    obtain ⟨⟨dx, hob⟩, htb, hsi, -⟩ := id hW
    have hvt : valV (tabsD hs TT) (Sum.inl i) = some (V.ref (TT i).t) := by rw [valV_tabs, if_pos hi]
    refine ⟨_, (pss_cons (ps_expr (pe_meth (pv 0) D_Town.cl D_Town_check_house.me G_Town_check_house (hr.mono (by decide)) D_Town_check_house.b .nil pass0 (pa_cons (pv 1) pa_nil)))
      (pss_cons (ps_expr (pe_dpop1 (pe_fld (pv 0) rfl) (pv 1) ⟨rfl, rfl, rfl, rfl⟩))
      (pss_cons (ps_expr (pe_dpop2 (pe_fld (pv 0) rfl) (pv 1) pe_non ⟨rfl, rfl, rfl, rfl⟩))
      (pss_one (ps_expr (pe_meth (pv 0) D_Town.cl D_Town_leaves.me G_Town_leaves (hr.mono (by decide)) D_Town_leaves.b .nil pass0 (pa_cons (pv 1) pa_nil))))))), ?_⟩
    walk_at "w"
    refine ⟨.inl ⟨_, .inl htb⟩, _, rfl, _, Sum.inl i, _, htb, rfl, hvt, ?_⟩
    have nw : w ≠ td := ne_of hob htb (by intro z; cases z)
    have hob1 : upd H td (.dK (dropK (tabsD hs TT) (Sum.inl i))) w = some (.ins D_Town.C dx (wF z r td sd)) := by rw [upd_ne nw]; exact hob
    have hsi1 : upd H td (.dK (dropK (tabsD hs TT) (Sum.inl i))) sd = some (.dK (silD sil)) := by rw [upd_ne hW.ts.symm]; exact hsi
    have htb1 : upd H td (.dK (dropK (tabsD hs TT) (Sum.inl i))) td = some (.dK (tabsD (delI i hs) TT)) := by rw [upd_same, drop_tabs]
    have k1 : ∀ q o, H q = some o → q ≠ td → upd H td (.dK (dropK (tabsD hs TT) (Sum.inl i))) q = some o := fun q o e y => by rw [upd_ne y]; exact e
    generalize upd H td (.dK (dropK (tabsD hs TT) (Sum.inl i))) = H1 at hob1 hsi1 htb1 k1 ⊢
    walk_at "w"
    refine ⟨.inl ⟨_, .inl hsi1⟩, _, rfl, _, Sum.inl i, hsi1, rfl, fun v hv => ?_, fun hv => ?_⟩
    · have k2 : ∀ q o, H q = some o → q ≠ td → q ≠ sd → upd H1 sd (.dK (dropK (silD sil) (Sum.inl i))) q = some o := fun q o e y1 y2 => by rw [upd_ne y2]; exact k1 q o e y1
      have hk := k _ (hW.dicts k2 (by rw [upd_ne hW.ts]; exact htb1) (by rw [upd_same, drop_sil]) (delI_nodup hW.nd) (fun x hx => (mem_delI.mp hx).1) (Nat.le_trans delI_le hW.ln)) k2
      have hob2 : upd H1 sd (.dK (dropK (silD sil) (Sum.inl i))) w = some (.ins D_Town.C dx (wF z r td sd)) := by rw [upd_ne (ne_of hob1 hsi1 (by intro z; cases z))]; exact hob1
      walk_at "w"
    · have hni : i ∉ sil := fun y => by
        have := valV_sil (sil := sil) (i := i)
        rw [hv, decide_eq_true y] at this
        cases this
      have hk := k H1 (hW.dicts (fun q o e y1 _ => k1 q o e y1) htb1 (by rw [delI_no hni]; exact hsi1) (delI_nodup hW.nd) (fun x hx => (mem_delI.mp hx).1) (Nat.le_trans delI_le hW.ln)) (fun q o e y1 _ => k1 q o e y1)
      walk_at "w"
theorem sc_Town_wake : FnScope ["self", "house", "door", "visited"] ["self", "house", "door"] (defScope (inClass (top 19) 14)) := ⟨rfl, rfl, rfl, by decide +kernel, rfl, by decide +kernel, by decide +kernel⟩
def spWake (CB CT CW T1 : Addr) : Sp := fun vs H Q _ => ∃ (w td sd : Addr) (z r : Int) (hs sil pool : List Int) (T : Int → TRec) (h d : Int), vs = [.ref w, .int h, .int d] ∧ TownAt CB CT CW H w td sd z r hs sil T ∧ Apart z.toNat hs T ∧ h ∈ hs ∧ h ∈ sil ∧ d ∈ hs ∧ d ∉ sil ∧ NOk pool z.toNat r hs (fun g => (T g).ns) ∧ pool.length < 64 ∧ (∀ x ∈ hs, x ∈ pool) ∧ Tab H T1 (laPos lamH) quH ∧
  ∀ (l : Addr) (ks : List Int) (H' : Hp) (T' : Int → TRec), ks.Nodup → (∀ x, x ∈ ks ↔ Rch (edge z.toNat (awB hs (delI h sil)) (fun g => (T g).ns)) d x) → TownAt CB CT CW H' w td sd z r hs (delI h sil) T' → Apart z.toNat hs T' → (fun g => (T' g).ns) = meetAll r (awB hs (delI h sil)) (fun g => (T g).ns) h (visL h ks) →
    Deed H H' (Own td sd z.toNat hs T) (Own td sd z.toNat hs T') → Tab H' T1 (laPos lamH) quH → H l = none → ¬ Own td sd z.toNat hs T' l → H' l = some (.lst ((visL h ks).map V.int)) → Q (.ref l) H'
theorem ok_Town_wake (T : Txt mg) (hK : K.In base) (D_NoHouse : DfE K mg "NoHouse") (D_Silent : DfE K mg "Silent") (D_Taken : DfE K mg "Taken") (D_far : Df K mg "far" (top 11) ["one", "other"]) (D_step : Df K mg "step" (top 12) ["one", "other"]) (D_is_whole : Df K mg "is_whole" (top 9) ["thing"]) (D_is_name : Df K mg "is_name" (top 10) ["thing", "wide"]) (D_Bucket : DfC K mg "Bucket" ["room", "order"]) (D_Bucket_names : DfM K D_Bucket.C "names" "Bucket.names" (inClass (top 14) 4) ["self"]) (D_Bucket_hears_when_full : DfM K D_Bucket.C "hears_when_full" "Bucket.hears_when_full" (inClass (top 14) 2) ["self", "name", "answers"]) (D_Bucket_hears : DfM K D_Bucket.C "hears" "Bucket.hears" (inClass (top 14) 1) ["self", "name", "answers"]) (D_Table : DfC K mg "Table" ["own", "wide", "room", "buckets"]) (D_Table_keeps : DfM K D_Table.C "keeps" "Table.keeps" (inClass (top 16) 5) ["self"]) (D_Table_bucket_of : DfM K D_Table.C "bucket_of" "Table.bucket_of" (inClass (top 16) 3) ["self", "name"]) (D_Table_hears : DfM K D_Table.C "hears" "Table.hears" (inClass (top 16) 1) ["self", "name", "answers"])
    (D_Town : DfC K mg "Town" ["wide", "room", "tables", "silent"]) (D_Town_is_house : DfM K D_Town.C "is_house" "Town.is_house" (inClass (top 19) 4) ["self", "thing"]) (D_Town_answers : DfM K D_Town.C "answers" "Town.answers" (inClass (top 19) 3) ["self", "name"]) (D_Town_check_house : DfM K D_Town.C "check_house" "Town.check_house" (inClass (top 19) 16) ["self", "thing"]) (D_Town_check_answering : DfM K D_Town.C "check_answering" "Town.check_answering" (inClass (top 19) 17) ["self", "thing"]) (D_Town_come_to : DfM K D_Town.C "come_to" "Town.come_to" (inClass (top 19) 8) ["self", "house"]) (D_Town_hears_of : DfMF K D_Town.C "hears_of" "Town.hears_of" (inClass (top 19) 25) ["self", "house", "name"]) (hB : base.BuiltinsAt mg D_Town_hears_of.P) (D_Town_meet : DfM K D_Town.C "meet" "Town.meet" (inClass (top 19) 24) ["self", "one", "other"]) (D_Town_settles : DfM K D_Town.C "settles" "Town.settles" (inClass (top 19) 19) ["self", "house", "visited"]) (D_Town_visits : DfM K D_Town.C "visits" "Town.visits" (inClass (top 19) 23) ["self", "house", "door"]) (D_Town_wake : DfM K D_Town.C "wake" "Town.wake" (inClass (top 19) 14) ["self", "house", "door"]) : FnOk P w K mg base CX0 12 D_Town_wake.f D_Town_wake.fd ["self", "house", "door"] (spWake D_Bucket.C D_Table.C D_Town.C D_Town_hears_of.P) := by
  have hcl := D_Town.cl
  obtain ⟨na1, na2, na3, na4, -⟩ := D_Town.na
  have G_Town_answers : FnOk P w K mg base CX0 4 _ _ _ _ := ok_Town_answers (CB := D_Bucket.C) (CT := D_Table.C) T D_is_whole D_is_name D_Town D_Town_is_house D_Town_answers
  have G_Town_check_house : FnOk P w K mg base CX0 4 _ _ _ _ := ok_Town_check_house (CB := D_Bucket.C) (CT := D_Table.C) T D_NoHouse D_is_whole D_is_name D_Town D_Town_is_house D_Town_check_house
  have G_Town_check_answering : FnOk P w K mg base CX0 5 _ _ _ _ := ok_Town_check_answering (CB := D_Bucket.C) (CT := D_Table.C) T D_NoHouse D_Silent D_is_whole D_is_name D_Town D_Town_is_house D_Town_answers D_Town_check_house D_Town_check_answering
  have G_Town_visits : FnOk P w K mg base CX0 11 _ _ _ _ := ok_Town_visits T hK D_NoHouse D_Silent D_far D_step D_is_whole D_is_name D_Bucket D_Bucket_names D_Bucket_hears_when_full D_Bucket_hears D_Table D_Table_keeps D_Table_bucket_of D_Table_hears D_Town D_Town_is_house D_Town_answers D_Town_check_house D_Town_check_answering D_Town_come_to D_Town_hears_of hB D_Town_meet D_Town_visits
  have G_Town_settles : FnOk P w K mg base CX0 1 _ _ _ _ := ok_Town_settles D_Town_settles
  refine D_Town_wake.fn.ok sc_Town_wake (fun vs H Q E h => ?_) (fun cdv A outer s H vs Q E hr h => ?_)
  · obtain ⟨w, td, sd, z, r, hs, sil, pool, TT, h, d, rfl, _⟩ := h
    rfl
  · obtain ⟨w, td, sd, z, r, hs, sil, pool, TT, h, d, rfl, hW, hA, hh, hsl, hd, hds, hO, hpl, hps, hT, k⟩ := h
    obtain ⟨⟨dx, hob⟩, htb, hsi, -⟩ := id hW
    have hn : nameB z h = true := nameB_of (hW.hb h hh).1 (hW.hb h hh).2 hW.z1
    refine ⟨_, (pss_cons (ps_expr (pe_meth (pv 0) D_Town.cl D_Town_check_house.me G_Town_check_house (hr.mono (by decide)) D_Town_check_house.b .nil pass0 (pa_cons (pv 1) pa_nil)))
      (pss_cons (ps_if (pt_val (pe_meth (pv 0) D_Town.cl D_Town_answers.me G_Town_answers (hr.mono (by decide)) D_Town_answers.b .nil pass0 (pa_cons (pv 1) pa_nil)))
       (pss_one (ps_raise (W := fun _ => False) D_Taken rfl rfl (pa_cons pe_str pa_nil) (fun _ _ _ _ _ _ _ _ _ hw => hw.elim)))
       pss_nil)
      (pss_cons (ps_expr (pe_meth (pv 0) D_Town.cl D_Town_check_answering.me G_Town_check_answering (hr.mono (by decide)) D_Town_check_answering.b .nil pass0 (pa_cons (pv 2) pa_nil)))
      (pss_cons (ps_expr (pe_dpop1 (pe_fld (pv 0) rfl) (pv 1) ⟨rfl, rfl, rfl, rfl⟩))
      (pss_cons (ps_set (i := 3) sc_Town_wake.nd rfl (Or.inl rfl) (pe_meth (pv 0) D_Town.cl D_Town_visits.me G_Town_visits (hr.mono (by decide)) D_Town_visits.b .nil pass0 (pa_cons (pv 1) (pa_cons (pv 2) pa_nil))))
      (pss_cons (ps_expr (pe_meth (pv 0) D_Town.cl D_Town_settles.me G_Town_settles (hr.mono (by decide)) D_Town_settles.b .nil pass0 (pa_cons (pv 1) (pa_cons (pv 3) pa_nil))))
      (pss_one (ps_ret (pv 3))))))))), ?_⟩
    walk_at "w"
    refine .inl ⟨h, rfl, ?_⟩
    rw [hn, decide_eq_true hh, decide_eq_true hsl]
    obtain ⟨vv, hvv⟩ : ∃ v, valV (silD sil) (Sum.inl h) = some v := by
      have := valV_sil (sil := sil) (i := h)
      rw [decide_eq_true hsl] at this
      exact Option.isSome_iff_exists.mp this
    walk_at "w"
    refine ⟨.inl ⟨_, .inl hsi⟩, _, rfl, _, Sum.inl h, _, hsi, rfl, hvv, ?_⟩
    have k1 : ∀ q o, H q = some o → q ≠ td → q ≠ sd → upd H sd (.dK (dropK (silD sil) (Sum.inl h))) q = some o := fun q o e _ y => by rw [upd_ne y]; exact e
    have W1 : TownAt D_Bucket.C D_Table.C D_Town.C (upd H sd (.dK (dropK (silD sil) (Sum.inl h)))) w td sd z r hs (delI h sil) TT := hW.dicts k1 (by rw [upd_ne hW.ts]; exact htb) (by rw [upd_same, drop_sil]) hW.nd (fun x hx => hx) hW.ln
    have d1 : Deed H (upd H sd (.dK (dropK (silD sil) (Sum.inl h)))) (Own td sd z.toNat hs TT) (Own td sd z.toNat hs TT) := Deed.dicts hW k1 ⟨_, W1.tb⟩ ⟨_, W1.si⟩ (fun x hx => hx)
    have hT1 : Tab (upd H sd (.dK (dropK (silD sil) (Sum.inl h)))) D_Town_hears_of.P (laPos lamH) quH := Tab.dicts hW hT k1
    generalize upd H sd (.dK (dropK (silD sil) (Sum.inl h))) = H1 at k1 W1 d1 hT1 ⊢
    have hds1 : d ∉ delI h sil := fun y => hds (mem_delI.mp y).1
    obtain ⟨⟨dx1, hob1⟩, -⟩ := id W1
    walk_at "w"
    intro l ks H2 T2 hnd hmem W2 A2 e2 d2 hT2 hl hnl hl2
    obtain ⟨⟨dx2, hob2⟩, -⟩ := id W2
    walk_at "w"
    exact k l ks H2 T2 hnd hmem W2 A2 e2 (d1.trans d2) hT2 (d1.e _ hl) hnl hl2
end
local macro_rules | `(tactic| walk_at "fld") => `(tactic| first | exact bF_room _ _ | exact bF_order _ _ | exact bF_full _ _ | exact bF_hears _ _ | exact bF_drops _ _ | exact bF_names _ _ | exact flat_ints _)
local macro_rules | `(tactic| walk_at "fld") => `(tactic| first | exact tF_own _ _ _ _ | exact tF_wide _ _ _ _ | exact tF_room _ _ _ _ | exact tF_buckets _ _ _ _ | exact tF_n1 _ _ _ _ | exact tF_n2 _ _ _ _ | exact tF_n3 _ _ _ _ | exact tF_n4 _ _ _ _ | exact tF_n5 _ _ _ _ | exact tF_n6 _ _ _ _)
local macro_rules | `(tactic| walk_at "fld") => `(tactic| first | exact wF_wide _ _ _ _ | exact wF_room _ _ _ _ | exact wF_tables _ _ _ _ | exact wF_silent _ _ _ _ | exact wF_m _ (by decide +kernel) _ _ _ _ | exact DGet.k (k := Sum.inl _) (by walk_at "hp"))
theorem cut_sub (ns : List Int) (lo hi : Option Int) : ∃ ts : List Int, cutV (ns.map V.int) lo hi = ts.map V.int ∧ ts.length ≤ ns.length ∧ ∀ x ∈ ts, x ∈ ns := by
  unfold cutV
  refine ⟨(ns.drop _).take _, by rw [← List.map_drop, ← List.map_take], ?_, fun x hx => List.mem_of_mem_drop (List.mem_of_mem_take hx)⟩
  rw [List.length_take, List.length_drop]
  omega
theorem cut_take (ns : List Int) {m : Int} (hm : 0 ≤ m) : cutV (ns.map V.int) none (some m) = (ns.take m.toNat).map V.int := by
  obtain ⟨k, rfl⟩ : ∃ k : Nat, m = k := ⟨m.toNat, by omega⟩
  unfold cutV
  rw [HT.sIx_none, HT.sIx_nat, List.drop_zero, Nat.sub_zero, List.length_map, ← List.map_take, Int.toNat_natCast]
  congr 1
  rcases Nat.le_total k ns.length with h | h
  · rw [Nat.min_eq_left h]
  · rw [Nat.min_eq_right h, List.take_length, List.take_of_length_le h]
structure MRec where
  d : Addr
  ks : List Nat
  l : Nat → Addr
abbrev castL (ks : List Nat) : List Int := ks.map fun (k : Nat) => (k : Int)
theorem mem_castL {ks : List Nat} {k : Nat} : ((k : Nat) : Int) ∈ castL ks ↔ k ∈ ks := by
  constructor
  · intro h
    obtain ⟨j, hj, e⟩ := List.mem_map.mp h
    have : j = k := by omega
    exact this ▸ hj
  · intro h
    exact List.mem_map.mpr ⟨k, h, rfl⟩
abbrev recD (f : Int → Addr) : Int → TRec := fun h => ⟨f h, 0, fun _ => 0, fun _ => 0, fun _ => []⟩
def mtD (hs : List Int) (M : Int → MRec) : List (Key × V) := tabsD hs (recD fun h => (M h).d)
def mhD (R : MRec) : List (Key × V) := tabsD (castL R.ks) (recD fun i => R.l i.toNat)
theorem valV_mt {hs : List Int} {M : Int → MRec} {i : Int} : valV (mtD hs M) (Sum.inl i) = if i ∈ hs then some (V.ref (M i).d) else none := valV_tabs
theorem valV_mh {R : MRec} {k : Nat} : valV (mhD R) (Sum.inl (k : Int)) = if k ∈ R.ks then some (V.ref (R.l k)) else none := by
  unfold mhD
  rw [valV_tabs]
  by_cases h : k ∈ R.ks
  · rw [if_pos h, if_pos (mem_castL.mpr h)]
    rfl
  · rw [if_neg h, if_neg (fun z => h (mem_castL.mp z))]
theorem mt_keys {hs : List Int} {M : Int → MRec} : (mtD hs M).map (·.1) = hs.map Sum.inl := by
  unfold mtD tabsD
  rw [List.map_map]
  rfl
theorem mt_len {hs : List Int} {M : Int → MRec} : (mtD hs M).length = hs.length := by
  unfold mtD tabsD
  rw [List.length_map]
theorem mh_len {R : MRec} : (mhD R).length = R.ks.length := by
  unfold mhD tabsD
  rw [List.length_map, List.length_map]
structure MdlAt (H : Hp) (md mt mq : Addr) (r : Int) (z : Nat) (hs sil : List Int) (N : Int → Nat → List Int) (M : Int → MRec) : Prop where
  d : ∃ kv, H md = some (.dK kv) ∧ valV kv (Sum.inr ("tables" : Str)) = some (V.ref mt) ∧ valV kv (Sum.inr ("quiet" : Str)) = some (V.ref mq) ∧ valV kv (Sum.inr ("room" : Str)) = some (V.int r)
  t : Rd H mt (.dK (mtD hs M))
  q : H mq = some (.dK (silD sil))
  h : ∀ h ∈ hs, H (M h).d = some (.dK (mhD (M h)))
  l : ∀ h ∈ hs, ∀ k ∈ (M h).ks, H ((M h).l k) = some (.lst ((N h k).map V.int))
  nd : ∀ h ∈ hs, (M h).ks.Nodup
  no : ∀ h ∈ hs, ∀ k, k ∉ (M h).ks → N h k = []
  dj : ∀ h ∈ hs, ∀ g ∈ hs, h ≠ g → (M h).d ≠ (M g).d
  n1 : ∀ h ∈ hs, (M h).d ≠ md ∧ (M h).d ≠ mt ∧ (M h).d ≠ mq
  n2 : mt ≠ md ∧ mt ≠ mq ∧ md ≠ mq
  hn : hs.Nodup
  ln : hs.length ≤ 60
  kl : ∀ h ∈ hs, ∀ k ∈ (M h).ks, k < z
  zl : z ≤ 60
def MFoot (md mt mq : Addr) (hs : List Int) (M : Int → MRec) (q : Addr) : Prop := q = md ∨ q = mt ∨ q = mq ∨ ∃ h ∈ hs, q = (M h).d ∨ ∃ k ∈ (M h).ks, q = (M h).l k
structure MDeed (H H' : Hp) (F F' : Addr → Prop) : Prop where
  k : ∀ q o, H q = some o → (∀ d, o ≠ .dK d) → H' q = some o
  n : ∀ q o, H q = some o → ¬ F q → H' q = some o
  o : ∀ q, F' q → F q ∨ H q = none
  e : ∀ q, H' q = none → H q = none
theorem MDeed.same {H H' : Hp} {F : Addr → Prop} (s : Same H H') : MDeed H H' F F := ⟨fun _ _ e _ => s _ _ e, fun _ _ e _ => s _ _ e, fun _ h => .inl h, fun q h => s.free h⟩
theorem MDeed.trans {H H1 H2 : Hp} {F F1 F2 : Addr → Prop} (a : MDeed H H1 F F1) (b : MDeed H1 H2 F1 F2) : MDeed H H2 F F2 := by
  refine ⟨fun q o e ho => b.k q o (a.k q o e ho) ho, fun q o e hn => b.n q o (a.n q o e hn) fun z => ?_, fun q z => ?_, fun q h => a.e q (b.e q h)⟩
  · rcases a.o q z with y | y
    · exact hn y
    · rw [e] at y
      cases y
  · rcases b.o q z with y | y
    · exact a.o q y
    · exact .inr (a.e q y)
section
variable {H H' : Hp} {md mt mq : Addr} {r : Int} {z : Nat} {hs sil : List Int} {N : Int → Nat → List Int} {M : Int → MRec}
theorem MdlAt.len (W : MdlAt H md mt mq r z hs sil N M) {h : Int} (hh : h ∈ hs) : (M h).ks.length ≤ 60 := by
  have := len_of_sub (a := castL (M h).ks) (b := castL (List.range 60)) (List.Pairwise.map (fun (k : Nat) => (k : Int)) (fun a b (hab : a ≠ b) (e : (a : Int) = (b : Int)) => hab (by omega)) (W.nd h hh)) (fun x hx => by
    obtain ⟨k, hk, rfl⟩ := List.mem_map.mp hx
    exact List.mem_map.mpr ⟨k, List.mem_range.mpr (Nat.lt_of_lt_of_le (W.kl h hh k hk) W.zl), rfl⟩)
  simpa using this
theorem MdlAt.ex (W : MdlAt H md mt mq r z hs sil N M) {q : Addr} (h : MFoot md mt mq hs M q) : ∃ o, H q = some o := by
  rcases h with rfl | rfl | rfl | ⟨h, hh, rfl | ⟨k, hk, rfl⟩⟩
  · obtain ⟨kv, e, _⟩ := W.d
    exact ⟨_, e⟩
  · rcases W.t with e | ⟨o, e⟩
    · exact ⟨_, e⟩
    · exact ⟨_, e⟩
  · exact ⟨_, W.q⟩
  · exact ⟨_, W.h h hh⟩
  · exact ⟨_, W.l h hh k hk⟩
theorem MdlAt.keep (W : MdlAt H md mt mq r z hs sil N M) (s : ∀ q, MFoot md mt mq hs M q → ∀ o, (∀ ps, o ≠ .tbl ps) → H q = some o → H' q = some o) : MdlAt H' md mt mq r z hs sil N M := by
  obtain ⟨kv, e, a, b, c⟩ := W.d
  refine ⟨⟨kv, s _ (.inl rfl) _ (fun _ z => nomatch z) e, a, b, c⟩, ?_, s _ (.inr (.inr (.inl rfl))) _ (fun _ z => nomatch z) W.q, fun h hh => s _ (.inr (.inr (.inr ⟨h, hh, .inl rfl⟩))) _ (fun _ z => nomatch z) (W.h h hh), fun h hh k hk => s _ (.inr (.inr (.inr ⟨h, hh, .inr ⟨k, hk, rfl⟩⟩))) _ (fun _ z => nomatch z) (W.l h hh k hk), W.nd, W.no, W.dj, W.n1, W.n2, W.hn, W.ln, W.kl, W.zl⟩
  rcases W.t with e | ⟨o, e⟩
  · exact .inl (s _ (.inr (.inl rfl)) _ (fun _ z => nomatch z) e)
  · exact .inr ⟨o, s _ (.inr (.inl rfl)) _ (fun _ z => nomatch z) e⟩
theorem MdlAt.same (W : MdlAt H md mt mq r z hs sil N M) (s : Same H H') : MdlAt H' md mt mq r z hs sil N M := W.keep fun q _ o _ e => s q o e
theorem MdlAt.gT (W : MdlAt H md mt mq r z hs sil N M) : DGet H md (V.str "tables") (some (V.ref mt)) := by
  obtain ⟨kv, e, a, _⟩ := W.d
  exact .inl ⟨kv, Sum.inr "tables", .inl e, rfl, a.symm⟩
theorem MdlAt.gQ (W : MdlAt H md mt mq r z hs sil N M) : DGet H md (V.str "quiet") (some (V.ref mq)) := by
  obtain ⟨kv, e, _, a, _⟩ := W.d
  exact .inl ⟨kv, Sum.inr "quiet", .inl e, rfl, a.symm⟩
theorem MdlAt.gR (W : MdlAt H md mt mq r z hs sil N M) : DGet H md (V.str "room") (some (V.int r)) := by
  obtain ⟨kv, e, _, _, a⟩ := W.d
  exact .inl ⟨kv, Sum.inr "room", .inl e, rfl, a.symm⟩
theorem MdlAt.gO (W : MdlAt H md mt mq r z hs sil N M) (i : Int) : DGet H mt (V.int i) (if i ∈ hs then some (V.ref (M i).d) else none) := .inl ⟨_, Sum.inl i, W.t, rfl, valV_mt.symm⟩
theorem MdlAt.gH (W : MdlAt H md mt mq r z hs sil N M) {i : Int} (h : i ∈ hs) : DGet H mt (V.int i) (some (V.ref (M i).d)) := by
  have := W.gO i
  rwa [if_pos h] at this
end
def spMAwake : Sp := fun vs H Q _ => ∃ (md mt mq : Addr) (r : Int) (z : Nat) (hs sil : List Int) (N : Int → Nat → List Int) (M : Int → MRec) (x : Int), vs = [.ref md, .int x] ∧ MdlAt H md mt mq r z hs sil N M ∧ Q (.bl (awB hs sil x)) H
section
variable {P : Program} {w : World} {K : PySem.W.Frag} {mg : Str → Option Value} {base : Heap}
theorem sc_lawake : FnScope ["_law_model", "_law_name_here"] ["_law_model", "_law_name_here"] (defScope (top 24)) := ⟨rfl, rfl, rfl, by decide +kernel, rfl, by decide +kernel, by decide +kernel⟩
theorem ok_lawake (D : Df K mg "_law_awake" (top 24) ["_law_model", "_law_name_here"]) : FnOk P w K mg base CX0 1 D.f D.fd ["_law_model", "_law_name_here"] spMAwake := by
  refine D.fn.ok sc_lawake (fun vs H Q E h => ?_) (fun cdv A outer s H vs Q E hr h => ?_)
  · obtain ⟨md, mt, mq, r, z, hs, sil, N, M, x, rfl, _⟩ := h
    rfl
  · obtain ⟨md, mt, mq, r, z, hs, sil, N, M, x, rfl, W, k⟩ := h
    have gT := W.gT
    have gQ := W.gQ
    have gO := W.gO x
    have hq := W.q
    have hv := valV_sil (sil := sil) (i := x)
    refine ⟨_, (pss_one (ps_ret (pe_and (pe_cmp (pc_din (hu_of hr) (pv 1) (pe_dget (hu_of hr) (pv 0) pe_str (fun _ _ => rfl)))) (pe_one (pe_cmp (pc_dnotin (hu_of hr) (pv 1) (pe_dget (hu_of hr) (pv 0) pe_str (fun _ _ => rfl)))))))), ?_⟩
    unfold awB at k
    walk_at "w"
    by_cases hx : x ∈ hs
    · rw [decide_eq_true hx, Bool.true_and] at k
      rw [if_pos hx]
      walk_at "w"
      rw [hv]
      exact k
    · rw [decide_eq_false hx, Bool.false_and] at k
      rw [if_neg hx]
      walk_at "w"
def spMHears : Sp := fun vs H Q _ => ∃ (md mt mq : Addr) (r : Int) (z : Nat) (hs sil : List Int) (N : Int → Nat → List Int) (M : Int → MRec) (h n : Int), vs = [.ref md, .int h, .int n] ∧ MdlAt H md mt mq r z hs sil N M ∧ h ∈ hs ∧ n ≠ h ∧ 0 ≤ h ∧ 0 ≤ n ∧ stepN h n < z ∧ 1 ≤ r ∧ (N h (stepN h n)).Nodup ∧ (N h (stepN h n)).length ≤ 900 ∧
  ∀ (H' : Hp) (M' : Int → MRec), MdlAt H' md mt mq r z hs sil (hearN r (awB hs sil) N h n) M' → MDeed H H' (MFoot md mt mq hs M) (MFoot md mt mq hs M') → H' mt = H mt → Q .non H'
theorem MdlAt.put {H H1 : Hp} {md mt mq : Addr} {r : Int} {z : Nat} {hs sil : List Int} {N : Int → Nat → List Int} {M : Int → MRec} (W : MdlAt H md mt mq r z hs sil N M) {h : Int} (hh : h ∈ hs) {k : Nat} (hk : k < z) (s1 : Same H H1) {l : Addr} (hl0 : H l = none ∨ (k ∈ (M h).ks ∧ l = (M h).l k)) {xs : List Int} (hl : H1 l = some (.lst (xs.map V.int))) :
    ∃ M', MdlAt (upd H1 (M h).d (.dK (putK (mhD (M h)) (Sum.inl (k : Int)) (V.ref l)))) md mt mq r z hs sil (setH N h (fset (N h) k xs)) M' ∧ MDeed H (upd H1 (M h).d (.dK (putK (mhD (M h)) (Sum.inl (k : Int)) (V.ref l)))) (MFoot md mt mq hs M) (MFoot md mt mq hs M') := by
  have hd := W.h h hh
  obtain ⟨a1, a2, a3⟩ := W.n1 h hh
  have nl : l ≠ (M h).d := fun e => by
    rcases hl0 with y | ⟨y, z⟩
    · rw [e, hd] at y
      cases y
    · have := W.l h hh k y
      rw [← z, e, hd] at this
      cases this
  let ks' : List Nat := if k ∈ (M h).ks then (M h).ks else (M h).ks ++ [k]
  let M' : Int → MRec := setH M h ⟨(M h).d, ks', fset (M h).l k l⟩
  have eM : M' h = ⟨(M h).d, ks', fset (M h).l k l⟩ := setH_same
  have eN : ∀ g, g ≠ h → M' g = M g := fun g e => setH_ne e
  have eD : ∀ g, (M' g).d = (M g).d := fun g => by
    by_cases e : g = h
    · rw [e, eM]
    · rw [eN g e]
  have mem' : ∀ j, j ∈ ks' ↔ j ∈ (M h).ks ∨ j = k := fun j => by
    show j ∈ (if k ∈ (M h).ks then (M h).ks else (M h).ks ++ [k]) ↔ _
    by_cases e : k ∈ (M h).ks
    · rw [if_pos e]
      exact ⟨.inl, fun z => z.elim id fun y => y ▸ e⟩
    · rw [if_neg e, List.mem_append, List.mem_singleton]
  have eput : putK (mhD (M h)) (Sum.inl (k : Int)) (V.ref l) = mhD (M' h) := by
    rw [eM]
    show _ = tabsD (castL ks') (recD fun i => fset (M h).l k l i.toNat)
    by_cases e : k ∈ (M h).ks
    · have e1 : ks' = (M h).ks := if_pos e
      rw [e1]
      unfold putK
      rw [if_pos (by rw [valV_any, valV_mh, if_pos e]; rfl)]
      unfold mhD tabsD castL
      rw [List.map_map, List.map_map, List.map_map]
      refine List.map_congr_left fun j hj => ?_
      show (if (Sum.inl (j : Int) : Key) = Sum.inl (k : Int) then ((Sum.inl (j : Int) : Key), V.ref l) else ((Sum.inl (j : Int) : Key), V.ref ((M h).l ((j : Int)).toNat))) = ((Sum.inl (j : Int) : Key), V.ref (fset (M h).l k l ((j : Int)).toNat))
      rw [Int.toNat_natCast]
      by_cases e2 : j = k
      · rw [e2, if_pos rfl, fset_same]
      · rw [if_neg (fun z => e2 (by injection z with z; omega)), fset_ne e2]
    · have e1 : ks' = (M h).ks ++ [k] := if_neg e
      rw [e1, putK_new _ (by rw [valV_mh, if_neg e])]
      unfold mhD tabsD castL
      rw [List.map_append, List.map_append]
      congr 1
      · refine List.map_congr_left fun i hi => ?_
        obtain ⟨j, hj, rfl⟩ := List.mem_map.mp hi
        show ((Sum.inl (j : Int) : Key), V.ref ((M h).l ((j : Int)).toNat)) = ((Sum.inl (j : Int) : Key), V.ref (fset (M h).l k l ((j : Int)).toNat))
        rw [Int.toNat_natCast, fset_ne (fun (z : j = k) => e (by rw [← z]; exact hj))]
      · show [((Sum.inl (k : Int) : Key), V.ref l)] = [((Sum.inl (k : Int) : Key), V.ref (fset (M h).l k l ((k : Int)).toNat))]
        rw [Int.toNat_natCast, fset_same]
  have up : ∀ q o, q ≠ (M h).d → H q = some o → upd H1 (M h).d (.dK (putK (mhD (M h)) (Sum.inl (k : Int)) (V.ref l))) q = some o := fun q o hq e => by
    rw [upd_ne hq]
    exact s1 _ _ e
  have emt : mtD hs M' = mtD hs M := by
    unfold mtD tabsD
    exact List.map_congr_left fun g _ => by
      show ((Sum.inl g : Key), V.ref (M' g).d) = ((Sum.inl g : Key), V.ref (M g).d)
      rw [eD]
  obtain ⟨kv, ekv, b1, b2, b3⟩ := W.d
  refine ⟨M', ⟨⟨kv, up _ _ a1.symm ekv, b1, b2, b3⟩, ?_, up _ _ a3.symm W.q, fun g hg => ?_, fun g hg j hj => ?_, fun g hg => ?_, fun g hg j hj => ?_, fun g hg g' hg' hne => ?_, fun g hg => ?_, W.n2, W.hn, W.ln, fun g hg j hj => ?_, W.zl⟩, ⟨fun q o e hd' => ?_, fun q o e hn => ?_, fun q hq => ?_, fun q hq => ?_⟩⟩
  · rw [emt]
    rcases W.t with e | ⟨o, e⟩
    · exact .inl (up _ _ a2.symm e)
    · exact .inr ⟨o, up _ _ a2.symm e⟩
  · by_cases e : g = h
    · subst e
      rw [eD, upd_same, eput]
    · rw [eN g e]
      exact up _ _ (W.dj g hg h hh e) (W.h g hg)
  · by_cases e : g = h
    · subst e
      rw [eM] at hj
      have hj : j ∈ ks' := hj
      rw [eM, setH_same]
      show upd _ _ _ (fset (M g).l k l j) = some (.lst ((fset (N g) k xs j).map V.int))
      by_cases e2 : j = k
      · subst e2
        rw [fset_same, fset_same, upd_ne nl]
        exact hl
      · rw [fset_ne e2, fset_ne e2]
        have := W.l g hg j (((mem' j).mp hj).elim id fun y => absurd y e2)
        exact up _ _ (ne_of this hd (by intro z; cases z)) this
    · rw [eN g e] at hj ⊢
      rw [setH_ne e]
      have := W.l g hg j hj
      exact up _ _ (ne_of this hd (by intro z; cases z)) this
  · by_cases e : g = h
    · subst e
      rw [eM]
      show ks'.Nodup
      by_cases e2 : k ∈ (M g).ks
      · have e1 : ks' = (M g).ks := if_pos e2
        rw [e1]
        exact W.nd g hg
      · have e1 : ks' = (M g).ks ++ [k] := if_neg e2
        rw [e1]
        exact List.nodup_append.mpr ⟨W.nd g hg, by simp, fun a ha b hb e => e2 (by rw [← List.mem_singleton.mp hb, ← e]; exact ha)⟩
    · rw [eN g e]
      exact W.nd g hg
  · by_cases e : g = h
    · subst e
      rw [eM] at hj
      have hj : j ∉ ks' := hj
      have hj2 := fun y => hj ((mem' j).mpr y)
      rw [setH_same, fset_ne (fun y => hj2 (.inr y))]
      exact W.no g hg j fun y => hj2 (.inl y)
    · rw [eN g e] at hj
      rw [setH_ne e]
      exact W.no g hg j hj
  · rw [eD, eD]
    exact W.dj g hg g' hg' hne
  · rw [eD]
    exact W.n1 g hg
  · by_cases e : g = h
    · subst e
      rw [eM] at hj
      rcases (mem' j).mp hj with y | y
      · exact W.kl g hg j y
      · exact y ▸ hk
    · rw [eN g e] at hj
      exact W.kl g hg j hj
  · exact up _ _ (fun y => by rw [y, hd] at e; exact hd' _ (Option.some.inj e).symm) e
  · exact up _ _ (fun y => hn (.inr (.inr (.inr ⟨h, hh, .inl y⟩)))) e
  · rcases hq with y | y | y | ⟨g, hg, y⟩
    · exact .inl (.inl y)
    · exact .inl (.inr (.inl y))
    · exact .inl (.inr (.inr (.inl y)))
    · rw [eD] at y
      rcases y with y | ⟨j, hj, y⟩
      · exact .inl (.inr (.inr (.inr ⟨g, hg, .inl y⟩)))
      · by_cases e : g = h
        · subst e
          rw [eM] at hj y
          have y : q = fset (M g).l k l j := y
          by_cases e2 : j = k
          · subst e2
            rw [fset_same] at y
            subst y
            rcases hl0 with z | ⟨z1, z2⟩
            · exact .inr z
            · exact .inl (.inr (.inr (.inr ⟨g, hg, .inr ⟨j, z1, z2⟩⟩)))
          · rw [fset_ne e2] at y
            exact .inl (.inr (.inr (.inr ⟨g, hg, .inr ⟨j, ((mem' j).mp hj).elim id fun y => absurd y e2, y⟩⟩)))
        · rw [eN g e] at hj y
          exact .inl (.inr (.inr (.inr ⟨g, hg, .inr ⟨j, hj, y⟩⟩)))
  · by_cases e : q = (M h).d
    · rw [e, upd_same] at hq
      cases hq
    · rw [upd_ne e] at hq
      exact s1.free hq
theorem sc_lhears : FnScope ["_law_model", "_law_house", "_law_name_here", "_law_k", "_law_line"] ["_law_model", "_law_house", "_law_name_here"] (defScope (top 25)) := ⟨rfl, rfl, rfl, by decide +kernel, rfl, by decide +kernel, by decide +kernel⟩
theorem ok_lhears (T : Txt mg) (D__law_awake : Df K mg "_law_awake" (top 24) ["_law_model", "_law_name_here"]) (D : Df K mg "_law_hears" (top 25) ["_law_model", "_law_house", "_law_name_here"]) : FnOk P w K mg base CX0 2 D.f D.fd ["_law_model", "_law_house", "_law_name_here"] spMHears := by
  have G__law_awake : FnOk P w K mg base CX0 1 _ _ _ _ := ok_lawake D__law_awake
  refine D.fn.ok sc_lhears (fun vs H Q E h => ?_) (fun cdv A outer s H vs Q E hr h => ?_)
  · obtain ⟨md, mt, mq, r, z, hs, sil, N, M, h, n, rfl, _⟩ := h
    rfl
  · obtain ⟨md, mt, mq, r, z, hs, sil, N, M, h, n, rfl, W, hh, hne, h0, hn0, hst, hr1, hnd, hlen, k⟩ := h
    have gT := W.gT
    have gR := W.gR
    have gH := W.gH hh
    have hm : h.toNat ^^^ n.toNat ≠ 0 := fun z => hne (by
      have := (xor_eq_zero _ _).mp z
      omega)
    have hx : Builtin.bitXor h n = ((h.toNat ^^^ n.toNat : Nat) : Int) := bx h0 hn0
    refine ⟨_, (pss_cons (ps_set (i := 3) sc_lhears.nd rfl (Or.inl rfl) pe_int)
      (pss_cons (ps_while PassesOwn.never (pt_cmpR op_gt (pe_op op_shr (pe_op op_xor (pv 1) (pv 2)) (pv 3)) pe_int (nomark _))
       (pss_one (ps_set (i := 3) sc_lhears.nd rfl (Or.inl rfl) (pe_op op_add (pv 3) pe_int))))
      (pss_cons (ps_set (i := 4) sc_lhears.nd rfl (Or.inl rfl) (pe_dget2 (hu_of hr) (pe_dget (hu_of hr) (pe_dget (hu_of hr) (pv 0) pe_str (fun _ _ => rfl)) (pv 1) (fun _ _ => rfl)) (pv 3) (pe_lst pa_nil) ⟨rfl, rfl, rfl, rfl⟩))
      (pss_cons (ps_if (pt_cmpR op_in_seq (pv 2) (pv 4) (by with_unfolding_all rfl))
       (pss_one (ps_set (i := 4) sc_lhears.nd rfl (Or.inl rfl) (pe_op op_cat (pe_comp rfl (compText_of (own := ["_law_other"]) (caps := [2]) (N' := ["_law_other", "_law_name_here"]) (by kernel_rfl)) (pi_list (pv 4)) (fun _ _ _ _ _ => (pg_name (i := 0) (show (["_law_other", "_law_name_here"] : List Str).Nodup by decide +kernel) rfl (Or.inl rfl))) (fun _ _ _ _ _ => (pts_one (pt_cmpR op_ne (pv 0) (pv 1) (nomark _)))) (fun _ _ _ _ _ => (pv 0))) (pe_lst (pa_cons (pv 2) pa_nil)))))
       (pss_one (ps_if (pt_cmpR op_lt (pe_callB call_len_seq rfl T.n_len bt_len (pa_cons (pv 4) pa_nil)) (pe_dget (hu_of hr) (pv 0) pe_str (fun _ _ => rfl)) (nomark _))
         (pss_one (ps_set (i := 4) sc_lhears.nd rfl (Or.inl rfl) (pe_op op_cat (pv 4) (pe_lst (pa_cons (pv 2) pa_nil)))))
         (pss_one (ps_if (pt_val (pe_call G__law_awake (hr.mono (by decide)) rfl D__law_awake.hm D__law_awake.fn.kp D__law_awake.b .nil pass0 (pa_cons (pv 0) (pa_cons (pe_ix ix_list (pv 4) pe_int (fun _ _ => rfl)) pa_nil))))
           (pss_one (ps_set (i := 4) sc_lhears.nd rfl (Or.inl rfl) (pe_op op_cat (pe_slice sl_list (pv 4) (po_some pe_int) po_none) (pe_slice sl_list (pv 4) po_none (po_some pe_int)))))
           (pss_one (ps_set (i := 4) sc_lhears.nd rfl (Or.inl rfl) (pe_op op_cat (pe_slice sl_list (pv 4) (po_some pe_int) po_none) (pe_lst (pa_cons (pv 2) pa_nil))))))))))
      (pss_one (ps_dput (hu_of hr) (pe_dget (hu_of hr) (pe_dget (hu_of hr) (pv 0) pe_str (fun _ _ => rfl)) (pv 1) (fun _ _ => rfl)) (pv 3) (pv 4) rfl)))))), ?_⟩
    walk_at "w"
    refine ⟨fun m σ H3 => Hold (∃ (j : Nat), σ = [some (.ref md), some (.int h), some (.int n), some (.int (j : Int)), none] ∧ H3 = H ∧ j ≤ stepN h n ∧ m = stepN h n - j), ⟨stepN h n, ⟨0, rfl, rfl, Nat.zero_le _, rfl⟩⟩, ?_⟩
    rintro m σ H3 ⟨j, rfl, rfl, hj, hmj⟩
    walk_at "w"
    rw [hx, Int.toNat_natCast]
    by_cases hlt : j < stepN h n
    · refine iteD ((step_more hm).mpr hlt) ?_
      refine ⟨fun σ' H' => Hold (∃ (j' : Nat), σ' = [some (.ref md), some (.int h), some (.int n), some (.int (j' : Int)), none] ∧ H' = H3 ∧ j' ≤ stepN h n ∧ stepN h n - j' < m), fun σ' H' ⟨j', e, a, b, c⟩ => ⟨_, c, ⟨j', e, a, b, rfl⟩⟩, ?_⟩
      walk_at "w"
      exact ⟨⟨j + 1, rfl, rfl, by omega, by omega⟩⟩
    · have ej : j = stepN h n := by omega
      subst ej
      refine iteDn (fun z => hlt ((step_more hm).mp z)) ?_
      clear hj hmj hlt
      have ed := W.h h hh
      have gK : ∀ H', Same H3 H' → DGet H' (M h).d (V.int ((stepN h n : Nat) : Int)) (valV (mhD (M h)) (Sum.inl ((stepN h n : Nat) : Int))) := fun H' s => DGet.k (k := Sum.inl _) (s _ _ ed)
      have hszd : (mhD (M h)).length < sizeLine := by
        rw [mh_len]
        exact small1000 (by have := W.len hh; omega)
      have fin : ∀ (H' : Hp) (l : Addr) (xs : List Int), Same H3 H' → (H3 l = none ∨ (stepN h n ∈ (M h).ks ∧ l = (M h).l (stepN h n))) → H' l = some (.lst (xs.map V.int)) → xs = hearL r (awB hs sil) (N h (stepN h n)) n →
          DGet H' md (V.str "tables") (some (V.ref mt)) ∧ DGet H' mt (V.int h) (some (V.ref (M h).d)) ∧ ∃ H2, DPut H' (M h).d (V.int ((stepN h n : Nat) : Int)) (V.ref l) H2 ∧ Q .non H2 := fun H' l xs s hl0 hl hxs => by
        have W' := W.same s
        refine ⟨W'.gT, W'.gH hh, _, DPut.k (k := Sum.inl _) (s _ _ ed) hszd, ?_⟩
        obtain ⟨M', W2, d2⟩ := W.put hh hst s hl0 hl
        subst hxs
        refine k _ M' W2 d2 ?_
        rw [upd_ne (W.n1 h hh).2.1.symm]
        rcases W.t with e | ⟨o, e⟩
        · rw [e, s _ _ e]
        · rw [e, s _ _ e]
      have hisD : IsD H3 (M h).d := .inl ⟨_, .inl ed⟩
      walk_at "w"
      intro l0 hl0
      have s1 : Same H3 (upd H3 l0 (.lst [])) := Same.new H3 hl0
      have hl01 : upd H3 l0 (.lst []) l0 = some (.lst []) := upd_same
      generalize upd H3 l0 (.lst []) = H1 at s1 hl01 ⊢
      have gK1 := gK H1 s1
      walk_at "w"
      obtain ⟨lp, elp, hlp, hlp0⟩ : ∃ lp, (valV (mhD (M h)) (Sum.inl ((stepN h n : Nat) : Int))).getD (V.ref l0) = V.ref lp ∧ H1 lp = some (.lst ((N h (stepN h n)).map V.int)) ∧ (H3 lp = none ∨ (stepN h n ∈ (M h).ks ∧ lp = (M h).l (stepN h n))) := by
        rw [valV_mh]
        by_cases e : stepN h n ∈ (M h).ks
        · exact ⟨(M h).l (stepN h n), by rw [if_pos e]; rfl, s1 _ _ (W.l h hh _ e), .inr ⟨e, rfl⟩⟩
        · exact ⟨l0, by rw [if_neg e]; rfl, by rw [W.no h hh _ e]; exact hl01, .inl hl0⟩
      rw [elp]
      have W1 := W.same s1
      have gR1 := W1.gR
      walk_at "w"
      rw [inV_int]
      generalize hns : N h (stepN h n) = ns at hlp hnd hlen fin
      have fr : ∀ {H'' : Hp} {q : Addr}, Same H3 H'' → H'' q = none → H3 q = none := fun s e => s.free e
      by_cases hm2 : n ∈ ns
      · refine iteD hm2 ?_
        walk_at "w"
        intro D hD
        refine comp_filter (notB n) hD (SqL.of hlp) (by omega) (fun x hx H2 Qt s2 q => ?_) fun H2 s2 hD2 => ?_
        · walk_at "w"
          exact q H2 (Same.refl H2)
        · have e1 : ns.filter (notB n) = ns.erase n := by
            rw [← filter_erase hnd]
            exact List.filter_congr fun x _ => notB_eq
          rw [e1] at hD2
          have hle := List.length_erase_of_mem hm2
          have hsz : ((ns.erase n).map V.int).length + [V.int n].length ≤ sizeLine := by
            rw [List.length_map]
            exact Nat.le_of_lt (small1000 (show (ns.erase n).length + 1 ≤ 1000 by omega))
          walk_at "w"
          intro p2 hp2
          walk_at "w"
          intro p3 hp3
          have s3 : Same H2 (upd (upd H2 p2 (.lst [V.int n])) p3 (.lst ((ns.erase n).map V.int ++ [V.int n]))) := ((Same.refl H2).lay hp2).lay hp3
          have sA := (s1.trans s2).trans s3
          obtain ⟨f1, f2, H5, f3, f4⟩ := fin _ p3 (ns.erase n ++ [n]) sA (.inl ((s1.trans s2).free ((Same.new H2 hp2).free hp3))) (by rw [upd_same, List.map_append]; rfl) (by unfold hearL; rw [if_pos hm2])
          walk_at "w"
      · refine iteDn hm2 ?_
        walk_at "w"
        rw [List.length_map]
        by_cases hl2 : (ns.length : Int) < r
        · refine iteD hl2 ?_
          have hsz : (ns.map V.int).length + [V.int n].length ≤ sizeLine := by
            rw [List.length_map]
            exact Nat.le_of_lt (small1000 (show ns.length + 1 ≤ 1000 by omega))
          walk_at "w"
          intro p2 hp2
          walk_at "w"
          intro p3 hp3
          have s3 : Same H1 (upd (upd H1 p2 (.lst [V.int n])) p3 (.lst (ns.map V.int ++ [V.int n]))) := ((Same.refl H1).lay hp2).lay hp3
          obtain ⟨f1, f2, H5, f3, f4⟩ := fin _ p3 (ns ++ [n]) (s1.trans s3) (.inl (s1.free ((Same.new H1 hp2).free hp3))) (by rw [upd_same, List.map_append]; rfl) (by unfold hearL; rw [if_neg hm2, if_pos hl2])
          walk_at "w"
        · refine iteDn hl2 ?_
          cases ns with
          | nil => exact absurd (show (([] : List Int).length : Int) < r by simp only [List.length_nil]; omega) hl2
          | cons x t =>
            have hx0 : atI ((x :: t).map V.int) 0 = some (V.int x) := atI_zero _ _
            have hlt : t.length ≤ 900 := by
              rw [List.length_cons] at hlen
              omega
            have hfull : ∀ (b : Bool), hearL r (awB hs sil) (x :: t) n = t ++ [if awB hs sil x then x else n] := fun _ => by
              unfold hearL
              rw [if_neg hm2, if_neg hl2]
            have ec : cutV ((x :: t).map V.int) (some 1) none = t.map V.int := cut1 x t
            have ec2 : cutV ((x :: t).map V.int) none (some 1) = [V.int x] := by
              have := cut_take (x :: t) (m := 1) (by decide)
              exact this
            walk_at "w"
            cases hax : awB hs sil x with
            | true =>
              walk_at "w"
              rw [ec]
              intro p1 hp1
              walk_at "w"
              rw [ec2]
              intro p2 hp2
              have hsz : (t.map V.int).length + [V.int x].length ≤ sizeLine := by
                rw [List.length_map]
                exact Nat.le_of_lt (small1000 (show t.length + 1 ≤ 1000 by omega))
              have n12 : p1 ≠ p2 := ne_of_none upd_same hp2
              walk_at "w"
              intro p3 hp3
              have s3 : Same H1 (upd (upd (upd H1 p1 (.lst (t.map V.int))) p2 (.lst [V.int x])) p3 (.lst (t.map V.int ++ [V.int x]))) := (((Same.refl H1).lay hp1).lay hp2).lay hp3
              obtain ⟨f1, f2, H5, f3, f4⟩ := fin _ p3 (t ++ [x]) (s1.trans s3) (.inl (s1.free ((Same.new H1 hp1).free ((Same.new _ hp2).free hp3)))) (by rw [upd_same, List.map_append]; rfl) (by rw [hfull true, hax]; rfl)
              walk_at "w"
            | false =>
              walk_at "w"
              rw [ec]
              intro p1 hp1
              walk_at "w"
              intro p2 hp2
              have hsz : (t.map V.int).length + [V.int n].length ≤ sizeLine := by
                rw [List.length_map]
                exact Nat.le_of_lt (small1000 (show t.length + 1 ≤ 1000 by omega))
              have n12 : p1 ≠ p2 := ne_of_none upd_same hp2
              walk_at "w"
              intro p3 hp3
              have s3 : Same H1 (upd (upd (upd H1 p1 (.lst (t.map V.int))) p2 (.lst [V.int n])) p3 (.lst (t.map V.int ++ [V.int n]))) := (((Same.refl H1).lay hp1).lay hp2).lay hp3
              obtain ⟨f1, f2, H5, f3, f4⟩ := fin _ p3 (t ++ [n]) (s1.trans s3) (.inl (s1.free ((Same.new H1 hp1).free ((Same.new _ hp2).free hp3)))) (by rw [upd_same, List.map_append]; rfl) (by rw [hfull true, hax]; rfl)
              walk_at "w"
end
local macro_rules | `(tactic| walk_at "fld") => `(tactic| first | exact bF_room _ _ | exact bF_order _ _ | exact bF_full _ _ | exact bF_hears _ _ | exact bF_drops _ _ | exact bF_names _ _ | exact flat_ints _)
local macro_rules | `(tactic| walk_at "fld") => `(tactic| first | exact tF_own _ _ _ _ | exact tF_wide _ _ _ _ | exact tF_room _ _ _ _ | exact tF_buckets _ _ _ _ | exact tF_n1 _ _ _ _ | exact tF_n2 _ _ _ _ | exact tF_n3 _ _ _ _ | exact tF_n4 _ _ _ _ | exact tF_n5 _ _ _ _ | exact tF_n6 _ _ _ _)
local macro_rules | `(tactic| walk_at "fld") => `(tactic| first | exact wF_wide _ _ _ _ | exact wF_room _ _ _ _ | exact wF_tables _ _ _ _ | exact wF_silent _ _ _ _ | exact wF_m _ (by decide +kernel) _ _ _ _ | exact DGet.k (k := Sum.inl _) (by walk_at "hp"))
theorem DGet.rd {H : Hp} {a : Addr} {kvs : List (Key × V)} {k : Key} (e : Rd H a (.dK kvs)) : DGet H a (kV k) (valV kvs k) := .inl ⟨kvs, k, e, rfl, rfl⟩
def spMKeeps : Sp := fun vs H Q _ => ∃ (md mt mq : Addr) (r : Int) (z : Nat) (hs sil pool : List Int) (N : Int → Nat → List Int) (M : Int → MRec) (h : Int), vs = [.ref md, .int h] ∧ MdlAt H md mt mq r z hs sil N M ∧ NOk pool z r hs N ∧ pool.length < 64 ∧ h ∈ hs ∧
  ∀ (l : Addr) (H' : Hp), Same H H' → H l = none → H' l = some (.lst ((sortI (catN (N h) z)).map V.int)) → Q (.ref l) H'
section
variable {P : Program} {w : World} {K : PySem.W.Frag} {mg : Str → Option Value} {base : Heap}
theorem sc_lkeeps : FnScope ["_law_model", "_law_house", "_law_found", "_law_k"] ["_law_model", "_law_house"] (defScope (top 26)) := ⟨rfl, rfl, rfl, by decide +kernel, rfl, by decide +kernel, by decide +kernel⟩
theorem ok_lkeeps (T : Txt mg) (D : Df K mg "_law_keeps" (top 26) ["_law_model", "_law_house"]) : FnOk P w K mg base CX0 1 D.f D.fd ["_law_model", "_law_house"] spMKeeps := by
  refine D.fn.ok sc_lkeeps (fun vs H Q E h => ?_) (fun cdv A outer s H vs Q E hr h => ?_)
  · obtain ⟨md, mt, mq, r, z, hs, sil, pool, N, M, h, rfl, _⟩ := h
    rfl
  · obtain ⟨md, mt, mq, r, z, hs, sil, pool, N, M, h, rfl, W, O, hpl, hh, k⟩ := h
    have hd := W.h h hh
    have hperm := flatK_perm O hh (W.nd h hh) (W.kl h hh) (W.no h hh)
    have hcl := O.len hh z
    refine ⟨_, (pss_cons (ps_set (i := 2) sc_lkeeps.nd rfl (Or.inl rfl) (pe_lst pa_nil))
      (pss_cons (ps_thaw (H0 := H) rfl (ps_for PassesOwn.never rfl (pi_dict (pe_dget (hu_of hr) (pe_dget (hu_of hr) (pv 0) pe_str (fun _ _ => rfl)) (pv 1) (fun _ _ => rfl))) (pg_name (i := 3) sc_lkeeps.nd rfl (Or.inl rfl))
       (pss_one (ps_set (i := 2) sc_lkeeps.nd rfl (Or.inl rfl) (pe_op op_cat (pv 2) (pe_dget (hu_of hr) (pe_dget (hu_of hr) (pe_dget (hu_of hr) (pv 0) pe_str (fun _ _ => rfl)) (pv 1) (fun _ _ => rfl)) (pv 3) (fun _ _ => rfl)))))))
      (pss_one (ps_ret (pe_callB call_sorted rfl T.n_sorted bt_sorted (pa_cons (pv 2) pa_nil)))))), ?_⟩
    walk_at "w"
    intro p hp
    have s1 : Same H (upd H p (.lst [])) := Same.new H hp
    have hp1 : upd H p (.lst []) p = some (.lst ((flatK (N h) []).map V.int)) := upd_same
    generalize upd H p (.lst []) = H1 at s1 hp1 ⊢
    have W1 := W.same s1
    have gT := W1.gT
    have gH := W1.gH hh
    have hd1 : Rd H1 (M h).d (.dK (mhD (M h))) := .inl (s1 _ _ hd)
    walk_at "w"
    intro o H2 hz hoth _
    have hfz : ∀ ob u, H (M h).d ≠ some (.frz ob u) := fun ob u e => by
      rw [hd] at e
      cases e
    have np : p ≠ (M h).d := (ne_of_none hd hp).symm
    refine for_dict (a := (M h).d) (o := o) (kvs := mhD (M h)) (fun i σ H6 => Hold (∃ (v3 : Option V) (p6 : Addr), σ = [some (.ref md), some (.int h), some (.ref p6), v3] ∧ H6 (M h).d = some (.frz o (.dK (mhD (M h)))) ∧ (∀ q o, q ≠ (M h).d → H q = some o → H6 q = some o) ∧ H p6 = none ∧ H6 p6 = some (.lst ((flatK (N h) ((M h).ks.take i)).map V.int)))) ?_ (fun i σ H6 _ ⟨_, _, _, e, _⟩ => e) ?_ ?_
    · refine ⟨⟨none, p, rfl, hz, fun q o hq e => ?_, hp, ?_⟩⟩
      · rw [hoth q hq]
        exact s1 _ _ e
      · rw [hoth p np]
        exact hp1
    · rintro i kv σ H6 hi ⟨v3, p6, rfl, hz6, k6, hp60, hp6⟩
      obtain ⟨j, hj, rfl⟩ : ∃ j, (M h).ks[i]? = some j ∧ kv = ((Sum.inl (j : Int) : Key), V.ref ((M h).l j)) := by
        unfold mhD tabsD castL at hi
        rw [List.getElem?_map, List.getElem?_map] at hi
        cases e : (M h).ks[i]? with
        | none => rw [e] at hi; cases hi
        | some j =>
          rw [e] at hi
          refine ⟨j, rfl, (Option.some.inj hi).symm.trans ?_⟩
          show ((Sum.inl (j : Int) : Key), V.ref ((M h).l ((j : Int)).toNat)) = _
          rw [Int.toNat_natCast]
      have hjm : j ∈ (M h).ks := List.mem_of_getElem? hj
      have W6t : Rd H6 mt (.dK (mtD hs M)) := by
        have n1 := (W.n1 h hh).2.1.symm
        rcases W.t with e | ⟨ot, e⟩
        · exact .inl (k6 _ _ n1 e)
        · exact .inr ⟨ot, k6 _ _ n1 e⟩
      have gT6 : DGet H6 md (V.str "tables") (some (V.ref mt)) := by
        obtain ⟨kv, e, a, _⟩ := W.d
        exact .inl ⟨kv, Sum.inr "tables", .inl (k6 _ _ (W.n1 h hh).1.symm e), rfl, a.symm⟩
      have gH6 : DGet H6 mt (V.int h) (some (V.ref (M h).d)) := .inl ⟨_, Sum.inl h, W6t, rfl, by rw [valV_mt, if_pos hh]⟩
      have gK6 : DGet H6 (M h).d (V.int (j : Int)) (some (V.ref ((M h).l j))) := .inl ⟨_, Sum.inl (j : Int), .inr ⟨o, hz6⟩, rfl, by rw [valV_mh, if_pos hjm]⟩
      have hlj := W.l h hh j hjm
      have hlj6 := k6 _ _ (ne_of hlj hd (by intro z; cases z)) hlj
      have hlen6 : (flatK (N h) ((M h).ks.take (i + 1))).length ≤ pool.length := by
        refine len_of_sub (flatK_nodup (st := stepN h) (O.nd h hh) (fun k m hm => (O.st h hh k m hm).2.2) ((W.nd h hh).sublist (List.take_sublist _ _))) fun x hx => ?_
        obtain ⟨k', _, hm⟩ := mem_flatK.mp hx
        exact (O.st h hh k' x hm).1
      have etk := take_snocN hj
      have hsz : ((flatK (N h) ((M h).ks.take i)).map V.int).length + ((N h j).map V.int).length ≤ sizeLine := by
        rw [etk, flatK_snoc, List.length_append] at hlen6
        rw [List.length_map, List.length_map]
        exact Nat.le_of_lt (small1000 (by omega))
      show gName 3 (V.int (j : Int)) _ _ _
      walk_at "w"
      intro p7 hp7
      have np7 : (M h).d ≠ p7 := ne_of_none hz6 hp7
      refine ⟨⟨_, p7, rfl, ?_, fun q o hq e => ?_, ?_, ?_⟩⟩
      · rw [upd_ne np7]
        exact hz6
      · have := k6 q o hq e
        rw [upd_ne (ne_of_none this hp7)]
        exact this
      · cases e : H p7 with
        | none => rfl
        | some o7 =>
          rw [k6 _ _ np7.symm e] at hp7
          cases hp7
      · rw [upd_same, etk, flatK_snoc, List.map_append]
    · rintro σ H6 ⟨v3, p6, rfl, hz6, k6, hp60, hp6⟩
      rw [mh_len, List.take_length] at hp6
      refine ⟨(M h).d, mhD (M h), o, hz6, hfz, ?_⟩
      have np6 : p6 ≠ (M h).d := (ne_of_none hd hp60).symm
      have s7 : Same H (upd H6 (M h).d (.dK (mhD (M h)))) := fun q o e => by
        by_cases eq : q = (M h).d
        · rw [eq, hd] at e
          rw [eq, upd_same]
          exact e
        · rw [upd_ne eq]
          exact k6 q o eq e
      have hp7 : upd H6 (M h).d (.dK (mhD (M h))) p6 = some (.lst ((flatK (N h) (M h).ks).map V.int)) := by rw [upd_ne np6]; exact hp6
      generalize upd H6 (M h).d (.dK (mhD (M h))) = H7 at s7 hp7 ⊢
      have hfl : (flatK (N h) (M h).ks).length < 64 := by rw [hperm.length_eq]; omega
      walk_at "w"
      intro l hl
      refine k l _ (s7.put (s7.free hl)) (s7.free hl) ?_
      rw [upd_same, sortI_eq hperm]
def spMComeTo : Sp := fun vs H Q _ => ∃ (md mt mq : Addr) (r : Int) (z : Nat) (hs sil pool : List Int) (N : Int → Nat → List Int) (M : Int → MRec) (d : Int), vs = [.ref md, .int d] ∧ MdlAt H md mt mq r z hs sil N M ∧ H mt = some (.dK (mtD hs M)) ∧ NOk pool z r hs N ∧ pool.length < 64 ∧ d ∈ hs ∧
  ∀ (l : Addr) (ks : List Int) (H' : Hp), Same H H' → H l = none → H' l = some (.lst ((sortI ks).map V.int)) → ks.Nodup → (∀ x, x ∈ ks ↔ Rch (edge z (awB hs sil) N) d x) → Q (.ref l) H'
theorem sc_lcome_to : FnScope ["_law_model", "_law_house", "_law_found", "_law_turn", "_law_here", "_law_other"] ["_law_model", "_law_house"] (defScope (top 27)) := ⟨rfl, rfl, rfl, by decide +kernel, rfl, by decide +kernel, by decide +kernel⟩
theorem ok_lcome_to (T : Txt mg) (D__law_awake : Df K mg "_law_awake" (top 24) ["_law_model", "_law_name_here"]) (D__law_keeps : Df K mg "_law_keeps" (top 26) ["_law_model", "_law_house"]) (D : Df K mg "_law_come_to" (top 27) ["_law_model", "_law_house"]) : FnOk P w K mg base CX0 2 D.f D.fd ["_law_model", "_law_house"] spMComeTo := by
  have G__law_awake : FnOk P w K mg base CX0 1 _ _ _ _ := ok_lawake D__law_awake
  have G__law_keeps : FnOk P w K mg base CX0 1 _ _ _ _ := ok_lkeeps T D__law_keeps
  refine D.fn.ok sc_lcome_to (fun vs H Q E h => ?_) (fun cdv A outer s H vs Q E hr h => ?_)
  · obtain ⟨md, mt, mq, r, z, hs, sil, pool, N, M, d, rfl, _⟩ := h
    rfl
  · obtain ⟨md, mt, mq, r, z, hs, sil, pool, N, M, d, rfl, W, hmt, O, hpl, hd, k⟩ := h
    have hln := W.ln
    let aw : Int → Bool := awB hs sil
    let kp : Int → List Int := fun a => sortI (catN (N a) z)
    have haw : ∀ x, aw x = true → x ∈ hs := fun x e => by
      have e : awB hs sil x = true := e
      unfold awB at e
      simp only [Bool.and_eq_true, decide_eq_true_eq] at e
      exact e.1
    let R : Int → Prop := fun x => x ∈ hs
    have hR : ∀ a, R a → ∀ x ∈ kp a, aw x = true → R x := fun a _ x _ e => haw x e
    have hcl : ∀ {f : List Int}, f.Nodup → (∀ x ∈ f, x ∈ hs) → f.length ≤ hs.length := fun a b => len_of_sub a b
    refine ⟨_, (pss_cons (ps_set (i := 2) sc_lcome_to.nd rfl (Or.inl rfl) (pe_lst (pa_cons (pv 1) pa_nil)))
      (pss_cons (ps_for PassesOwn.never rfl (pi_range1 rfl T.n_range (pa_cons (pe_callB call_lenD rfl T.n_len bt_len (pa_cons (pe_dget (hu_of hr) (pv 0) pe_str (fun _ _ => rfl)) pa_nil)) pa_nil)) (pg_name (i := 3) sc_lcome_to.nd rfl (Or.inl rfl))
       (pss_one (ps_for PassesOwn.never rfl (pi_list (pe_callTy call_list_of rfl T.n_list bt_list (pa_cons (pv 2) pa_nil))) (pg_name (i := 4) sc_lcome_to.nd rfl (Or.inl rfl))
         (pss_one (ps_for PassesOwn.never rfl (pi_list (pe_call G__law_keeps (hr.mono (by decide)) rfl D__law_keeps.hm D__law_keeps.fn.kp D__law_keeps.b .nil pass0 (pa_cons (pv 0) (pa_cons (pv 4) pa_nil)))) (pg_name (i := 5) sc_lcome_to.nd rfl (Or.inl rfl))
           (pss_one (ps_if (PW.pt (pw_and (pt_val (pe_call G__law_awake (hr.mono (by decide)) rfl D__law_awake.hm D__law_awake.fn.kp D__law_awake.b .nil pass0 (pa_cons (pv 0) (pa_cons (pv 5) pa_nil)))) (pw_and1 (pt_cmpR op_notIn_seq (pv 5) (pv 2) (by with_unfolding_all rfl)))))
             (pss_one (ps_expr (pe_bm PySem.F.plainAttrs_list PySem.F.slot_list_append PySem.F.type_list_append mt_append (pv 2) (pa_cons (pv 5) pa_nil))))
             pss_nil)))))))
      (pss_one (ps_ret (pe_callB call_sorted rfl T.n_sorted bt_sorted (pa_cons (pv 2) pa_nil)))))), ?_⟩
    walk_at "w"
    intro p hp
    have s1 : Same H (upd H p (.lst [V.int d])) := Same.new H hp
    have hp1 : upd H p (.lst [V.int d]) p = some (.lst ((turnsL aw kp d 0).map V.int)) := upd_same
    generalize upd H p (.lst [V.int d]) = H1 at s1 hp1 ⊢
    have W1 := W.same s1
    have gT := W1.gT
    have hmt1 := s1 _ _ hmt
    walk_at "w"
    rw [mt_len]
    refine ⟨by omega, ?_⟩
    refine for_range (lo := 0) (n := hs.length) (fun i σ H6 => Hold (∃ (v3 v4 v5 : Option V), σ = [some (.ref md), some (.int d), some (.ref p), v3, v4, v5] ∧ Same H H6 ∧ H6 p = some (.lst ((turnsL aw kp d i).map V.int)))) ⟨⟨_, _, _, rfl, s1, hp1⟩⟩ ?_ ?_
    · rintro i σ H6 hi ⟨v3, v4, v5, rfl, s6, hp6⟩
      obtain ⟨t1, t2, t3⟩ := turns_ok (R := R) (aw := aw) (kp := kp) hd hR i
      walk_at "w"
      intro c hc
      have s7 : Same H (upd H6 c (.lst ((turnsL aw kp d i).map V.int))) := s6.put (s6.free hc)
      have hc7 : upd H6 c (.lst ((turnsL aw kp d i).map V.int)) c = some (.lst ((turnsL aw kp d i).map V.int)) := upd_same
      have ncp : p ≠ c := ne_of_none hp6 hc
      have hp7 : upd H6 c (.lst ((turnsL aw kp d i).map V.int)) p = some (.lst ((passA aw kp (turnsL aw kp d i) []).map V.int)) := by rw [upd_ne ncp]; exact hp6
      have hc0 : H c = none := s6.free hc
      generalize upd H6 c (.lst ((turnsL aw kp d i).map V.int)) = H7 at s7 hc7 hp7 ⊢
      walk_at "w"
      refine for_list (K := K) (a := c) (xs := (turnsL aw kp d i).map V.int) (fun j σ H8 => Hold (∃ (v3 v4 v5 : Option V), σ = [some (.ref md), some (.int d), some (.ref p), v3, v4, v5] ∧ Same H H8 ∧ H8 c = some (.lst ((turnsL aw kp d i).map V.int)) ∧ H8 p = some (.lst ((passA aw kp (turnsL aw kp d i) ((turnsL aw kp d i).take j)).map V.int)))) ⟨⟨_, _, _, rfl, s7, hc7, by rw [List.take_zero]; exact hp7⟩⟩ (fun j σ H8 _ ⟨_, _, _, _, _, e, _⟩ => SqL.of e) ?_ ?_
      · rintro j y σ H8 hj ⟨v3, v4, v5, rfl, s8, hc8, hp8⟩
        obtain ⟨a, ha, rfl⟩ : ∃ a, (turnsL aw kp d i)[j]? = some a ∧ y = V.int a := by
          rw [List.getElem?_map] at hj
          cases e : (turnsL aw kp d i)[j]? with
          | none => rw [e] at hj; cases hj
          | some x => rw [e] at hj; exact ⟨x, rfl, (Option.some.inj hj).symm⟩
        have hah : a ∈ hs := t2 a (List.mem_of_getElem? ha)
        have W8 := W.same s8
        obtain ⟨g8, _⟩ := passA_grown (R := R) (aw := aw) (kp := kp) hR t1 t2 (xs := (turnsL aw kp d i).take j) (fun x hx => t2 x (List.mem_of_mem_take hx))
        walk_at "w"
        intro kl H9 s9 hkl hkl9
        have npk : p ≠ kl := ne_of_none hp8 hkl
        have nck : c ≠ kl := ne_of_none hc8 hkl
        walk_at "w"
        refine for_list (K := K) (a := kl) (xs := (sortI (catN (N a) z)).map V.int) (fun u σ HA => Hold (∃ (v3 v5 : Option V), σ = [some (.ref md), some (.int d), some (.ref p), v3, some (.int a), v5] ∧ Same H HA ∧ HA c = some (.lst ((turnsL aw kp d i).map V.int)) ∧ HA kl = some (.lst ((sortI (catN (N a) z)).map V.int)) ∧ HA p = some (.lst ((passK aw (passA aw kp (turnsL aw kp d i) ((turnsL aw kp d i).take j)) ((kp a).take u)).map V.int)))) ⟨⟨_, _, rfl, s8.trans s9, s9 _ _ hc8, hkl9, by rw [List.take_zero]; exact s9 _ _ hp8⟩⟩ (fun u σ HA _ ⟨_, _, _, _, _, e, _⟩ => SqL.of e) ?_ ?_
        · rintro u y σ HA hu ⟨v3, v5, rfl, sA, hcA, hklA, hpA⟩
          obtain ⟨x, hx, rfl⟩ : ∃ x, (kp a)[u]? = some x ∧ y = V.int x := by
            rw [List.getElem?_map] at hu
            cases e : (sortI (catN (N a) z))[u]? with
            | none => rw [e] at hu; cases hu
            | some x => rw [e] at hu; exact ⟨x, rfl, (Option.some.inj hu).symm⟩
          have WA := W.same sA
          obtain ⟨gA, _⟩ := passK_grown (R := R) (aw := aw) g8.nd g8.re (xs := (kp a).take u) (fun x _ e => haw x e)
          have hlA := hcl gA.nd gA.re
          have etk : passK aw (passA aw kp (turnsL aw kp d i) ((turnsL aw kp d i).take j)) ((kp a).take (u + 1)) = if aw x && !decide (x ∈ passK aw (passA aw kp (turnsL aw kp d i) ((turnsL aw kp d i).take j)) ((kp a).take u)) then passK aw (passA aw kp (turnsL aw kp d i) ((turnsL aw kp d i).take j)) ((kp a).take u) ++ [x] else passK aw (passA aw kp (turnsL aw kp d i) ((turnsL aw kp d i).take j)) ((kp a).take u) := by rw [take_snoc hx, passK_snoc]
          generalize passK aw (passA aw kp (turnsL aw kp d i) ((turnsL aw kp d i).take j)) ((kp a).take u) = f at hpA hlA etk gA
          have hszf : (f.map V.int).length < sizeLine := by
            rw [List.length_map]
            exact small1000 (by omega)
          walk_at "w"
          cases hax : awB hs sil x with
          | false =>
            walk_at "w"
            refine ⟨⟨_, _, rfl, sA, hcA, hklA, ?_⟩⟩
            rw [etk, show aw x = false from hax, Bool.false_and, if_neg Bool.false_ne_true]
            exact hpA
          | true =>
            walk_at "w"
            rw [inV_int]
            by_cases hxf : x ∈ f
            · rw [decide_eq_true hxf]
              walk_at "w"
              refine ⟨⟨_, _, rfl, sA, hcA, hklA, ?_⟩⟩
              rw [etk, show aw x = true from hax, decide_eq_true hxf, Bool.true_and, if_neg (by decide)]
              exact hpA
            · rw [decide_eq_false hxf]
              walk_at "w"
              refine ⟨⟨_, _, rfl, sA.put hp, ?_, ?_, ?_⟩⟩
              · rw [upd_ne ncp.symm]
                exact hcA
              · rw [upd_ne npk.symm]
                exact hklA
              · rw [upd_same, etk, show aw x = true from hax, decide_eq_false hxf, Bool.true_and, if_pos (by decide), List.map_append]
                rfl
        · rintro σ HA ⟨v3, v5, rfl, sA, hcA, hklA, hpA⟩
          refine ⟨⟨_, _, _, rfl, sA, hcA, ?_⟩⟩
          rw [List.length_map, show (sortI (catN (N a) z)).length = (kp a).length from rfl, List.take_length] at hpA
          rw [take_snoc ha, passA_snoc]
          exact hpA
      · rintro σ H8 ⟨v3, v4, v5, rfl, s8, hc8, hp8⟩
        rw [List.length_map, List.take_length] at hp8
        exact ⟨⟨_, _, _, rfl, s8, hp8⟩⟩
    · rintro σ H6 ⟨v3, v4, v5, rfl, s6, hp6⟩
      obtain ⟨c1, c2⟩ := come_list (z := z) (aw := aw) (N := N) (kp := kp) (hs := hs) (d := d) (fun a _ => sortI_perm _) haw hd
      have hl6 : (turnsL aw kp d hs.length).length < 64 := by
        have := hcl c1 (turns_ok (R := R) (aw := aw) (kp := kp) hd hR hs.length).2.1
        omega
      generalize turnsL aw kp d hs.length = ks at hp6 c1 c2 hl6
      walk_at "w"
      intro l hl
      exact k l ks _ (s6.put (s6.free hl)) (s6.free hl) upd_same c1 c2
def spMVisit : Sp := fun vs H Q _ => ∃ (md mt mq : Addr) (r : Int) (z : Nat) (hs sil pool : List Int) (N : Int → Nat → List Int) (M : Int → MRec) (h d : Int), vs = [.ref md, .int h, .int d] ∧ MdlAt H md mt mq r z hs sil N M ∧ H mt = some (.dK (mtD hs M)) ∧ NOk pool z r hs N ∧ pool.length < 64 ∧ (∀ x ∈ hs, x ∈ pool) ∧ (∀ x ∈ hs, 0 ≤ x ∧ x < 2 ^ z) ∧ 1 ≤ r ∧ r ≤ 8 ∧ h ∈ hs ∧ d ∈ hs ∧
  ∀ (l : Addr) (ks : List Int) (H' : Hp) (M' : Int → MRec), ks.Nodup → (∀ x, x ∈ ks ↔ Rch (edge z (awB hs sil) N) d x) → MdlAt H' md mt mq r z hs sil (meetAll r (awB hs sil) N h (visL h ks)) M' → H' mt = some (.dK (mtD hs M')) → MDeed H H' (MFoot md mt mq hs M) (MFoot md mt mq hs M') → H l = none → ¬ MFoot md mt mq hs M' l → H' l = some (.lst ((visL h ks).map V.int)) → Q (.ref l) H'
theorem MdlAt.notFoot {H : Hp} {md mt mq : Addr} {r : Int} {z : Nat} {hs sil : List Int} {N : Int → Nat → List Int} {M : Int → MRec} (W : MdlAt H md mt mq r z hs sil N M) {q : Addr} (h : H q = none) : ¬ MFoot md mt mq hs M q := fun y => by
  obtain ⟨o, e⟩ := W.ex y
  rw [h] at e
  cases e
theorem MdlAt.mtEq {H H' : Hp} {md mt mq : Addr} {r : Int} {z : Nat} {hs sil : List Int} {N' : Int → Nat → List Int} {M M' : Int → MRec} (W' : MdlAt H' md mt mq r z hs sil N' M') (hmt : H mt = some (.dK (mtD hs M))) (e : H' mt = H mt) : H' mt = some (.dK (mtD hs M')) := by
  rcases W'.t with y | ⟨o, y⟩
  · exact y
  · rw [e, hmt] at y
    cases y
theorem sc_lvisit : FnScope ["_law_model", "_law_house", "_law_door", "_law_others", "_law_other"] ["_law_model", "_law_house", "_law_door"] (defScope (top 28)) := ⟨rfl, rfl, rfl, by decide +kernel, rfl, by decide +kernel, by decide +kernel⟩
theorem ok_lvisit (T : Txt mg) (D__law_awake : Df K mg "_law_awake" (top 24) ["_law_model", "_law_name_here"]) (D__law_keeps : Df K mg "_law_keeps" (top 26) ["_law_model", "_law_house"]) (D__law_hears : Df K mg "_law_hears" (top 25) ["_law_model", "_law_house", "_law_name_here"]) (D__law_come_to : Df K mg "_law_come_to" (top 27) ["_law_model", "_law_house"]) (D : Df K mg "_law_visit" (top 28) ["_law_model", "_law_house", "_law_door"]) : FnOk P w K mg base CX0 3 D.f D.fd ["_law_model", "_law_house", "_law_door"] spMVisit := by
  have G__law_hears : FnOk P w K mg base CX0 2 _ _ _ _ := ok_lhears T D__law_awake D__law_hears
  have G__law_come_to : FnOk P w K mg base CX0 2 _ _ _ _ := ok_lcome_to T D__law_awake D__law_keeps D__law_come_to
  refine D.fn.ok sc_lvisit (fun vs H Q E h => ?_) (fun cdv A outer s H vs Q E hr h => ?_)
  · obtain ⟨md, mt, mq, r, z, hs, sil, pool, N, M, h, d, rfl, _⟩ := h
    rfl
  · obtain ⟨md, mt, mq, r, z, hs, sil, pool, N, M, h, d, rfl, W, hmt, O, hpl, hps, hb, hr1, hr2, hh, hd, k⟩ := h
    have hln := W.ln
    refine ⟨_, (pss_cons (ps_setC (i := 3) sc_lvisit.nd rfl (Or.inl rfl) rfl (compText_of (own := ["_law_other"]) (caps := [1]) (N' := ["_law_other", "_law_house"]) (by kernel_rfl)) (pi_list (pe_call G__law_come_to (hr.mono (by decide)) rfl D__law_come_to.hm D__law_come_to.fn.kp D__law_come_to.b .nil pass0 (pa_cons (pv 0) (pa_cons (pv 2) pa_nil)))) (fun _ _ _ _ _ => (pg_name (i := 0) (show (["_law_other", "_law_house"] : List Str).Nodup by decide +kernel) rfl (Or.inl rfl))) (fun _ _ _ _ _ => (pts_one (pt_cmpR op_ne (pv 0) (pv 1) (nomark _)))) (fun _ _ _ _ _ => (pv 0)))
      (pss_cons (ps_for PassesOwn.never rfl (pi_list (pv 3)) (pg_name (i := 4) sc_lvisit.nd rfl (Or.inl rfl))
       (pss_cons (ps_expr (pe_call G__law_hears (hr.mono (by decide)) rfl D__law_hears.hm D__law_hears.fn.kp D__law_hears.b .nil pass0 (pa_cons (pv 0) (pa_cons (pv 1) (pa_cons (pv 4) pa_nil)))))
        (pss_one (ps_expr (pe_call G__law_hears (hr.mono (by decide)) rfl D__law_hears.hm D__law_hears.fn.kp D__law_hears.b .nil pass0 (pa_cons (pv 0) (pa_cons (pv 4) (pa_cons (pv 1) pa_nil))))))))
      (pss_one (ps_ret (pv 3))))), ?_⟩
    walk_at "w"
    intro l ks H1 s1 hl hl1 hnd hmem
    have inHs : ∀ x ∈ ks, x ∈ hs := fun x hx => by
      have hx := (hmem x).mp hx
      cases hx with
      | own => exact hd
      | go _ e =>
        have e2 := e.2
        unfold awB at e2
        simp only [Bool.and_eq_true, decide_eq_true_eq] at e2
        exact e2.1
    have hkl : ks.length ≤ hs.length := len_of_sub hnd inHs
    walk_at "w"
    intro D hD
    refine comp_filter (notB h) hD (SqL.of hl1) (by rw [sortI_len]; omega) (fun x hx H2 Qt s2 q => ?_) fun H2 s2 hD2 => ?_
    · walk_at "w"
      exact q H2 (Same.refl H2)
    · have hD2 : H2 D = some (.lst ((visL h ks).map V.int)) := hD2
      have s12 : Same H H2 := s1.trans s2
      have W2 := W.same s12
      have hmt2 := s12 _ _ hmt
      have hD0 : H D = none := s1.free hD
      have nD := W.notFoot hD0
      walk_at "w"
      refine for_list (K := K) (a := D) (xs := (visL h ks).map V.int) (fun j σ H6 => Hold (∃ (v : Option V) (M6 : Int → MRec), σ = [some (.ref md), some (.int h), some (.int d), some (.ref D), v] ∧ MdlAt H6 md mt mq r z hs sil (meetAll r (awB hs sil) N h ((visL h ks).take j)) M6 ∧ H6 mt = some (.dK (mtD hs M6)) ∧ MDeed H2 H6 (MFoot md mt mq hs M) (MFoot md mt mq hs M6))) ?_ (fun j σ H6 _ ⟨_, _, _, _, _, e⟩ => SqL.of (e.n _ _ hD2 nD)) ?_ ?_
      · exact ⟨⟨_, M, rfl, W2, hmt2, MDeed.same (Same.refl _)⟩⟩
      · rintro j y σ H6 hj ⟨v, M6, rfl, W6, hmt6, d6⟩
        obtain ⟨x, hx, rfl⟩ : ∃ x, (visL h ks)[j]? = some x ∧ y = V.int x := by
          rw [List.getElem?_map] at hj
          cases e : (visL h ks)[j]? with
          | none => rw [e] at hj; cases hj
          | some x => rw [e] at hj; exact ⟨x, rfl, (Option.some.inj hj).symm⟩
        have hxm := visL_mem (List.mem_of_getElem? hx)
        have hxh := inHs x hxm.1
        have hxn := hxm.2
        have hxb := hb x hxh
        have hhb := hb h hh
        have O6 : NOk pool z r hs (meetAll r (awB hs sil) N h ((visL h ks).take j)) := NOk.meets hr1 (hps h hh) (fun y hy => by
            have := visL_mem (List.mem_of_mem_take hy)
            exact ⟨hps y (inHs y this.1), this.2⟩) O
        have etk : meetAll r (awB hs sil) N h ((visL h ks).take (j + 1)) = meetN r (awB hs sil) (meetAll r (awB hs sil) N h ((visL h ks).take j)) h x := by rw [take_snoc hx, meetAll_snoc]
        generalize meetAll r (awB hs sil) N h ((visL h ks).take j) = N6 at W6 O6 etk
        have O7 : NOk pool z r hs (hearN r (awB hs sil) N6 h x) := O6.hear hr1 (hps x hxh) hxn
        have le8 : ∀ {N' : Int → Nat → List Int}, NOk pool z r hs N' → ∀ g ∈ hs, ∀ k, (N' g k).length ≤ 900 := fun {N'} O' g hg k => by
          have : ((N' g k).length : Int) ≤ r := O'.le g hg k
          omega
        have a1 := hhb.1
        have a2 := hxb.1
        have a3 := stepN_lt hhb.1 hxb.1 hhb.2 hxb.2 (Ne.symm hxn)
        have a4 := O6.nd h hh (stepN h x)
        have a5 := le8 O6 h hh (stepN h x)
        have b1 := stepN_lt hxb.1 hhb.1 hxb.2 hhb.2 hxn
        have b2 := O7.nd x hxh (stepN x h)
        have b3 := le8 O7 x hxh (stepN x h)
        have b4 : h ≠ x := Ne.symm hxn
        show gName 4 (V.int x) _ _ _
        walk_at "w"
        intro H7 M7 W7 d7 e7
        have hmt7 := W7.mtEq hmt6 e7
        walk_at "w"
        intro H8 M8 W8 d8 e8
        refine ⟨⟨_, M8, rfl, ?_, W8.mtEq hmt7 e8, (d6.trans d7).trans d8⟩⟩
        rw [etk]
        exact W8
      · rintro σ H6 ⟨v, M6, rfl, W6, hmt6, d6⟩
        rw [List.length_map, List.take_length] at W6
        walk_at "w"
        refine k D ks H6 M6 hnd hmem W6 hmt6 ((MDeed.same s12).trans d6) hD0 (fun y => ?_) (d6.n _ _ hD2 nD)
        rcases d6.o D y with y | y
        · exact nD y
        · rw [hD2] at y
          cases y
def spMCome : Sp := fun vs H Q _ => ∃ (md mt mq : Addr) (r : Int) (z : Nat) (hs sil pool : List Int) (N : Int → Nat → List Int) (M : Int → MRec) (i : Int) (dv : V), vs = [.ref md, .int i, dv] ∧ MdlAt H md mt mq r z hs sil N M ∧ H mt = some (.dK (mtD hs M)) ∧ NOk pool z r hs N ∧ pool.length < 64 ∧ (∀ x ∈ hs, x ∈ pool) ∧ i ∈ pool ∧ (∀ x ∈ hs, 0 ≤ x ∧ x < 2 ^ z) ∧ 0 ≤ i ∧ i < 2 ^ z ∧ i ∉ hs ∧ hs.length < 60 ∧ 1 ≤ r ∧ r ≤ 8 ∧ (dv = .non ∨ ∃ d, dv = .int d ∧ d ∈ hs) ∧
  ∀ (l : Addr) (vis : List Int) (H' : Hp) (M' : Int → MRec), (dv = .non → vis = []) → (∀ d, dv = .int d → ∃ ks : List Int, ks.Nodup ∧ (∀ x, x ∈ ks ↔ Rch (edge z (awB (hs ++ [i]) sil) (setN N i)) d x) ∧ vis = visL i ks) → MdlAt H' md mt mq r z (hs ++ [i]) sil (meetAll r (awB (hs ++ [i]) sil) (setN N i) i vis) M' → H' mt = some (.dK (mtD (hs ++ [i]) M')) →
    MDeed H H' (MFoot md mt mq hs M) (MFoot md mt mq (hs ++ [i]) M') → H l = none → ¬ MFoot md mt mq (hs ++ [i]) M' l → H' l = some (.lst (vis.map V.int)) → Q (.ref l) H'
theorem NOk.comer {pool : List Int} {z : Nat} {r : Int} {hs : List Int} {N : Int → Nat → List Int} (O : NOk pool z r hs N) (hr : 1 ≤ r) (i : Int) : NOk pool z r (hs ++ [i]) (setN N i) := by
  unfold setN
  refine ⟨fun h hh k => ?_, fun h hh k => ?_, fun h hh k m hm => ?_⟩
  · by_cases e : h = i
    · rw [e, setH_same]
      exact List.nodup_nil
    · rw [setH_ne e]
      exact O.nd h ((List.mem_append.mp hh).elim id fun y => absurd (List.mem_singleton.mp y) e) k
  · by_cases e : h = i
    · rw [e, setH_same]
      simp only [List.length_nil]
      omega
    · rw [setH_ne e]
      exact O.le h ((List.mem_append.mp hh).elim id fun y => absurd (List.mem_singleton.mp y) e) k
  · by_cases e : h = i
    · rw [e, setH_same] at hm
      cases hm
    · rw [setH_ne e] at hm
      exact O.st h ((List.mem_append.mp hh).elim id fun y => absurd (List.mem_singleton.mp y) e) k m hm
theorem MdlAt.comes {H H1 : Hp} {md mt mq : Addr} {r : Int} {z : Nat} {hs sil : List Int} {N : Int → Nat → List Int} {M : Int → MRec} (W : MdlAt H md mt mq r z hs sil N M) (hmt : H mt = some (.dK (mtD hs M))) {i : Int} (hni : i ∉ hs) (hlen : hs.length < 60) (s1 : Same H H1) {c : Addr} (hc0 : H c = none) (hc : H1 c = some (.dK [])) :
    ∃ M', MdlAt (upd H1 mt (.dK (putK (mtD hs M) (Sum.inl i) (V.ref c)))) md mt mq r z (hs ++ [i]) sil (setN N i) M' ∧ upd H1 mt (.dK (putK (mtD hs M) (Sum.inl i) (V.ref c))) mt = some (.dK (mtD (hs ++ [i]) M')) ∧ MDeed H (upd H1 mt (.dK (putK (mtD hs M) (Sum.inl i) (V.ref c)))) (MFoot md mt mq hs M) (MFoot md mt mq (hs ++ [i]) M') := by
  let M' : Int → MRec := setH M i ⟨c, [], fun _ => 0⟩
  have eM : M' i = ⟨c, [], fun _ => 0⟩ := setH_same
  have eN : ∀ g ∈ hs, M' g = M g := fun g hg => setH_ne fun e => hni (e ▸ hg)
  have mem : ∀ {g : Int}, g ∈ hs ++ [i] → (g ∈ hs ∧ g ≠ i ∧ M' g = M g) ∨ g = i := fun {g} hg => by
    rcases List.mem_append.mp hg with y | y
    · exact .inl ⟨y, fun e => hni (e ▸ y), eN g y⟩
    · exact .inr (List.mem_singleton.mp y)
  have eput : putK (mtD hs M) (Sum.inl i) (V.ref c) = mtD (hs ++ [i]) M' := by
    rw [putK_new _ (by rw [valV_mt, if_neg hni])]
    unfold mtD tabsD
    rw [List.map_append]
    congr 1
    · exact List.map_congr_left fun g hg => by
        show ((Sum.inl g : Key), V.ref (M g).d) = ((Sum.inl g : Key), V.ref (M' g).d)
        rw [eN g hg]
    · show [((Sum.inl i : Key), V.ref c)] = [((Sum.inl i : Key), V.ref (M' i).d)]
      rw [eM]
  have up : ∀ q o, q ≠ mt → H q = some o → upd H1 mt (.dK (putK (mtD hs M) (Sum.inl i) (V.ref c))) q = some o := fun q o hq e => by
    rw [upd_ne hq]
    exact s1 _ _ e
  obtain ⟨kv, ekv, b1, b2, b3⟩ := W.d
  have nc : c ≠ mt := (ne_of_none hmt hc0).symm
  have nF : ∀ {q}, MFoot md mt mq hs M q → q ≠ c := fun {q} y => by
    obtain ⟨o, e⟩ := W.ex y
    exact ne_of_none e hc0
  refine ⟨M', ⟨⟨kv, up _ _ W.n2.1.symm ekv, b1, b2, b3⟩, .inl (by rw [upd_same, eput]), up _ _ W.n2.2.1.symm W.q, fun g hg => ?_, fun g hg j hj => ?_, fun g hg => ?_, fun g hg j hj => ?_, fun g hg g' hg' hne => ?_, fun g hg => ?_, W.n2, snoc_nodup W.hn hni, ?_, fun g hg j hj => ?_, W.zl⟩, by rw [upd_same, eput], ⟨fun q o e hd' => ?_, fun q o e hn => ?_, fun q hq => ?_, fun q hq => ?_⟩⟩
  · rcases mem hg with ⟨y, ye, e⟩ | rfl
    · rw [e]
      exact up _ _ (W.n1 g y).2.1 (W.h g y)
    · rw [eM, upd_ne nc]
      exact hc
  · rcases mem hg with ⟨y, ye, e⟩ | rfl
    · rw [e] at hj ⊢
      unfold setN
      rw [setH_ne ye]
      have := W.l g y j hj
      exact up _ _ (ne_of this hmt (by intro z; cases z)) this
    · rw [eM] at hj
      cases hj
  · rcases mem hg with ⟨y, ye, e⟩ | rfl
    · rw [e]
      exact W.nd g y
    · rw [eM]
      exact List.nodup_nil
  · unfold setN
    rcases mem hg with ⟨y, ye, e⟩ | rfl
    · rw [e] at hj
      rw [setH_ne ye]
      exact W.no g y j hj
    · rw [setH_same]
  · rcases mem hg with ⟨y, ye, e⟩ | rfl <;> rcases mem hg' with ⟨y', ye', e'⟩ | rfl
    · rw [e, e']
      exact W.dj g y g' y' hne
    · rw [e, eM]
      exact nF (.inr (.inr (.inr ⟨g, y, .inl rfl⟩)))
    · rw [e', eM]
      exact (nF (.inr (.inr (.inr ⟨g', y', .inl rfl⟩)))).symm
    · exact absurd rfl hne
  · rcases mem hg with ⟨y, ye, e⟩ | rfl
    · rw [e]
      exact W.n1 g y
    · rw [eM]
      exact ⟨(nF (.inl rfl)).symm, nc, (nF (.inr (.inr (.inl rfl)))).symm⟩
  · rw [List.length_append, List.length_singleton]
    omega
  · rcases mem hg with ⟨y, ye, e⟩ | rfl
    · rw [e] at hj
      exact W.kl g y j hj
    · rw [eM] at hj
      cases hj
  · exact up _ _ (fun y => by rw [y, hmt] at e; exact hd' _ (Option.some.inj e).symm) e
  · exact up _ _ (fun y => hn (.inr (.inl y))) e
  · rcases hq with y | y | y | ⟨g, hg, y⟩
    · exact .inl (.inl y)
    · exact .inl (.inr (.inl y))
    · exact .inl (.inr (.inr (.inl y)))
    · rcases mem hg with ⟨y2, ye, e⟩ | rfl
      · rw [e] at y
        exact .inl (.inr (.inr (.inr ⟨g, y2, y⟩)))
      · rw [eM] at y
        rcases y with rfl | ⟨j, hj, _⟩
        · exact .inr hc0
        · cases hj
  · by_cases e : q = mt
    · rw [e, upd_same] at hq
      cases hq
    · rw [upd_ne e] at hq
      exact s1.free hq
theorem sc_lcome : FnScope ["_law_model", "_law_name_here", "_law_door"] ["_law_model", "_law_name_here", "_law_door"] (defScope (top 29)) := ⟨rfl, rfl, rfl, by decide +kernel, rfl, by decide +kernel, by decide +kernel⟩
theorem ok_lcome (T : Txt mg) (D__law_awake : Df K mg "_law_awake" (top 24) ["_law_model", "_law_name_here"]) (D__law_keeps : Df K mg "_law_keeps" (top 26) ["_law_model", "_law_house"]) (D__law_hears : Df K mg "_law_hears" (top 25) ["_law_model", "_law_house", "_law_name_here"]) (D__law_come_to : Df K mg "_law_come_to" (top 27) ["_law_model", "_law_house"]) (D__law_visit : Df K mg "_law_visit" (top 28) ["_law_model", "_law_house", "_law_door"]) (D : Df K mg "_law_come" (top 29) ["_law_model", "_law_name_here", "_law_door"]) : FnOk P w K mg base CX0 4 D.f D.fd ["_law_model", "_law_name_here", "_law_door"] spMCome := by
  have G__law_visit : FnOk P w K mg base CX0 3 _ _ _ _ := ok_lvisit T D__law_awake D__law_keeps D__law_hears D__law_come_to D__law_visit
  refine D.fn.ok sc_lcome (fun vs H Q E h => ?_) (fun cdv A outer s H vs Q E hr h => ?_)
  · obtain ⟨md, mt, mq, r, z, hs, sil, pool, N, M, i, dv, rfl, _⟩ := h
    rfl
  · obtain ⟨md, mt, mq, r, z, hs, sil, pool, N, M, i, dv, rfl, W, hmt, O, hpl, hps, hip, hb, hi0, hi1, hni, hlen, hr1, hr2, hdv, k⟩ := h
    have hszd : (mtD hs M).length < sizeLine := by
      rw [mt_len]
      exact small1000 (by omega)
    refine ⟨_, (pss_cons (ps_dput (hu_of hr) (pe_dget (hu_of hr) (pv 0) pe_str (fun _ _ => rfl)) (pv 1) pe_dnewK rfl)
      (pss_cons (ps_if (pt_cmpR op_isN (pv 2) pe_non (nomark _))
       (pss_one (ps_ret (pe_lst pa_nil)))
       pss_nil)
      (pss_one (ps_ret (pe_call G__law_visit (hr.mono (by decide)) rfl D__law_visit.hm D__law_visit.fn.kp D__law_visit.b .nil pass0 (pa_cons (pv 0) (pa_cons (pv 1) (pa_cons (pv 2) pa_nil)))))))), ?_⟩
    walk_at "w"
    intro c hc
    have s1 : Same H (upd H c (.dK [])) := Same.new H hc
    have hc1 : upd H c (.dK []) c = some (.dK []) := upd_same
    generalize upd H c (.dK []) = H1 at s1 hc1 ⊢
    have W1 := W.same s1
    have gT := W1.gT
    have hmt1 := s1 _ _ hmt
    have hput : DPut H1 mt (V.int i) (V.ref c) (upd H1 mt (.dK (putK (mtD hs M) (Sum.inl i) (V.ref c)))) := DPut.k (k := Sum.inl i) hmt1 hszd
    obtain ⟨M2, W2, hmt2, d2⟩ := W.comes hmt hni hlen s1 hc hc1
    generalize upd H1 mt (.dK (putK (mtD hs M) (Sum.inl i) (V.ref c))) = H2 at hput W2 hmt2 d2
    rcases hdv with rfl | ⟨d, rfl, hd⟩
    · walk_at "w"
      intro l hl
      have s3 : Same H2 (upd H2 l (.lst [])) := Same.new H2 hl
      have hnl := W2.notFoot hl
      exact k l [] _ M2 (fun _ => rfl) (fun d y => (nomatch y)) (W2.same s3) (s3 _ _ hmt2) (d2.trans (MDeed.same s3)) (d2.e _ hl) hnl upd_same
    · have O2 := O.comer hr1 i
      have hps2 : ∀ x ∈ hs ++ [i], x ∈ pool := fun x hx => (List.mem_append.mp hx).elim (hps x) fun y => List.mem_singleton.mp y ▸ hip
      have hb2 : ∀ x ∈ hs ++ [i], 0 ≤ x ∧ x < 2 ^ z := fun x hx => (List.mem_append.mp hx).elim (hb x) fun y => List.mem_singleton.mp y ▸ ⟨hi0, hi1⟩
      have him : i ∈ hs ++ [i] := List.mem_append_right _ (List.mem_singleton.mpr rfl)
      have hdm : d ∈ hs ++ [i] := List.mem_append_left _ hd
      walk_at "w"
      intro l ks H3 M3 hnd3 hmem W3 hmt3 d3 hl hnl hl3
      exact k l (visL i ks) H3 M3 (fun y => (nomatch y)) (fun d' y => ⟨ks, hnd3, by cases y; exact hmem, rfl⟩) W3 hmt3 (d2.trans d3) (d2.e _ hl) hnl hl3
end
local macro_rules | `(tactic| walk_at "fld") => `(tactic| first | exact bF_room _ _ | exact bF_order _ _ | exact bF_full _ _ | exact bF_hears _ _ | exact bF_drops _ _ | exact bF_names _ _ | exact flat_ints _)
local macro_rules | `(tactic| walk_at "fld") => `(tactic| first | exact tF_own _ _ _ _ | exact tF_wide _ _ _ _ | exact tF_room _ _ _ _ | exact tF_buckets _ _ _ _ | exact tF_n1 _ _ _ _ | exact tF_n2 _ _ _ _ | exact tF_n3 _ _ _ _ | exact tF_n4 _ _ _ _ | exact tF_n5 _ _ _ _ | exact tF_n6 _ _ _ _)
local macro_rules | `(tactic| walk_at "fld") => `(tactic| first | exact wF_wide _ _ _ _ | exact wF_room _ _ _ _ | exact wF_tables _ _ _ _ | exact wF_silent _ _ _ _ | exact wF_m _ (by decide +kernel) _ _ _ _ | exact DGet.k (k := Sum.inl _) (by walk_at "hp"))
theorem TownAt.keepM {CB CT CW w td sd : Addr} {H H' : Hp} {z r : Int} {hs sil : List Int} {T : Int → TRec} (W : TownAt CB CT CW H w td sd z r hs sil T) (s : ∀ q o, H q = some o → (∀ d, o ≠ .dK d) → H' q = some o) (s1 : ∀ o, H td = some o → H' td = some o) (s2 : ∀ o, H sd = some o → H' sd = some o) : TownAt CB CT CW H' w td sd z r hs sil T := by
  obtain ⟨⟨dx, h1⟩, h2, h3, h4, h5, h6, h7, h8, h9, h10, h11, h12⟩ := W
  exact ⟨⟨dx, s _ _ h1 (fun _ z => nomatch z)⟩, s1 _ h2, s2 _ h3, fun h hh => (h4 h hh).keepD fun q o _ hd e => s q o e hd, h5, h6, h7, h8, h9, h10, h11, h12⟩
theorem TownAt.lay {CB CT CW w td sd : Addr} {H : Hp} {z r : Int} {hs sil : List Int} {T : Int → TRec} (W : TownAt CB CT CW H w td sd z r hs sil T) {l : Addr} {xs ys : List V} (hl : H l = some (.lst xs)) (hn : ¬ Own td sd z.toNat hs T l) : TownAt CB CT CW (upd H l (.lst ys)) w td sd z r hs sil T := by
  obtain ⟨⟨dx, h1⟩, h2, h3, h4, h5, h6, h7, h8, h9, h10, h11, h12⟩ := W
  have up : ∀ q o, H q = some o → q ≠ l → upd H l (.lst ys) q = some o := fun q o e hq => by rw [upd_ne hq]; exact e
  refine ⟨⟨dx, up _ _ h1 (ne_of h1 hl (by intro z; cases z))⟩, up _ _ h2 (ne_of h2 hl (by intro z; cases z)), up _ _ h3 (ne_of h3 hl (by intro z; cases z)), fun h hh => (h4 h hh).only (fun o e => ?_) (fun o e => up _ _ e fun y => hn (.inr (.inr ⟨h, hh, .inl y.symm⟩))) (fun k hk o e => up _ _ e fun y => hn (.inr (.inr ⟨h, hh, .inr ⟨k, hk, .inl y.symm⟩⟩))) (fun k hk o e => up _ _ e fun y => hn (.inr (.inr ⟨h, hh, .inr ⟨k, hk, .inr y.symm⟩⟩))), h5, h6, h7, h8, h9, h10, h11, h12⟩
  obtain ⟨dt, e1⟩ := (h4 h hh).ob
  exact up _ _ e (ne_of e1 hl (by intro z; cases z))
structure Both (CB CT CW : Addr) (H : Hp) (w td sd : Addr) (z r : Int) (hs sil pool : List Int) (T : Int → TRec) (md mt mq : Addr) (M : Int → MRec) : Prop where
  W : TownAt CB CT CW H w td sd z r hs sil T
  A : Apart z.toNat hs T
  B : MdlAt H md mt mq r z.toNat hs sil (fun g => (T g).ns) M
  m : H mt = some (.dK (mtD hs M))
  O : NOk pool z.toNat r hs (fun g => (T g).ns)
  p : pool.length < 64
  q : ∀ x ∈ hs, x ∈ pool
  S : ∀ q, MFoot md mt mq hs M q → ¬ Own td sd z.toNat hs T q
theorem Both.same {CB CT CW : Addr} {H H' : Hp} {w td sd : Addr} {z r : Int} {hs sil pool : List Int} {T : Int → TRec} {md mt mq : Addr} {M : Int → MRec} (X : Both CB CT CW H w td sd z r hs sil pool T md mt mq M) (s : Same H H') : Both CB CT CW H' w td sd z r hs sil pool T md mt mq M := ⟨X.W.keep fun q o _ e => s _ _ e, X.A, X.B.same s, s _ _ X.m, X.O, X.p, X.q, X.S⟩
theorem DGet.same {H H' : Hp} {a : Addr} {y : V} {r : Option V} (g : DGet H a y r) (s : Same H H') : DGet H' a y r := by
  rcases g with ⟨kvs, k, e, a1, a2⟩ | ⟨kvs, k, b, e, a1, a2, a3⟩
  · refine .inl ⟨kvs, k, ?_, a1, a2⟩
    rcases e with e | ⟨o, e⟩
    · exact .inl (s _ _ e)
    · exact .inr ⟨o, s _ _ e⟩
  · refine .inr ⟨kvs, k, b, ?_, a1, s _ _ a2, a3⟩
    rcases e with e | ⟨o, e⟩
    · exact .inl (s _ _ e)
    · exact .inr ⟨o, s _ _ e⟩
theorem ne_of_eqL {K : PySem.W.Frag} {H : Hp} {Q : VK} {a b : Addr} (ns : List Int) (h1 : H a = some (.lst (ns.map V.int))) (h2 : H b = some (.lst (ns.map V.int))) (q : Q (.bl false) H) : rEqL K true (.ref a) (.ref b) H Q := ⟨a, b, ns, ns, rfl, rfl, SqL.of h1, SqL.of h2, by
  show Q (.bl (!decide (ns = ns))) H
  rw [decide_eq_true rfl]
  exact q⟩
def spAlike (CB CT CW : Addr) : Sp := fun vs H Q _ => ∃ (w td sd : Addr) (z r : Int) (hs sil pool : List Int) (T : Int → TRec) (md mt mq : Addr) (M : Int → MRec), vs = [.ref w, .ref md] ∧ Both CB CT CW H w td sd z r hs sil pool T md mt mq M ∧ ∀ H', Same H H' → Q (.bl true) H'
section
variable {P : Program} {w : World} {K : PySem.W.Frag} {mg : Str → Option Value} {base : Heap}
theorem sc_lalike : FnScope ["_law_town", "_law_model", "_law_awake_here", "_law_house", "_law_k"] ["_law_town", "_law_model"] (defScope (top 30)) := ⟨rfl, rfl, rfl, by decide +kernel, rfl, by decide +kernel, by decide +kernel⟩
theorem ok_lalike (T : Txt mg) (D_NoHouse : DfE K mg "NoHouse") (D_is_whole : Df K mg "is_whole" (top 9) ["thing"]) (D_is_name : Df K mg "is_name" (top 10) ["thing", "wide"]) (D_Bucket : DfC K mg "Bucket" ["room", "order"]) (D_Bucket_names : DfM K D_Bucket.C "names" "Bucket.names" (inClass (top 14) 4) ["self"]) (D_Table : DfC K mg "Table" ["own", "wide", "room", "buckets"]) (D_Table_bucket : DfM K D_Table.C "bucket" "Table.bucket" (inClass (top 16) 4) ["self", "k"]) (D_Table_keeps : DfM K D_Table.C "keeps" "Table.keeps" (inClass (top 16) 5) ["self"])
    (D_Town : DfC K mg "Town" ["wide", "room", "tables", "silent"]) (D_Town_is_house : DfM K D_Town.C "is_house" "Town.is_house" (inClass (top 19) 4) ["self", "thing"]) (D_Town_answers : DfM K D_Town.C "answers" "Town.answers" (inClass (top 19) 3) ["self", "name"]) (D_Town_check_house : DfM K D_Town.C "check_house" "Town.check_house" (inClass (top 19) 16) ["self", "thing"]) (D_Town_houses : DfM K D_Town.C "houses" "Town.houses" (inClass (top 19) 1) ["self"]) (D_Town_answering : DfM K D_Town.C "answering" "Town.answering" (inClass (top 19) 2) ["self"]) (D_Town_bucket : DfM K D_Town.C "bucket" "Town.bucket" (inClass (top 19) 5) ["self", "house", "k"]) (D_Town_keeps : DfM K D_Town.C "keeps" "Town.keeps" (inClass (top 19) 6) ["self", "house"]) (D__law_keeps : Df K mg "_law_keeps" (top 26) ["_law_model", "_law_house"]) (D : Df K mg "_law_alike" (top 30) ["_law_town", "_law_model"]) : FnOk P w K mg base CX0 6 D.f D.fd ["_law_town", "_law_model"] (spAlike D_Bucket.C D_Table.C D_Town.C) := by
  have hcl := D_Town.cl
  have G_Town_houses : FnOk P w K mg base CX0 1 _ _ _ _ := ok_Town_houses (CB := D_Bucket.C) (CT := D_Table.C) T D_Town D_Town_houses
  have G_Town_answering : FnOk P w K mg base CX0 5 _ _ _ _ := ok_Town_answering (CB := D_Bucket.C) (CT := D_Table.C) T D_is_whole D_is_name D_Town D_Town_is_house D_Town_answers D_Town_houses D_Town_answering
  have G_Town_bucket : FnOk P w K mg base CX0 5 _ _ _ _ := ok_Town_bucket T D_NoHouse D_is_whole D_is_name D_Bucket D_Bucket_names D_Table D_Table_bucket D_Town D_Town_is_house D_Town_check_house D_Town_bucket
  have G_Town_keeps : FnOk P w K mg base CX0 5 _ _ _ _ := ok_Town_keeps T D_NoHouse D_is_whole D_is_name D_Bucket D_Bucket_names D_Table D_Table_keeps D_Town D_Town_is_house D_Town_check_house D_Town_keeps
  have G__law_keeps : FnOk P w K mg base CX0 1 _ _ _ _ := ok_lkeeps T D__law_keeps
  refine D.fn.ok sc_lalike (fun vs H Q E h => ?_) (fun cdv A outer s H vs Q E hr h => ?_)
  · obtain ⟨w, td, sd, z, r, hs, sil, pool, TT, md, mt, mq, M, rfl, _⟩ := h
    rfl
  · obtain ⟨w, td, sd, z, r, hs, sil, pool, TT, md, mt, mq, M, rfl, X, k⟩ := h
    have hln := X.B.ln
    have gT := X.B.gT
    have hmt := X.m
    have hkeys := mt_keys (hs := hs) (M := M)
    have h64 : hs.length < 64 := by omega
    refine ⟨_, (pss_cons (ps_setC (i := 2) sc_lalike.nd rfl (Or.inl rfl) rfl (compText_of (own := ["_law_house"]) (caps := [1]) (N' := ["_law_house", "_law_model"]) (by kernel_rfl)) (pi_list (pe_callB (call_sortedD rfl) rfl T.n_sorted bt_sorted (pa_cons (pe_dget (hu_of hr) (pv 1) pe_str (fun _ _ => rfl)) pa_nil))) (fun _ _ _ _ _ => (pg_name (i := 0) (show (["_law_house", "_law_model"] : List Str).Nodup by decide +kernel) rfl (Or.inl rfl))) (fun _ _ _ _ _ => (pts_one (pt_cmp (pc_dnotin (hu_of hr) (pv 0) (pe_dget (hu_of hr) (pv 1) pe_str (fun _ _ => rfl)))))) (fun _ _ _ _ _ => (pv 0)))
      (pss_cons (ps_if (PW.pt (pw_or (pt_cmpR (op_neL hr.units) (pe_meth0 (pv 0) D_Town.cl D_Town_houses.me G_Town_houses (hr.mono (by decide)) D_Town_houses.b .nil pass0) (pe_callB (call_sortedD rfl) rfl T.n_sorted bt_sorted (pa_cons (pe_dget (hu_of hr) (pv 1) pe_str (fun _ _ => rfl)) pa_nil)) (nomark _)) (pw_or1 (pt_cmpR (op_neL hr.units) (pe_meth0 (pv 0) D_Town.cl D_Town_answering.me G_Town_answering (hr.mono (by decide)) D_Town_answering.b .nil pass0) (pv 2) (nomark _)))))
       (pss_one (ps_ret pe_bl))
       pss_nil)
      (pss_cons (ps_thaw (H0 := H) rfl (ps_for PassesOwn.never rfl (pi_dict (pe_dget (hu_of hr) (pv 1) pe_str (fun _ _ => rfl))) (pg_name (i := 3) sc_lalike.nd rfl (Or.inl rfl))
       (pss_cons (ps_if (pt_cmpR (op_neL hr.units) (pe_meth (pv 0) D_Town.cl D_Town_keeps.me G_Town_keeps (hr.mono (by decide)) D_Town_keeps.b .nil pass0 (pa_cons (pv 3) pa_nil)) (pe_call G__law_keeps (hr.mono (by decide)) rfl D__law_keeps.hm D__law_keeps.fn.kp D__law_keeps.b .nil pass0 (pa_cons (pv 1) (pa_cons (pv 3) pa_nil))) (nomark _))
         (pss_one (ps_ret pe_bl))
         pss_nil)
        (pss_one (ps_thaw (H0 := H) rfl (ps_for PassesOwn.never rfl (pi_dict (pe_dget (hu_of hr) (pe_dget (hu_of hr) (pv 1) pe_str (fun _ _ => rfl)) (pv 3) (fun _ _ => rfl))) (pg_name (i := 4) sc_lalike.nd rfl (Or.inl rfl))
         (pss_one (ps_if (pt_cmpR (op_neL hr.units) (pe_meth (pv 0) D_Town.cl D_Town_bucket.me G_Town_bucket (hr.mono (by decide)) D_Town_bucket.b .nil pass0 (pa_cons (pv 3) (pa_cons (pv 4) pa_nil))) (pe_dget (hu_of hr) (pe_dget (hu_of hr) (pe_dget (hu_of hr) (pv 1) pe_str (fun _ _ => rfl)) (pv 3) (fun _ _ => rfl)) (pv 4) (fun _ _ => rfl)) (nomark _))
           (pss_one (ps_ret pe_bl))
           pss_nil))))))))
      (pss_one (ps_ret pe_bl))))), ?_⟩
    walk_at "w"
    intro l1 hl1
    have s1 : Same H (upd H l1 (.lst ((sortI hs).map V.int))) := Same.new H hl1
    have hl11 : upd H l1 (.lst ((sortI hs).map V.int)) l1 = some (.lst ((sortI hs).map V.int)) := upd_same
    generalize upd H l1 (.lst ((sortI hs).map V.int)) = H1 at s1 hl11 ⊢
    walk_at "w"
    intro D hD
    refine comp_filter (fun h => !decide (h ∈ sil)) hD (SqL.of hl11) (by rw [sortI_len]; omega) (fun x hx H2 Qt s2 q => ?_) fun H2 s2 hD2 => ?_
    · have W2 := (X.B.same s1).same s2
      have gQ := W2.gQ
      have hq := W2.q
      have hv := valV_sil (sil := sil) (i := x)
      walk_at "w"
      rw [hv]
      exact q H2 (Same.refl H2)
    · have s12 := s1.trans s2
      have X2 := X.same s12
      have hW2 := X2.W
      obtain ⟨⟨dx2, hob2⟩, -⟩ := id X2.W
      walk_at "w"
      intro l2 hl2
      have s3 : Same H2 (upd H2 l2 (.lst ((sortI hs).map V.int))) := Same.new H2 hl2
      have hl23 : upd H2 l2 (.lst ((sortI hs).map V.int)) l2 = some (.lst ((sortI hs).map V.int)) := upd_same
      generalize upd H2 l2 (.lst ((sortI hs).map V.int)) = H3 at s3 hl23 ⊢
      have X3 := X2.same s3
      have gT3 := X3.B.gT
      have hmt3 := X3.m
      walk_at "w"
      intro l3 hl3
      have s4 : Same H3 (upd H3 l3 (.lst ((sortI hs).map V.int))) := Same.new H3 hl3
      have hl34 : upd H3 l3 (.lst ((sortI hs).map V.int)) l3 = some (.lst ((sortI hs).map V.int)) := upd_same
      generalize upd H3 l3 (.lst ((sortI hs).map V.int)) = H4 at s4 hl34 ⊢
      refine ne_of_eqL (sortI hs) (s4 _ _ hl23) hl34 ?_
      have X4 := X3.same s4
      have hW4 := X4.W
      obtain ⟨⟨dx4, hob4⟩, -⟩ := id X4.W
      walk_at "w"
      intro l5 H5 s5 hl5 hl55
      refine ⟨_, rfl, ?_⟩
      refine ne_of_eqL _ hl55 (s5 _ _ (s4 _ _ (s3 _ _ hD2))) ?_
      walk_at "w"
      have X5 := X4.same s5
      have s05 : Same H H5 := ((s12.trans s3).trans s4).trans s5
      have gT5 := X5.B.gT
      have rmt5 : Rd H5 mt (.dK (mtD hs M)) := .inl X5.m
      have hfz : ∀ ob u, H mt ≠ some (.frz ob u) := fun ob u e => by
        rw [hmt] at e
        cases e
      walk_at "w"
      intro o H6 hz6 hoth6 _
      have own_ne : ∀ {q}, MFoot md mt mq hs M q → td ≠ q ∧ sd ≠ q := fun {q} y => ⟨fun e => X.S q y (.inl e.symm), fun e => X.S q y (.inr (.inl e.symm))⟩
      refine for_dict (a := mt) (o := o) (kvs := mtD hs M) (fun i σ H7 => Hold (∃ (v3 v4 : Option V), σ = [some (.ref w), some (.ref md), some (.ref D), v3, v4] ∧ H7 mt = some (.frz o (.dK (mtD hs M))) ∧ ∀ q o, q ≠ mt → H q = some o → H7 q = some o)) ?_ (fun i σ H7 _ ⟨_, _, _, e, _⟩ => e) ?_ ?_
      · exact ⟨⟨_, _, rfl, hz6, fun q o hq e => by
          rw [hoth6 q hq]
          exact s05 _ _ e⟩⟩
      · rintro i kv σ H7 hi ⟨v3, v4, rfl, hz7, k7⟩
        obtain ⟨h, hh, rfl⟩ : ∃ h, h ∈ hs ∧ kv = ((Sum.inl h : Key), V.ref (M h).d) := by
          unfold mtD tabsD at hi
          rw [List.getElem?_map] at hi
          cases e : hs[i]? with
          | none => rw [e] at hi; cases hi
          | some j =>
            rw [e] at hi
            exact ⟨j, List.mem_of_getElem? e, (Option.some.inj hi).symm⟩
        have hW7 : TownAt D_Bucket.C D_Table.C D_Town.C H7 w td sd z r hs sil TT := X.W.keepM (fun q o e hd => k7 q o (fun y => by rw [y, hmt] at e; exact hd _ (Option.some.inj e).symm) e) (fun o e => k7 _ _ (own_ne (.inr (.inl rfl))).1 e) (fun o e => k7 _ _ (own_ne (.inr (.inl rfl))).2 e)
        have B7 : MdlAt H7 md mt mq r z.toNat hs sil (fun g => (TT g).ns) M := by
          have B := X.B
          obtain ⟨kv, e, a, b, c⟩ := B.d
          exact ⟨⟨kv, k7 _ _ B.n2.1.symm e, a, b, c⟩, .inr ⟨o, hz7⟩, k7 _ _ B.n2.2.1.symm B.q, fun g hg => k7 _ _ (B.n1 g hg).2.1 (B.h g hg), fun g hg j hj => k7 _ _ (ne_of (B.l g hg j hj) hmt (by intro z; cases z)) (B.l g hg j hj), B.nd, B.no, B.dj, B.n1, B.n2, B.hn, B.ln, B.kl, B.zl⟩
        obtain ⟨⟨dx7, hob7⟩, -⟩ := id hW7
        have hc64 : (catN (TT h).ns z.toNat).length < 64 := Nat.lt_of_le_of_lt (X.O.len hh z.toNat) X.p
        have hO := X.O
        have hp64 := X.p
        show gName 3 (V.int h) _ _ _
        walk_at "w"
        intro m8 H8 hm8 hm88 s8
        have B8 := B7.same s8
        walk_at "w"
        intro m9 H9 s9 hm9 hm99
        refine ne_of_eqL _ (s9 _ _ hm88) hm99 ?_
        walk_at "w"
        have s79 := s8.trans s9
        have hW9 : TownAt D_Bucket.C D_Table.C D_Town.C H9 w td sd z r hs sil TT := hW7.keep fun q o _ e => s79 _ _ e
        have B9 := B7.same s79
        have hz9 := s79 _ _ hz7
        have k9 : ∀ q o, q ≠ mt → H q = some o → H9 q = some o := fun q o hq e => s79 _ _ (k7 q o hq e)
        have gT9 := B9.gT
        have gH9 := B9.gH hh
        have hd9 : Rd H9 (M h).d (.dK (mhD (M h))) := .inl (B9.h h hh)
        have hfd : ∀ ob u, H (M h).d ≠ some (.frz ob u) := fun ob u e => by
          rw [X.B.h h hh] at e
          cases e
        walk_at "w"
        intro o2 HA hzA hothA _
        have ndm : mt ≠ (M h).d := (X.B.n1 h hh).2.1.symm
        refine for_dict (a := (M h).d) (o := o2) (kvs := mhD (M h)) (fun i σ HB => Hold (∃ (v4 : Option V), σ = [some (.ref w), some (.ref md), some (.ref D), some (.int h), v4] ∧ HB mt = some (.frz o (.dK (mtD hs M))) ∧ HB (M h).d = some (.frz o2 (.dK (mhD (M h)))) ∧ ∀ q o, q ≠ mt → q ≠ (M h).d → H q = some o → HB q = some o)) ?_ (fun i σ HB _ ⟨_, _, _, e, _⟩ => e) ?_ ?_
        · exact ⟨⟨_, rfl, by rw [hothA _ ndm]; exact hz9, hzA, fun q o hq hq2 e => by
            rw [hothA q hq2]
            exact k9 q o hq e⟩⟩
        · rintro i2 kv2 σ HB hi2 ⟨v4, rfl, hzB, hzB2, kB⟩
          obtain ⟨j, hj, rfl⟩ : ∃ j, j ∈ (M h).ks ∧ kv2 = ((Sum.inl (j : Int) : Key), V.ref ((M h).l j)) := by
            unfold mhD tabsD castL at hi2
            rw [List.getElem?_map, List.getElem?_map] at hi2
            cases e : (M h).ks[i2]? with
            | none => rw [e] at hi2; cases hi2
            | some j =>
              rw [e] at hi2
              refine ⟨j, List.mem_of_getElem? e, (Option.some.inj hi2).symm.trans ?_⟩
              show ((Sum.inl (j : Int) : Key), V.ref ((M h).l ((j : Int)).toNat)) = _
              rw [Int.toNat_natCast]
          have fh : MFoot md mt mq hs M (M h).d := .inr (.inr (.inr ⟨h, hh, .inl rfl⟩))
          have hWB : TownAt D_Bucket.C D_Table.C D_Town.C HB w td sd z r hs sil TT := X.W.keepM (fun q o e hd => kB q o (fun y => by rw [y, hmt] at e; exact hd _ (Option.some.inj e).symm) (fun y => by rw [y, X.B.h h hh] at e; exact hd _ (Option.some.inj e).symm) e) (fun o e => kB _ _ (own_ne (.inr (.inl rfl))).1 (own_ne fh).1 e) (fun o e => kB _ _ (own_ne (.inr (.inl rfl))).2 (own_ne fh).2 e)
          obtain ⟨⟨dxB, hobB⟩, -⟩ := id hWB
          have hjz : (j : Int).toNat < z.toNat := by rw [Int.toNat_natCast]; exact X.B.kl h hh j hj
          have hj0 : (0 : Int) ≤ (j : Int) := Int.natCast_nonneg j
          have gTB : DGet HB md (V.str "tables") (some (V.ref mt)) := by
            obtain ⟨kv, e, a, _⟩ := X.B.d
            exact .inl ⟨kv, Sum.inr "tables", .inl (kB _ _ X.B.n2.1.symm (X.B.n1 h hh).1.symm e), rfl, a.symm⟩
          have gHB : DGet HB mt (V.int h) (some (V.ref (M h).d)) := .inl ⟨_, Sum.inl h, .inr ⟨o, hzB⟩, rfl, by rw [valV_mt, if_pos hh]⟩
          have gKB : DGet HB (M h).d (V.int (j : Int)) (some (V.ref ((M h).l j))) := .inl ⟨_, Sum.inl (j : Int), .inr ⟨o2, hzB2⟩, rfl, by rw [valV_mh, if_pos hj]⟩
          have hlj := X.B.l h hh j hj
          have hljB := kB _ _ (ne_of hlj hmt (by intro z; cases z)) (ne_of hlj (X.B.h h hh) (by intro z; cases z)) hlj
          show gName 4 (V.int (j : Int)) _ _ _
          walk_at "w"
          intro mC HC hmC hmCC sC
          have gTC : DGet HC md (V.str "tables") (some (V.ref mt)) := DGet.same gTB sC
          have gHC : DGet HC mt (V.int h) (some (V.ref (M h).d)) := DGet.same gHB sC
          have gKC : DGet HC (M h).d (V.int (j : Int)) (some (V.ref ((M h).l j))) := DGet.same gKB sC
          rw [Int.toNat_natCast] at hmCC
          have hljC : HC ((M h).l j) = some (.lst (((TT h).ns j).map V.int)) := sC _ _ hljB
          walk_at "w"
          change if (!decide ((TT h).ns j = (TT h).ns j)) = true then _ else _
          rw [decide_eq_true rfl]
          walk_at "w"
          exact ⟨⟨_, rfl, sC _ _ hzB, sC _ _ hzB2, fun q o hq hq2 e => sC _ _ (kB q o hq hq2 e)⟩⟩
        · rintro σ HB ⟨v4, rfl, hzB, hzB2, kB⟩
          refine ⟨(M h).d, mhD (M h), o2, hzB2, hfd, ?_⟩
          refine ⟨⟨_, _, rfl, by rw [upd_ne ndm]; exact hzB, fun q o hq e => ?_⟩⟩
          by_cases e2 : q = (M h).d
          · rw [e2, X.B.h h hh] at e
            rw [e2, upd_same]
            exact e
          · rw [upd_ne e2]
            exact kB q o hq e2 e
      · rintro σ H7 ⟨v3, v4, rfl, hz7, k7⟩
        refine ⟨mt, mtD hs M, o, hz7, hfz, ?_⟩
        walk_at "w"
        refine k _ fun q o e => ?_
        by_cases e2 : q = mt
        · rw [e2, hmt] at e
          rw [e2, upd_same]
          exact e
        · rw [upd_ne e2]
          exact k7 q o e2 e
end
local macro_rules | `(tactic| walk_at "fld") => `(tactic| first | exact bF_room _ _ | exact bF_order _ _ | exact bF_full _ _ | exact bF_hears _ _ | exact bF_drops _ _ | exact bF_names _ _ | exact flat_ints _)
local macro_rules | `(tactic| walk_at "fld") => `(tactic| first | exact tF_own _ _ _ _ | exact tF_wide _ _ _ _ | exact tF_room _ _ _ _ | exact tF_buckets _ _ _ _ | exact tF_n1 _ _ _ _ | exact tF_n2 _ _ _ _ | exact tF_n3 _ _ _ _ | exact tF_n4 _ _ _ _ | exact tF_n5 _ _ _ _ | exact tF_n6 _ _ _ _)
local macro_rules | `(tactic| walk_at "fld") => `(tactic| first | exact wF_wide _ _ _ _ | exact wF_room _ _ _ _ | exact wF_tables _ _ _ _ | exact wF_silent _ _ _ _ | exact wF_m _ (by decide +kernel) _ _ _ _ | exact DGet.k (k := Sum.inl _) (by walk_at "hp"))
section
variable {P : Program} {w : World} {K : PySem.W.Frag} {mg : Str → Option Value} {base : Heap}
def spMixed3 : Sp := fun vs H Q _ => ∃ c k : Int, vs = [.int c, .int k] ∧ 0 ≤ k ∧ k ≤ 1000 ∧ ∀ m : Int, 0 ≤ m → m < 2147483647 → Q (.int m) H
def spWide3 : Sp := fun vs H Q _ => ∃ c : Int, vs = [.int c] ∧ 0 ≤ c ∧ ∀ (z : Int) (H' : Hp), 1 ≤ z → z ≤ 60 → Same H H' → Q (.int z) H'
def spLnear : Sp := fun vs H Q _ => ∃ s z f : Int, vs = [.int s, .int z, .int f] ∧ 0 ≤ s ∧ 0 ≤ f ∧ 1 ≤ z ∧ z ≤ 60 ∧ ∀ m : Int, 0 ≤ m → m < 2 ^ z.toNat → Q (.int m) H
theorem sc_lmixed : FnScope ["_law_cell", "_law_k"] ["_law_cell", "_law_k"] (defScope (top 21)) := ⟨rfl, rfl, rfl, by decide +kernel, rfl, by decide +kernel, by decide +kernel⟩
theorem ok_lmixed (D : Df K mg "_law_mixed" (top 21) ["_law_cell", "_law_k"]) : FnOk P w K mg base CX0 1 D.f D.fd ["_law_cell", "_law_k"] spMixed3 := by
  refine D.fn.ok sc_lmixed (fun vs H Q E h => ?_) (fun cdv A outer s H vs Q E hr h => ?_)
  · obtain ⟨c, i, rfl, _⟩ := h
    rfl
  · obtain ⟨c, i, rfl, hi0, hi1, k⟩ := h
    refine ⟨_, (pss_one (ps_ret (pe_op op_fdiv (pe_op op_mod (pe_op op_add (pe_op op_add (pe_op op_add (pe_op op_mul (pe_op op_mod (pv 0) pe_int) pe_int) (pe_op op_mul (pe_op op_mul pe_int (pv 1)) (pv 1))) (pe_op op_mul pe_int (pv 1))) pe_int) pe_int) pe_int))), ?_⟩
    walk_at "w"
    refine k _ ?_ ?_
    · omega
    · omega
theorem sc_lwide : FnScope ["_law_cell"] ["_law_cell"] (defScope (top 22)) := ⟨rfl, rfl, rfl, by decide +kernel, rfl, by decide +kernel, by decide +kernel⟩
theorem ok_lwide (D : Df K mg "_law_wide" (top 22) ["_law_cell"]) : FnOk P w K mg base CX0 1 D.f D.fd ["_law_cell"] spWide3 := by
  refine D.fn.ok sc_lwide (fun vs H Q E h => ?_) (fun cdv A outer s H vs Q E hr h => ?_)
  · obtain ⟨c, rfl, _⟩ := h
    rfl
  · obtain ⟨c, rfl, hc, k⟩ := h
    refine ⟨_, (pss_one (ps_ret (pe_ix ix_list (pe_lst (pa_cons (pe_op op_add pe_int (pe_op op_mod (pe_op op_fdiv (pv 0) pe_int) pe_int)) (pa_cons (pe_op op_add pe_int (pe_op op_mod (pe_op op_fdiv (pv 0) pe_int) pe_int)) (pa_cons pe_int (pa_cons (pe_op op_add pe_int (pe_op op_mod (pe_op op_fdiv (pv 0) pe_int) pe_int)) pa_nil))))) (pe_op op_mod (pv 0) pe_int) (fun _ _ => rfl)))), ?_⟩
    obtain ⟨z, hz1, hz2, hat⟩ : ∃ z, 1 ≤ z ∧ z ≤ 60 ∧ atI [V.int (1 + c / 4 % 60), V.int (3 + c / 4 % 4), V.int 4, V.int (1 + c / 4 % 8)] (c % 4) = some (V.int z) := by
      have h4 : c % 4 = 0 ∨ c % 4 = 1 ∨ c % 4 = 2 ∨ c % 4 = 3 := by omega
      rcases h4 with h | h | h | h
      · exact ⟨1 + c / 4 % 60, by omega, by omega, by rw [h]; rfl⟩
      · exact ⟨3 + c / 4 % 4, by omega, by omega, by rw [h]; rfl⟩
      · exact ⟨4, by omega, by omega, by rw [h]; rfl⟩
      · exact ⟨1 + c / 4 % 8, by omega, by omega, by rw [h]; rfl⟩
    walk_at "w"
    intro p hp
    walk_at "w"
    exact k z _ hz1 hz2 (Same.new H hp)
theorem sc_lnear : FnScope ["_law_signs", "_law_wide_here", "_law_first"] ["_law_signs", "_law_wide_here", "_law_first"] (defScope (top 23)) := ⟨rfl, rfl, rfl, by decide +kernel, rfl, by decide +kernel, by decide +kernel⟩
theorem ok_lnear (D : Df K mg "_law_near" (top 23) ["_law_signs", "_law_wide_here", "_law_first"]) : FnOk P w K mg base CX0 1 D.f D.fd ["_law_signs", "_law_wide_here", "_law_first"] spLnear := by
  refine D.fn.ok sc_lnear (fun vs H Q E h => ?_) (fun cdv A outer s H vs Q E hr h => ?_)
  · obtain ⟨s, z, f, rfl, _⟩ := h
    rfl
  · obtain ⟨c, z, f, rfl, hc, hf, hz1, hz2, k⟩ := h
    refine ⟨_, (pss_cons (ps_if (pt_cmpR op_eq (pe_op op_mod (pv 0) pe_int) pe_int (nomark _))
       (pss_one (ps_ret (pe_op op_mod (pe_op op_fdiv (pv 0) pe_int) (pe_op op_shl pe_int (pv 1)))))
       pss_nil)
      (pss_one (ps_ret (pe_op op_mod (pe_op op_xor (pv 2) (pe_op op_mod (pe_op op_fdiv (pv 0) pe_int) pe_int)) (pe_op op_shl pe_int (pv 1)))))), ?_⟩
    have hp : (0 : Int) < 1 * 2 ^ z.toNat := by rw [Int.one_mul]; exact two_pow_pos _
    have hnn : ∀ x : Int, 0 ≤ x % (1 * 2 ^ z.toNat) := fun x => Int.emod_nonneg _ (Int.ne_of_gt hp)
    have hlt : ∀ x : Int, x % (1 * 2 ^ z.toNat) < 2 ^ z.toNat := fun x => by
      have := Int.emod_lt_of_pos x hp
      rw [Int.one_mul] at this ⊢
      exact this
    walk_at "w"
    refine ite2 (fun _ => ?_) (fun _ => ?_)
    · walk_at "w"
      exact k _ (hnn _) (hlt _)
    · walk_at "w"
      exact k _ (hnn _) (hlt _)
theorem sum_nn : ∀ {l : List Int}, (∀ x ∈ l, 0 ≤ x) → 0 ≤ l.sum
  | [], _ => Int.le_refl 0
  | x :: t, h => by
    have := sum_nn (l := t) fun y hy => h y (List.mem_cons_of_mem _ hy)
    have := h x (List.mem_cons_self ..)
    rw [List.sum_cons]
    omega
def spMName : Sp := fun vs H Q _ => ∃ (md mt mq : Addr) (r : Int) (z' : Nat) (hs sil : List Int) (N : Int → Nat → List Int) (M : Int → MRec) (z c : Int), vs = [.ref md, .int z, .int c] ∧ MdlAt H md mt mq r z' hs sil N M ∧ H mt = some (.dK (mtD hs M)) ∧ (∀ x ∈ hs, 0 ≤ x) ∧ 0 ≤ c ∧ 1 ≤ z ∧ z ≤ 60 ∧
  ∀ (i : Int) (H' : Hp), Same H H' → 0 ≤ i → i < 2 ^ z.toNat → Q (.int i) H'
theorem sc_lname : FnScope ["_law_model", "_law_wide_here", "_law_cell", "_law_signs"] ["_law_model", "_law_wide_here", "_law_cell"] (defScope (top 33)) := ⟨rfl, rfl, rfl, by decide +kernel, rfl, by decide +kernel, by decide +kernel⟩
theorem ok_lname (T : Txt mg) (D__law_mixed : Df K mg "_law_mixed" (top 21) ["_law_cell", "_law_k"]) (D__law_near : Df K mg "_law_near" (top 23) ["_law_signs", "_law_wide_here", "_law_first"]) (D : Df K mg "_law_name" (top 33) ["_law_model", "_law_wide_here", "_law_cell"]) : FnOk P w K mg base CX0 2 D.f D.fd ["_law_model", "_law_wide_here", "_law_cell"] spMName := by
  have G__law_mixed : FnOk P w K mg base CX0 1 _ _ _ _ := ok_lmixed D__law_mixed
  have G__law_near : FnOk P w K mg base CX0 1 _ _ _ _ := ok_lnear D__law_near
  refine D.fn.ok sc_lname (fun vs H Q E h => ?_) (fun cdv A outer s H vs Q E hr h => ?_)
  · obtain ⟨md, mt, mq, r, z', hs, sil, N, M, z, c, rfl, _⟩ := h
    rfl
  · obtain ⟨md, mt, mq, r, z', hs, sil, N, M, z, c, rfl, W, hmt, hnn, hc, hz1, hz2, k⟩ := h
    have hln := W.ln
    have hkeys := mt_keys (hs := hs) (M := M)
    have h1000 : hs.length ≤ 1000 := by omega
    refine ⟨_, (pss_cons (ps_set (i := 3) sc_lname.nd rfl (Or.inl rfl) (pe_ix ix_list (pe_lst (pa_cons (pe_op op_fdiv (pv 2) pe_int) (pa_cons (pe_op op_mul (pe_call G__law_mixed (hr.mono (by decide)) rfl D__law_mixed.hm D__law_mixed.fn.kp D__law_mixed.b .nil pass0 (pa_cons (pv 2) (pa_cons pe_int pa_nil))) (pe_call G__law_mixed (hr.mono (by decide)) rfl D__law_mixed.hm D__law_mixed.fn.kp D__law_mixed.b .nil pass0 (pa_cons (pv 2) (pa_cons pe_int pa_nil)))) pa_nil))) (pe_op op_mod (pv 2) pe_int) (fun _ _ => rfl)))
      (pss_one (ps_ret (pe_call G__law_near (hr.mono (by decide)) rfl D__law_near.hm D__law_near.fn.kp D__law_near.b .nil pass0 (pa_cons (pv 3) (pa_cons (pv 1) (pa_cons (pe_callB (call_sum rfl) rfl T.n_sum bt_sum (pa_cons (pe_slice sl_list (pe_callTy (call_listD rfl) rfl T.n_list bt_list (pa_cons (pe_dget (hu_of hr) (pv 0) pe_str (fun _ _ => rfl)) pa_nil)) po_none (po_some pe_int)) pa_nil)) pa_nil))))))), ?_⟩
    walk_at "w"
    intro m1 hm1 hm1'
    walk_at "w"
    intro m2 hm2 hm2'
    walk_at "w"
    intro p hp
    have hmm : 0 ≤ m1 * m2 := Int.mul_nonneg hm1 hm2
    obtain ⟨sg, hsg, hat⟩ : ∃ sg, 0 ≤ sg ∧ atI [V.int (c / 2), V.int (m1 * m2)] (c % 2) = some (V.int sg) := by
      have h2 : c % 2 = 0 ∨ c % 2 = 1 := by omega
      rcases h2 with h | h
      · exact ⟨c / 2, by omega, by rw [h]; rfl⟩
      · exact ⟨m1 * m2, hmm, by rw [h]; rfl⟩
    have s1 : Same H (upd H p (.lst [V.int (c / 2), V.int (m1 * m2)])) := Same.new H hp
    have hp1 : upd H p (.lst [V.int (c / 2), V.int (m1 * m2)]) p = some (.lst [V.int (c / 2), V.int (m1 * m2)]) := upd_same
    generalize upd H p (.lst [V.int (c / 2), V.int (m1 * m2)]) = H1 at s1 hp1 ⊢
    have W1 := W.same s1
    have gT := W1.gT
    have hmt1 := s1 _ _ hmt
    walk_at "w"
    intro l1 hl1
    have s2 : Same H1 (upd H1 l1 (.lst (hs.map V.int))) := Same.new H1 hl1
    have hl12 : upd H1 l1 (.lst (hs.map V.int)) l1 = some (.lst (hs.map V.int)) := upd_same
    generalize upd H1 l1 (.lst (hs.map V.int)) = H2 at s2 hl12 ⊢
    obtain ⟨ts, ets, _, hts⟩ := cut_sub hs none (some 1)
    walk_at "w"
    rw [ets]
    intro l2 hl2
    have hsum : 0 ≤ ts.sum := sum_nn fun x hx => hnn x (hts x hx)
    have s3 : Same H2 (upd H2 l2 (.lst (ts.map V.int))) := Same.new H2 hl2
    walk_at "w"
    intro i hi0 hi1
    exact k i _ ((s1.trans s2).trans s3) hi0 hi1
end
local macro_rules | `(tactic| walk_at "fld") => `(tactic| first | exact bF_room _ _ | exact bF_order _ _ | exact bF_full _ _ | exact bF_hears _ _ | exact bF_drops _ _ | exact bF_names _ _ | exact flat_ints _)
local macro_rules | `(tactic| walk_at "fld") => `(tactic| first | exact tF_own _ _ _ _ | exact tF_wide _ _ _ _ | exact tF_room _ _ _ _ | exact tF_buckets _ _ _ _ | exact tF_n1 _ _ _ _ | exact tF_n2 _ _ _ _ | exact tF_n3 _ _ _ _ | exact tF_n4 _ _ _ _ | exact tF_n5 _ _ _ _ | exact tF_n6 _ _ _ _)
local macro_rules | `(tactic| walk_at "fld") => `(tactic| first | exact wF_wide _ _ _ _ | exact wF_room _ _ _ _ | exact wF_tables _ _ _ _ | exact wF_silent _ _ _ _ | exact wF_m _ (by decide +kernel) _ _ _ _ | exact DGet.k (k := Sum.inl _) (by walk_at "hp"))
def spMSome : Sp := fun vs H Q _ => ∃ (md mt mq : Addr) (r : Int) (z : Nat) (hs sil : List Int) (N : Int → Nat → List Int) (M : Int → MRec) (c : Int), vs = [.ref md, .int c] ∧ MdlAt H md mt mq r z hs sil N M ∧ H mt = some (.dK (mtD hs M)) ∧
  ∀ (v : V) (H' : Hp), Same H H' → (v = .non ∨ ∃ d, v = .int d ∧ d ∈ hs ∧ d ∉ sil) → Q v H'
section
variable {P : Program} {w : World} {K : PySem.W.Frag} {mg : Str → Option Value} {base : Heap}
theorem sc_lsome : FnScope ["_law_model", "_law_cell", "_law_awake_here"] ["_law_model", "_law_cell"] (defScope (top 32)) := ⟨rfl, rfl, rfl, by decide +kernel, rfl, by decide +kernel, by decide +kernel⟩
theorem ok_lsome (T : Txt mg) (D : Df K mg "_law_some" (top 32) ["_law_model", "_law_cell"]) : FnOk P w K mg base CX0 1 D.f D.fd ["_law_model", "_law_cell"] spMSome := by
  refine D.fn.ok sc_lsome (fun vs H Q E h => ?_) (fun cdv A outer s H vs Q E hr h => ?_)
  · obtain ⟨md, mt, mq, r, z, hs, sil, N, M, c, rfl, _⟩ := h
    rfl
  · obtain ⟨md, mt, mq, r, z, hs, sil, N, M, c, rfl, W, hmt, k⟩ := h
    have hln := W.ln
    have gT := W.gT
    have hkeys := mt_keys (hs := hs) (M := M)
    have h64 : hs.length < 64 := by omega
    refine ⟨_, (pss_cons (ps_setC (i := 2) sc_lsome.nd rfl (Or.inl rfl) rfl (compText_of (own := ["_law_house"]) (caps := [0]) (N' := ["_law_house", "_law_model"]) (by kernel_rfl)) (pi_list (pe_callB (call_sortedD rfl) rfl T.n_sorted bt_sorted (pa_cons (pe_dget (hu_of hr) (pv 0) pe_str (fun _ _ => rfl)) pa_nil))) (fun _ _ _ _ _ => (pg_name (i := 0) (show (["_law_house", "_law_model"] : List Str).Nodup by decide +kernel) rfl (Or.inl rfl))) (fun _ _ _ _ _ => (pts_one (pt_cmp (pc_dnotin (hu_of hr) (pv 0) (pe_dget (hu_of hr) (pv 1) pe_str (fun _ _ => rfl)))))) (fun _ _ _ _ _ => (pv 0)))
      (pss_cons (ps_if (pt_cmpR (op_eqL hr.units) (pv 2) (pe_lst pa_nil) (nomark _))
       (pss_one (ps_ret pe_non))
       pss_nil)
      (pss_one (ps_ret (pe_ix ix_list (pv 2) (pe_op op_mod (pv 1) (pe_callB call_len_seq rfl T.n_len bt_len (pa_cons (pv 2) pa_nil))) (fun _ _ => rfl)))))), ?_⟩
    walk_at "w"
    intro l hl
    have s1 : Same H (upd H l (.lst ((sortI hs).map V.int))) := Same.new H hl
    have hl1 : upd H l (.lst ((sortI hs).map V.int)) l = some (.lst ((sortI hs).map V.int)) := upd_same
    generalize upd H l (.lst ((sortI hs).map V.int)) = H1 at s1 hl1 ⊢
    walk_at "w"
    intro D hD
    refine comp_filter (fun h => !decide (h ∈ sil)) hD (SqL.of hl1) (by rw [sortI_len]; omega) (fun x hx H2 Qt s2 q => ?_) fun H2 s2 hD2 => ?_
    · have W2 := (W.same s1).same s2
      have gQ := W2.gQ
      have hq := W2.q
      have hv := valV_sil (sil := sil) (i := x)
      walk_at "w"
      rw [hv]
      exact q H2 (Same.refl H2)
    · generalize hf : (sortI hs).filter (fun h => !decide (h ∈ sil)) = f at hD2
      have hfm : ∀ x ∈ f, x ∈ hs ∧ x ∉ sil := fun x hx => by
        rw [← hf] at hx
        obtain ⟨a, b⟩ := List.mem_filter.mp hx
        exact ⟨(sortI_perm _).subset a, by simpa using b⟩
      have hfl : f.length ≤ 60 := by
        rw [← hf]
        have := List.length_filter_le (fun h => !decide (h ∈ sil)) (sortI hs)
        rw [sortI_len] at this
        omega
      have s12 := s1.trans s2
      walk_at "w"
      intro e0 he0
      have s3 : Same H2 (upd H2 e0 (.lst [])) := Same.new H2 he0
      have he01 : upd H2 e0 (.lst []) e0 = some (.lst (([] : List Int).map V.int)) := upd_same
      have hD3 := s3 _ _ hD2
      generalize upd H2 e0 (.lst []) = H3 at s3 he01 hD3 ⊢
      have s13 := s12.trans s3
      walk_at "w"
      by_cases hne : f = []
      · refine iteD hne ?_
        walk_at "w"
        exact k .non H3 s13 (.inl rfl)
      · refine iteDn hne ?_
        have hlm : (f.map V.int).length = f.length := List.length_map ..
        have hpos : (0 : Int) < (((f.map V.int).length : Nat) : Int) := by
          have := List.length_pos_iff.mpr hne
          omega
        obtain ⟨y, hy, hat⟩ : ∃ y, y ∈ f ∧ atI (f.map V.int) (c % (((f.map V.int).length : Nat) : Int)) = some (V.int y) := by
          have a1 := Int.emod_nonneg c (Int.ne_of_gt hpos)
          have a2 := Int.emod_lt_of_pos c hpos
          have hlt : (c % (((f.map V.int).length : Nat) : Int)).toNat < f.length := by omega
          refine ⟨f[(c % (((f.map V.int).length : Nat) : Int)).toNat], List.getElem_mem hlt, ?_⟩
          have e : (((c % (((f.map V.int).length : Nat) : Int)).toNat : Nat) : Int) = c % (((f.map V.int).length : Nat) : Int) := by omega
          have z := atI_nat (xs := f.map V.int) (j := (c % (((f.map V.int).length : Nat) : Int)).toNat) (v := V.int f[(c % (((f.map V.int).length : Nat) : Int)).toNat]) (by simp [hlt])
          rwa [e] at z
        walk_at "w"
        exact k (.int y) H3 s13 (.inr ⟨y, rfl, hfm y hy⟩)
theorem room_pick {c : Int} (c0 : 0 ≤ c) : ∃ r, 1 ≤ r ∧ r ≤ 8 ∧ atI [V.int (1 + c / 256 % 3), V.int (1 + c / 256 % 8)] (c / 2048 % 2) = some (V.int r) := by
  have h2 : c / 2048 % 2 = 0 ∨ c / 2048 % 2 = 1 := by omega
  rcases h2 with h | h
  · exact ⟨1 + c / 256 % 3, by omega, by omega, by rw [h]; rfl⟩
  · exact ⟨1 + c / 256 % 8, by omega, by omega, by rw [h]; rfl⟩
def spMSet (K : PySem.W.Frag) : Sp := fun vs H Q _ => ∃ (a : Addr) (ss : List Int), vs = [.ref a] ∧ SqL K H a (ss.map V.int) ∧
  ∀ (tp md mt mq : Addr) (z r : Int) (H' : Hp) (N : Int → Nat → List Int) (M : Int → MRec), 1 ≤ z → z ≤ 60 → 1 ≤ r → r ≤ 8 → Same H H' → H' tp = some (.tup [.int z, .int r, .ref md]) → MdlAt H' md mt mq r z.toNat [] [] N M → H' mt = some (.dK (mtD [] M)) → H md = none → H mt = none → H mq = none → Q (.ref tp) H'
theorem sc_lset : FnScope ["_law_script", "_law_head", "_law_wide_here", "_law_room"] ["_law_script"] (defScope (top 31)) := ⟨rfl, rfl, rfl, by decide +kernel, rfl, by decide +kernel, by decide +kernel⟩
theorem ok_lset (T : Txt mg) (D__law_wide : Df K mg "_law_wide" (top 22) ["_law_cell"]) (D : Df K mg "_law_set" (top 31) ["_law_script"]) : FnOk P w K mg base CX0 2 D.f D.fd ["_law_script"] (spMSet K) := by
  have G__law_wide : FnOk P w K mg base CX0 1 _ _ _ _ := ok_lwide D__law_wide
  refine D.fn.ok sc_lset (fun vs H Q E h => ?_) (fun cdv A outer s H vs Q E hr h => ?_)
  · obtain ⟨a, ss, rfl, _⟩ := h
    rfl
  · obtain ⟨a, ss, rfl, hS, k⟩ := h
    obtain ⟨ts, ets, _⟩ := cut_ints ss none (some 1)
    refine ⟨_, (pss_cons (ps_set (i := 1) sc_lset.nd rfl (Or.inl rfl) (pe_op op_mod (pe_callB (call_sum rfl) rfl T.n_sum bt_sum (pa_cons (pe_slice sl_list (pv 0) po_none (po_some pe_int)) pa_nil)) (pe_op op_pow pe_int pe_int)))
      (pss_cons (ps_set (i := 2) sc_lset.nd rfl (Or.inl rfl) (pe_call G__law_wide (hr.mono (by decide)) rfl D__law_wide.hm D__law_wide.fn.kp D__law_wide.b .nil pass0 (pa_cons (pv 1) pa_nil)))
      (pss_cons (ps_set (i := 3) sc_lset.nd rfl (Or.inl rfl) (pe_ix ix_list (pe_lst (pa_cons (pe_op op_add pe_int (pe_op op_mod (pe_op op_fdiv (pv 1) pe_int) pe_int)) (pa_cons (pe_op op_add pe_int (pe_op op_mod (pe_op op_fdiv (pv 1) pe_int) pe_int)) pa_nil))) (pe_op op_mod (pe_op op_fdiv (pv 1) pe_int) pe_int) (fun _ _ => rfl)))
      (pss_one (ps_ret (pe_tup (pa_cons (pv 2) (pa_cons (pv 3) (pa_cons (pe_disp (pps_cons pe_str pe_dnewK (pps_cons pe_str pe_dnewK (pps_cons pe_str (pv 3) pps_nil))) rfl rfl (fun z => nomatch z) (Nat.le_of_ble_eq_true rfl)) pa_nil))))))))), ?_⟩
    walk_at "w"
    rw [ets]
    intro p1 hp1
    have s1 : Same H (upd H p1 (.lst (ts.map V.int))) := Same.new H hp1
    have hp11 : upd H p1 (.lst (ts.map V.int)) p1 = some (.lst (ts.map V.int)) := upd_same
    generalize upd H p1 (.lst (ts.map V.int)) = H1 at s1 hp11 ⊢
    have c0 : 0 ≤ ts.sum % 10 ^ (60 : Int).toNat := Int.emod_nonneg _ (by decide)
    walk_at "w"
    intro z H2 hz1 hz2 s2
    walk_at "w"
    intro p2 hp2
    obtain ⟨r, hr1, hr2, hat⟩ := room_pick c0
    have s3 : Same H2 (upd H2 p2 (.lst [V.int (1 + ts.sum % 10 ^ (60 : Int).toNat / 256 % 3), V.int (1 + ts.sum % 10 ^ (60 : Int).toNat / 256 % 8)])) := Same.new H2 hp2
    have s03 := (s1.trans s2).trans s3
    walk_at "w"
    change (tCons _ _ : TA) _ (upd H2 p2 (.lst [V.int (1 + ts.sum % 10 ^ (60 : Int).toNat / 256 % 3), V.int (1 + ts.sum % 10 ^ (60 : Int).toNat / 256 % 8)])) _
    generalize upd H2 p2 (.lst [V.int (1 + ts.sum % 10 ^ (60 : Int).toNat / 256 % 3), V.int (1 + ts.sum % 10 ^ (60 : Int).toNat / 256 % 8)]) = H3 at s3 s03 ⊢
    intro md hmd
    intro mt hmt
    intro mq hmq
    refine ⟨_, rfl, ?_⟩
    have nmt : mt ≠ md := (ne_of_none upd_same hmt).symm
    have nqt : mq ≠ mt := (ne_of_none upd_same hmq).symm
    have nqd : mq ≠ md := fun e => by
      rw [e, upd_ne nmt.symm, upd_same] at hmq
      cases hmq
    refine ⟨by rw [upd_ne nqd.symm, upd_ne nmt.symm, upd_same], [(Sum.inr "tables", V.ref mt), (Sum.inr "quiet", V.ref mq), (Sum.inr "room", V.int r)], rfl, (show 3 ≤ 15 by decide), ?_⟩
    have hmt3 : H3 mt = none := by rw [upd_ne nmt] at hmt; exact hmt
    have hmq3 : H3 mq = none := by rw [upd_ne nqt, upd_ne nqd] at hmq; exact hmq
    generalize hH4 : upd (upd (upd (upd H3 md _) mt _) mq _) md _ = H4
    have s4 : Same H3 H4 := fun q o e => by
      rw [← hH4, upd_ne (ne_of_none e hmd), upd_ne (ne_of_none e hmq3), upd_ne (ne_of_none e hmt3), upd_ne (ne_of_none e hmd)]
      exact e
    have e1 : H4 md = some (.dK [(Sum.inr "tables", V.ref mt), (Sum.inr "quiet", V.ref mq), (Sum.inr "room", V.int r)]) := by rw [← hH4, upd_same]; rfl
    have e2 : H4 mt = some (.dK []) := by rw [← hH4, upd_ne nmt, upd_ne nqt.symm, upd_same]
    have e3 : H4 mq = some (.dK []) := by rw [← hH4, upd_ne nqd, upd_same]
    clear hH4
    walk_at "w"
    intro tp htp
    have s5 : Same H4 (upd H4 tp (.tup [V.int z, V.int r, V.ref md])) := Same.new H4 htp
    refine k tp md mt mq z r _ (fun _ _ => []) (fun _ => ⟨0, [], fun _ => 0⟩) hz1 hz2 hr1 hr2 ((s03.trans s4).trans s5) upd_same ⟨⟨_, s5 _ _ e1, rfl, rfl, rfl⟩, .inl (s5 _ _ e2), s5 _ _ e3, fun h hh => (nomatch hh), fun h hh => (nomatch hh), fun h hh => (nomatch hh), fun h hh => (nomatch hh), fun h hh => (nomatch hh), fun h hh => (nomatch hh), ⟨nmt, nqt.symm, nqd.symm⟩, List.nodup_nil, by decide, fun h hh => (nomatch hh), by omega⟩ (s5 _ _ e2) (s03.free hmd) (s03.free hmt3) (s03.free hmq3)
end
local macro_rules | `(tactic| walk_at "fld") => `(tactic| first | exact bF_room _ _ | exact bF_order _ _ | exact bF_full _ _ | exact bF_hears _ _ | exact bF_drops _ _ | exact bF_names _ _ | exact flat_ints _)
local macro_rules | `(tactic| walk_at "fld") => `(tactic| first | exact tF_own _ _ _ _ | exact tF_wide _ _ _ _ | exact tF_room _ _ _ _ | exact tF_buckets _ _ _ _ | exact tF_n1 _ _ _ _ | exact tF_n2 _ _ _ _ | exact tF_n3 _ _ _ _ | exact tF_n4 _ _ _ _ | exact tF_n5 _ _ _ _ | exact tF_n6 _ _ _ _)
local macro_rules | `(tactic| walk_at "fld") => `(tactic| first | exact wF_wide _ _ _ _ | exact wF_room _ _ _ _ | exact wF_tables _ _ _ _ | exact wF_silent _ _ _ _ | exact wF_m _ (by decide +kernel) _ _ _ _ | exact DGet.k (k := Sum.inl _) (by walk_at "hp"))
theorem NOk.pool {pool pool' : List Int} {z : Nat} {r : Int} {hs : List Int} {N : Int → Nat → List Int} (O : NOk pool z r hs N) (h : ∀ x ∈ pool, x ∈ pool') : NOk pool' z r hs N := ⟨O.nd, O.le, fun g hg k m hm => ⟨h m (O.st g hg k m hm).1, (O.st g hg k m hm).2⟩⟩
theorem vis_eq {E : Int → Int → Prop} {d i : Int} {k1 k2 : List Int} (a1 : k1.Nodup) (a2 : ∀ x, x ∈ k1 ↔ Rch E d x) (b1 : k2.Nodup) (b2 : ∀ x, x ∈ k2 ↔ Rch E d x) : visL i k1 = visL i k2 := by
  unfold visL
  rw [sortI_eq (perm_of a1 b1 fun x => (a2 x).trans (b2 x).symm)]
theorem vis_ok {z : Nat} {hs sil : List Int} {N : Int → Nat → List Int} {d i : Int} {ks : List Int} (hm : ∀ x, x ∈ ks ↔ Rch (edge z (awB hs sil) N) d x) (hd : d ∈ hs) : ∀ x ∈ visL i ks, x ∈ hs ∧ x ≠ i := fun x hx => by
  have a := visL_mem hx
  refine ⟨?_, a.2⟩
  have b := (hm x).mp a.1
  cases b with
  | own => exact hd
  | go _ e =>
    have e2 := e.2
    unfold awB at e2
    simp only [Bool.and_eq_true, decide_eq_true_eq] at e2
    exact e2.1
section
variable {CB CT CW : Addr} {H H5 H6 : Hp} {w td sd : Addr} {z r : Int} {hs hs' sil pool : List Int} {T T6 : Int → TRec} {md mt mq : Addr} {M M5 : Int → MRec}
theorem Both.notFoot (X : Both CB CT CW H w td sd z r hs sil pool T md mt mq M) {q : Addr} (h : Own td sd z.toNat hs T q) : ¬ MFoot md mt mq hs M q := fun y => X.S q y h
theorem Both.mdl (X : Both CB CT CW H w td sd z r hs sil pool T md mt mq M) (d : MDeed H H5 (MFoot md mt mq hs M) (MFoot md mt mq hs' M5)) : TownAt CB CT CW H5 w td sd z r hs sil T ∧ ∀ q, MFoot md mt mq hs' M5 q → ¬ Own td sd z.toNat hs T q := by
  refine ⟨X.W.keepM d.k (fun o e => d.n _ _ e (X.notFoot (.inl rfl))) (fun o e => d.n _ _ e (X.notFoot (.inr (.inl rfl)))), fun q hq ho => ?_⟩
  rcases d.o q hq with y | y
  · exact X.S q y ho
  · exact X.W.notOwn y ho
theorem Both.lay (X : Both CB CT CW H w td sd z r hs sil pool T md mt mq M) {l : Addr} {xs ys : List V} (hl : H l = some (.lst xs)) (hn : ¬ Own td sd z.toNat hs T l) (hf : ¬ MFoot md mt mq hs M l) : Both CB CT CW (upd H l (.lst ys)) w td sd z r hs sil pool T md mt mq M :=
  ⟨X.W.lay hl hn, X.A, X.B.keep fun q hF o _ e => by rw [upd_ne (fun (y : q = l) => hf (by rw [← y]; exact hF))]; exact e, by rw [upd_ne (fun (y : mt = l) => hf (by rw [← y]; exact .inr (.inl rfl)))]; exact X.m, X.O, X.p, X.q, X.S⟩
end
section
variable {P : Program} {w : World} {K : PySem.W.Frag} {mg : Str → Option Value} {base : Heap}
theorem sc_lreached : FnScope ["_law_model", "_law_house", "_law_found", "_law_waiting", "_law_other"] ["_law_model", "_law_house"] (defScope (top 34)) := ⟨rfl, rfl, rfl, by decide +kernel, rfl, by decide +kernel, by decide +kernel⟩
theorem ok_lreached (T : Txt mg) (D__law_awake : Df K mg "_law_awake" (top 24) ["_law_model", "_law_name_here"]) (D__law_keeps : Df K mg "_law_keeps" (top 26) ["_law_model", "_law_house"]) (D : Df K mg "_law_reached" (top 34) ["_law_model", "_law_house"]) : FnOk P w K mg base CX0 2 D.f D.fd ["_law_model", "_law_house"] spMComeTo := by
  have G__law_awake : FnOk P w K mg base CX0 1 _ _ _ _ := ok_lawake D__law_awake
  have G__law_keeps : FnOk P w K mg base CX0 1 _ _ _ _ := ok_lkeeps T D__law_keeps
  refine D.fn.ok sc_lreached (fun vs H Q E h => ?_) (fun cdv A outer s H vs Q E hr h => ?_)
  · obtain ⟨md, mt, mq, r, z, hs, sil, pool, N, M, d, rfl, _⟩ := h
    rfl
  · obtain ⟨md, mt, mq, r, z, hs, sil, pool, N, M, i, rfl, W, hmt, O, hpl, hi, k⟩ := h
    have hln := W.ln
    generalize hE : edge z (awB hs sil) N = E at k
    have inHs : ∀ x, Rch E i x → x ∈ hs := fun x hx => by
      subst hE
      cases hx with
      | own => exact hi
      | go _ e =>
        have e2 := e.2
        unfold awB at e2
        simp only [Bool.and_eq_true, decide_eq_true_eq] at e2
        exact e2.1
    have cntK : ∀ {ks ws : List Int}, CT E i ks ws → ks.length ≤ hs.length := fun c => len_of_sub c.nd fun x hx => inHs x (c.re x hx)
    refine ⟨_, (pss_cons (ps_set (i := 2) sc_lreached.nd rfl (Or.inl rfl) (pe_disp (pps_cons (pv 1) pe_bl pps_nil) rfl rfl (fun z => nomatch z) (Nat.le_of_ble_eq_true rfl)))
      (pss_cons (ps_set (i := 3) sc_lreached.nd rfl (Or.inl rfl) (pe_lst (pa_cons (pv 1) pa_nil)))
      (pss_cons (ps_while PassesOwn.never (pt_cmpR (op_neL hr.units) (pv 3) (pe_lst pa_nil) (nomark _))
       (pss_one (ps_for PassesOwn.never rfl (pi_list (pe_call G__law_keeps (hr.mono (by decide)) rfl D__law_keeps.hm D__law_keeps.fn.kp D__law_keeps.b .nil pass0 (pa_cons (pv 0) (pa_cons (pe_bm0 PySem.F.plainAttrs_list PySem.F.slot_list_pop PySem.F.type_list_pop mt_pop (pv 3)) pa_nil)))) (pg_name (i := 4) sc_lreached.nd rfl (Or.inl rfl))
         (pss_one (ps_if (PW.pt (pw_and (pt_val (pe_call G__law_awake (hr.mono (by decide)) rfl D__law_awake.hm D__law_awake.fn.kp D__law_awake.b .nil pass0 (pa_cons (pv 0) (pa_cons (pv 4) pa_nil)))) (pw_and1 (pt_cmp (pc_dnotin (hu_of hr) (pv 4) (pv 2))))))
           (pss_cons (ps_dput (hu_of hr) (pv 2) (pv 4) pe_bl rfl)
            (pss_one (ps_expr (pe_bm PySem.F.plainAttrs_list PySem.F.slot_list_append PySem.F.type_list_append mt_append (pv 3) (pa_cons (pv 4) pa_nil)))))
           pss_nil)))))
      (pss_one (ps_ret (pe_callB (call_sortedD rfl) rfl T.n_sorted bt_sorted (pa_cons (pv 2) pa_nil))))))), ?_⟩
    walk_at "w"
    intro rc hrc
    refine ⟨_, rfl, ?_⟩
    refine ⟨upd_same, [(Sum.inl i, V.bl true)], rfl, (show 1 ≤ 15 by decide), ?_⟩
    have s1 : Same H (upd (upd H rc (.dK [])) rc (.dK (mergeK [] [(Sum.inl i, V.bl true)]))) := ((Same.refl H).lay hrc).put hrc
    have hrc1 : upd (upd H rc (.dK [])) rc (.dK (mergeK [] [(Sum.inl i, V.bl true)])) rc = some (.dK (silD [i])) := upd_same
    generalize upd (upd H rc (.dK [])) rc (.dK (mergeK [] [(Sum.inl i, V.bl true)])) = H1 at s1 hrc1 ⊢
    walk_at "w"
    intro wt hwt
    have s2 : Same H (upd H1 wt (.lst [V.int i])) := s1.put (s1.free hwt)
    have hwt2 : upd H1 wt (.lst [V.int i]) wt = some (.lst [V.int i]) := upd_same
    have hrc2 : upd H1 wt (.lst [V.int i]) rc = some (.dK (silD [i])) := by rw [upd_ne (ne_of_none hrc1 hwt)]; exact hrc1
    have hwt0 : H wt = none := s1.free hwt
    generalize upd H1 wt (.lst [V.int i]) = H2 at s2 hwt2 hrc2 ⊢
    have c0 : CT E i [i] [i] := ⟨by simp, List.mem_singleton.mpr rfl, fun x hx => List.mem_singleton.mp hx ▸ Rch.own, fun x hx => hx⟩
    walk_at "w"
    refine ⟨fun m σ H3 => Hold (∃ (v4 : Option V) (ks ws : List Int), σ = [some (.ref md), some (.int i), some (.ref rc), some (.ref wt), v4] ∧ Same H H3 ∧ H3 rc = some (.dK (silD ks)) ∧ H3 wt = some (.lst (ws.map V.int)) ∧ CT E i ks ws ∧ (∀ a ∈ ks, a ∉ ws → ∀ b, E a b → b ∈ ks) ∧ m = 2 * (hs.length - ks.length) + ws.length ∧ ws.length ≤ 2 * ks.length), ⟨_, ⟨none, [i], [i], rfl, s2, hrc2, hwt2, c0, fun a ha hn => absurd ha hn, rfl, by simp⟩⟩, ?_⟩
    rintro m σ H3 ⟨v4, ks, ws, rfl, s3, hrc3, hwt3, c3, cl3, hm, hwl⟩
    have hkl := cntK c3
    walk_at "w"
    intro e0 he0
    have s3e : Same H3 (upd H3 e0 (.lst [])) := Same.new H3 he0
    have he01 : upd H3 e0 (.lst []) e0 = some (.lst (([] : List Int).map V.int)) := upd_same
    have hrc3 := s3e _ _ hrc3
    have hwt3 := s3e _ _ hwt3
    have s3 := s3.trans s3e
    generalize upd H3 e0 (.lst []) = H3 at s3 he01 hrc3 hwt3 ⊢
    walk_at "w"
    rcases snoc_cases ws with rfl | ⟨ws', a, rfl⟩
    · change if (!decide (([] : List Int) = [])) = true then _ else _
      rw [decide_eq_true rfl]
      have hkeys : List.map (fun x : Key × V => x.fst) (silD ks) = List.map Sum.inl ks := by
        unfold silD
        rw [List.map_map]
        rfl
      have h64 : ks.length < 64 := by omega
      walk_at "w"
      intro l hl
      refine k l ks _ (s3.put (s3.free hl)) (s3.free hl) upd_same c3.nd fun x => ⟨c3.re x, fun h => Rch.of_closed c3.dm (fun a ha b e => cl3 a ha (fun z => nomatch z) b e) h⟩
    · change if (!decide ((ws' ++ [a]) = ([] : List Int))) = true then _ else _
      rw [decide_eq_false (by simp)]
      have ha : a ∈ ks := c3.ws a (List.mem_append_right _ (List.mem_singleton.mpr rfl))
      have hah := inHs a (c3.re a ha)
      have s4 : Same H (upd H3 wt (.lst (((ws' ++ [a]).map V.int).dropLast))) := s3.put hwt0
      have hrc4 : upd H3 wt (.lst (((ws' ++ [a]).map V.int).dropLast)) rc = some (.dK (silD ks)) := by rw [upd_ne (ne_of hrc3 hwt3 (by intro z; cases z))]; exact hrc3
      have hwt4 : upd H3 wt (.lst (((ws' ++ [a]).map V.int).dropLast)) wt = some (.lst (ws'.map V.int)) := by rw [upd_same, drop_snoc]
      have hlast : ((ws' ++ [a]).map V.int)[((ws' ++ [a]).map V.int).length - 1]? = some (V.int a) := by rw [snoc_map]; simp
      have W4 := W.same s4
      walk_at "w"
      refine ⟨fun σ' H' => Hold (∃ (v4 : Option V) (ks ws : List Int), σ' = [some (.ref md), some (.int i), some (.ref rc), some (.ref wt), v4] ∧ Same H H' ∧ H' rc = some (.dK (silD ks)) ∧ H' wt = some (.lst (ws.map V.int)) ∧ CT E i ks ws ∧ (∀ a ∈ ks, a ∉ ws → ∀ b, E a b → b ∈ ks) ∧ 2 * (hs.length - ks.length) + ws.length < m ∧ ws.length ≤ 2 * ks.length), fun σ' H' ⟨v4, ks, ws, e, a, b, c, d, f, g, h⟩ => ⟨_, g, ⟨v4, ks, ws, e, a, b, c, d, f, rfl, h⟩⟩, ?_⟩
      walk_at "w"
      intro kl H5 s5 hkl0 hkl5
      have nkw : kl ≠ wt := fun e => by rw [e, upd_same] at hkl0; cases hkl0
      have nkr : kl ≠ rc := (ne_of_none hrc4 hkl0).symm
      have hrc5 := s5 _ _ hrc4
      have hwt5 := s5 _ _ hwt4
      walk_at "w"
      refine for_list (K := K) (a := kl) (xs := (sortI (catN (N a) z)).map V.int) (fun j σ H6 => Hold (∃ (v4 : Option V) (ks6 ws6 : List Int), σ = [some (.ref md), some (.int i), some (.ref rc), some (.ref wt), v4] ∧ Same H H6 ∧ H6 kl = some (.lst ((sortI (catN (N a) z)).map V.int)) ∧ H6 rc = some (.dK (silD ks6)) ∧ H6 wt = some (.lst (ws6.map V.int)) ∧ CT E i ks6 ws6 ∧ a ∈ ks6 ∧
          (∀ g ∈ ks6, g ∉ ws6 → g = a ∨ ∀ b, E g b → b ∈ ks6) ∧ (∀ x ∈ (sortI (catN (N a) z)).take j, awB hs sil x = true → x ∈ ks6) ∧ 2 * (hs.length - ks6.length) + ws6.length < m ∧ ws6.length ≤ 2 * ks6.length)) ?_ (fun j σ H6 _ ⟨_, _, _, _, _, e, _⟩ => SqL.of e) ?_ ?_
      · refine ⟨⟨_, ks, ws', rfl, s4.trans s5, hkl5, hrc5, hwt5, ⟨c3.nd, c3.dm, c3.re, fun x hx => c3.ws x (List.mem_append_left _ hx)⟩, ha, fun g hg hn => ?_, fun x hx => absurd hx (by simp), ?_, ?_⟩⟩
        · by_cases e : g = a
          · exact .inl e
          · exact .inr fun b => cl3 g hg (fun y => by
              rcases List.mem_append.mp y with y | y
              · exact hn y
              · exact e (List.mem_singleton.mp y)) b
        · rw [hm, List.length_append, List.length_singleton]
          omega
        · rw [List.length_append, List.length_singleton] at hwl
          omega
      · rintro j y σ H6 hj ⟨v4, ks6, ws6, rfl, s6, hkl6, hrc6, hwt6, c6, ha6, cl6, dn6, hm6, hwl6⟩
        obtain ⟨x, hx, rfl⟩ : ∃ x, (sortI (catN (N a) z))[j]? = some x ∧ y = V.int x := by
          rw [List.getElem?_map] at hj
          cases e : (sortI (catN (N a) z))[j]? with
          | none => rw [e] at hj; cases hj
          | some x => rw [e] at hj; exact ⟨x, rfl, (Option.some.inj hj).symm⟩
        have hxm : x ∈ catN (N a) z := (sortI_perm _).subset (List.mem_of_getElem? hx)
        have htk : (sortI (catN (N a) z)).take (j + 1) = (sortI (catN (N a) z)).take j ++ [x] := take_snoc hx
        have W6 := W.same s6
        have hkl6' := cntK c6
        have hvs := valV_sil (sil := ks6) (i := x)
        walk_at "w"
        cases hax : awB hs sil x with
        | false =>
          walk_at "w"
          refine ⟨⟨_, ks6, ws6, rfl, s6, hkl6, hrc6, hwt6, c6, ha6, cl6, fun y hy hay => ?_, hm6, hwl6⟩⟩
          rw [htk] at hy
          rcases List.mem_append.mp hy with hy | hy
          · exact dn6 y hy hay
          · rw [List.mem_singleton.mp hy, hax] at hay
            cases hay
        | true =>
          walk_at "w"
          rw [hvs]
          by_cases hxk : x ∈ ks6
          · rw [decide_eq_true hxk]
            walk_at "w"
            refine ⟨⟨_, ks6, ws6, rfl, s6, hkl6, hrc6, hwt6, c6, ha6, cl6, fun y hy hay => ?_, hm6, hwl6⟩⟩
            rw [htk] at hy
            rcases List.mem_append.mp hy with hy | hy
            · exact dn6 y hy hay
            · exact List.mem_singleton.mp hy ▸ hxk
          · rw [decide_eq_false hxk]
            have hszd : (silD ks6).length < sizeLine := by
              unfold silD
              rw [List.length_map]
              exact small1000 (by omega)
            have hput : DPut H6 rc (V.int x) (V.bl true) (upd H6 rc (.dK (putK (silD ks6) (Sum.inl x) (V.bl true)))) := DPut.k (k := Sum.inl x) hrc6 hszd
            have nrw : wt ≠ rc := ne_of hwt6 hrc6 (by intro z; cases z)
            have hwt7 : upd H6 rc (.dK (putK (silD ks6) (Sum.inl x) (V.bl true))) wt = some (.lst (ws6.map V.int)) := by rw [upd_ne nrw]; exact hwt6
            have hszw : (ws6.map V.int).length < sizeLine := by
              rw [List.length_map]
              exact small1000 (by omega)
            walk_at "w"
            have hRx : Rch E i x := by
              subst hE
              exact .go (c6.re a ha6) ⟨hxm, hax⟩
            refine ⟨⟨_, ks6 ++ [x], ws6 ++ [x], rfl, (s6.put hrc).put hwt0, ?_, ?_, ?_, ⟨snoc_nodup c6.nd hxk, List.mem_append_left _ c6.dm, fun y hy => ?_, fun y hy => ?_⟩, List.mem_append_left _ ha6, fun g hg hn => ?_, fun y hy hay => ?_, ?_, ?_⟩⟩
            · rw [upd_ne nkw, upd_ne nkr]
              exact hkl6
            · rw [upd_ne nrw.symm, upd_same, silD_put hxk]
            · rw [upd_same, snoc_map]
            · rcases List.mem_append.mp hy with y1 | y1
              · exact c6.re y y1
              · exact List.mem_singleton.mp y1 ▸ hRx
            · rcases List.mem_append.mp hy with y1 | y1
              · exact List.mem_append_left _ (c6.ws y y1)
              · exact List.mem_append_right _ y1
            · rcases List.mem_append.mp hg with y1 | y1
              · rcases cl6 g y1 (fun z => hn (List.mem_append_left _ z)) with e | e
                · exact .inl e
                · exact .inr fun b hb => List.mem_append_left _ (e b hb)
              · exact absurd (List.mem_append_right _ y1) hn
            · rw [htk] at hy
              rcases List.mem_append.mp hy with hy | hy
              · exact List.mem_append_left _ (dn6 y hy hay)
              · exact List.mem_append_right _ hy
            · have := len_of_sub (snoc_nodup c6.nd hxk) (b := hs) fun y hy => (List.mem_append.mp hy).elim (fun z => inHs y (c6.re y z)) fun z => inHs y (List.mem_singleton.mp z ▸ hRx)
              rw [List.length_append, List.length_singleton] at this ⊢
              rw [List.length_append, List.length_singleton]
              omega
            · rw [List.length_append, List.length_singleton, List.length_append, List.length_singleton]
              omega
      · rintro σ H6 ⟨v4, ks6, ws6, rfl, s6, hkl6, hrc6, hwt6, c6, ha6, cl6, dn6, hm6, hwl6⟩
        refine ⟨⟨_, ks6, ws6, rfl, s6, hrc6, hwt6, c6, fun g hg hn b hb => ?_, hm6, hwl6⟩⟩
        rcases cl6 g hg hn with rfl | e
        · subst hE
          refine dn6 b ?_ hb.2
          rw [List.take_of_length_le (by rw [List.length_map]; exact Nat.le_refl _)]
          exact (sortI_perm _).symm.subset hb.1
        · exact e b hb
def spRight (CB CT CW : Addr) : Sp := fun vs H Q _ => ∃ (w td sd : Addr) (z r : Int) (hs sil pool : List Int) (T : Int → TRec) (md mt mq : Addr) (M : Int → MRec), vs = [.ref w, .ref md] ∧ Both CB CT CW H w td sd z r hs sil pool T md mt mq M ∧ ∀ H', Same H H' → Q (.bl true) H'
theorem sc_lright : FnScope ["_law_town", "_law_model", "_law_house", "_law_found"] ["_law_town", "_law_model"] (defScope (top 35)) := ⟨rfl, rfl, rfl, by decide +kernel, rfl, by decide +kernel, by decide +kernel⟩
theorem ok_lright (T : Txt mg) (D_NoHouse : DfE K mg "NoHouse") (D_Silent : DfE K mg "Silent") (D_is_whole : Df K mg "is_whole" (top 9) ["thing"]) (D_is_name : Df K mg "is_name" (top 10) ["thing", "wide"]) (D_Bucket : DfC K mg "Bucket" ["room", "order"]) (D_Bucket_names : DfM K D_Bucket.C "names" "Bucket.names" (inClass (top 14) 4) ["self"]) (D_Table : DfC K mg "Table" ["own", "wide", "room", "buckets"]) (D_Table_bucket : DfM K D_Table.C "bucket" "Table.bucket" (inClass (top 16) 4) ["self", "k"]) (D_Table_keeps : DfM K D_Table.C "keeps" "Table.keeps" (inClass (top 16) 5) ["self"])
    (D_Town : DfC K mg "Town" ["wide", "room", "tables", "silent"]) (D_Town_is_house : DfM K D_Town.C "is_house" "Town.is_house" (inClass (top 19) 4) ["self", "thing"]) (D_Town_answers : DfM K D_Town.C "answers" "Town.answers" (inClass (top 19) 3) ["self", "name"]) (D_Town_check_house : DfM K D_Town.C "check_house" "Town.check_house" (inClass (top 19) 16) ["self", "thing"]) (D_Town_check_answering : DfM K D_Town.C "check_answering" "Town.check_answering" (inClass (top 19) 17) ["self", "thing"]) (D_Town_houses : DfM K D_Town.C "houses" "Town.houses" (inClass (top 19) 1) ["self"]) (D_Town_answering : DfM K D_Town.C "answering" "Town.answering" (inClass (top 19) 2) ["self"]) (D_Town_bucket : DfM K D_Town.C "bucket" "Town.bucket" (inClass (top 19) 5) ["self", "house", "k"]) (D_Town_keeps : DfM K D_Town.C "keeps" "Town.keeps" (inClass (top 19) 6) ["self", "house"]) (D_Town_come_to : DfM K D_Town.C "come_to" "Town.come_to" (inClass (top 19) 8) ["self", "house"]) (D__law_awake : Df K mg "_law_awake" (top 24) ["_law_model", "_law_name_here"]) (D__law_keeps : Df K mg "_law_keeps" (top 26) ["_law_model", "_law_house"]) (D__law_alike : Df K mg "_law_alike" (top 30) ["_law_town", "_law_model"]) (D__law_reached : Df K mg "_law_reached" (top 34) ["_law_model", "_law_house"]) (D : Df K mg "_law_right" (top 35) ["_law_town", "_law_model"]) : FnOk P w K mg base CX0 7 D.f D.fd ["_law_town", "_law_model"] (spRight D_Bucket.C D_Table.C D_Town.C) := by
  have hcl := D_Town.cl
  have G_Town_come_to : FnOk P w K mg base CX0 6 _ _ _ _ := ok_Town_come_to T D_NoHouse D_Silent D_is_whole D_is_name D_Bucket D_Bucket_names D_Table D_Table_keeps D_Town D_Town_is_house D_Town_answers D_Town_check_house D_Town_check_answering D_Town_come_to
  have G__law_reached : FnOk P w K mg base CX0 2 _ _ _ _ := ok_lreached T D__law_awake D__law_keeps D__law_reached
  have G__law_alike : FnOk P w K mg base CX0 6 _ _ _ _ := ok_lalike T D_NoHouse D_is_whole D_is_name D_Bucket D_Bucket_names D_Table D_Table_bucket D_Table_keeps D_Town D_Town_is_house D_Town_answers D_Town_check_house D_Town_houses D_Town_answering D_Town_bucket D_Town_keeps D__law_keeps D__law_alike
  refine D.fn.ok sc_lright (fun vs H Q E h => ?_) (fun cdv A outer s H vs Q E hr h => ?_)
  · obtain ⟨w, td, sd, z, r, hs, sil, pool, TT, md, mt, mq, M, rfl, _⟩ := h
    rfl
  · obtain ⟨w, td, sd, z, r, hs, sil, pool, TT, md, mt, mq, M, rfl, X, k⟩ := h
    have hln := X.B.ln
    have gT := X.B.gT
    have hmt := X.m
    have hkeys := mt_keys (hs := hs) (M := M)
    have h64 : hs.length < 64 := by omega
    have hc64 : ∀ g ∈ hs, (catN (TT g).ns z.toNat).length < 64 := fun g hg => Nat.lt_of_le_of_lt (X.O.len hg z.toNat) X.p
    refine ⟨_, (pss_cons (ps_for PassesOwn.never rfl (pi_list (pe_callB (call_sortedD rfl) rfl T.n_sorted bt_sorted (pa_cons (pe_dget (hu_of hr) (pv 1) pe_str (fun _ _ => rfl)) pa_nil))) (pg_name (i := 2) sc_lright.nd rfl (Or.inl rfl))
       (pss_one (ps_if (pt_cmp (pc_dnotin (hu_of hr) (pv 2) (pe_dget (hu_of hr) (pv 1) pe_str (fun _ _ => rfl))))
         (pss_cons (ps_set (i := 3) sc_lright.nd rfl (Or.inl rfl) (pe_meth (pv 0) D_Town.cl D_Town_come_to.me G_Town_come_to (hr.mono (by decide)) D_Town_come_to.b .nil pass0 (pa_cons (pv 2) pa_nil)))
          (pss_cons (ps_if (PW.pt (pw_or (pt_not (pt_val (pe_callB call_isi rfl T.n_isinstance bt_isinstance (pa_cons (pv 3) (pa_cons (pe_ty rfl T.n_list bt_list) pa_nil))))) (pw_or1 (pt_cmpR (op_neL hr.units) (pv 3) (pe_call G__law_reached (hr.mono (by decide)) rfl D__law_reached.hm D__law_reached.fn.kp D__law_reached.b .nil pass0 (pa_cons (pv 1) (pa_cons (pv 2) pa_nil))) (nomark _)))))
           (pss_one (ps_ret pe_bl))
           pss_nil)
          (pss_cons (ps_expr (pe_bm0 PySem.F.plainAttrs_list PySem.F.slot_list_clear PySem.F.type_list_clear mt_clear (pv 3)))
          (pss_one (ps_if (pt_cmpR (op_neL hr.units) (pe_meth (pv 0) D_Town.cl D_Town_come_to.me G_Town_come_to (hr.mono (by decide)) D_Town_come_to.b .nil pass0 (pa_cons (pv 2) pa_nil)) (pe_call G__law_reached (hr.mono (by decide)) rfl D__law_reached.hm D__law_reached.fn.kp D__law_reached.b .nil pass0 (pa_cons (pv 1) (pa_cons (pv 2) pa_nil))) (nomark _))
           (pss_one (ps_ret pe_bl))
           pss_nil)))))
         pss_nil)))
      (pss_one (ps_ret (pe_call G__law_alike (hr.mono (by decide)) rfl D__law_alike.hm D__law_alike.fn.kp D__law_alike.b .nil pass0 (pa_cons (pv 0) (pa_cons (pv 1) pa_nil)))))), ?_⟩
    walk_at "w"
    intro l1 hl1
    have s1 : Same H (upd H l1 (.lst ((sortI hs).map V.int))) := Same.new H hl1
    have hl11 : upd H l1 (.lst ((sortI hs).map V.int)) l1 = some (.lst ((sortI hs).map V.int)) := upd_same
    generalize upd H l1 (.lst ((sortI hs).map V.int)) = H1 at s1 hl11 ⊢
    walk_at "w"
    refine for_list (K := K) (a := l1) (xs := (sortI hs).map V.int) (fun j σ H2 => Hold (∃ (v2 v3 : Option V), σ = [some (.ref w), some (.ref md), v2, v3] ∧ Same H H2 ∧ H2 l1 = some (.lst ((sortI hs).map V.int)))) ⟨⟨_, _, rfl, s1, hl11⟩⟩ (fun j σ H2 _ ⟨_, _, _, _, e⟩ => SqL.of e) ?_ ?_
    · rintro j y σ H2 hj ⟨v2, v3, rfl, s2, hl12⟩
      obtain ⟨x, hx, rfl⟩ := int_of_get hj
      have hxh : x ∈ hs := (sortI_perm _).subset hx
      have X2 := X.same s2
      have gQ2 := X2.B.gQ
      have hq2 := X2.B.q
      have hv := valV_sil (sil := sil) (i := x)
      walk_at "w"
      rw [hv]
      by_cases hxs : x ∈ sil
      · rw [decide_eq_true hxs]
        walk_at "w"
        exact ⟨⟨_, _, rfl, s2, hl12⟩⟩
      · rw [decide_eq_false hxs]
        have hW2 := X2.W
        obtain ⟨⟨dx2, hob2⟩, -⟩ := id X2.W
        walk_at "w"
        intro l3 ks3 H3 s3 hl3 hl33 nd3 mem3
        have X3 := X2.same s3
        have B3 := X3.B
        have hmt3 := X3.m
        have hO := X.O
        have hp64 := X.p
        walk_at "w"
        intro l4 ks4 H4 s4 hl4 hl44 nd4 mem4
        have e34 : sortI ks3 = sortI ks4 := sortI_eq (perm_of nd3 nd4 fun x => (mem3 x).trans (mem4 x).symm)
        have hl34 := s4 _ _ hl33
        rw [e34] at hl34
        refine ne_of_eqL _ hl34 hl44 ?_
        have n3 : l1 ≠ l3 := ne_of_none hl12 hl3
        have s5 : Same H2 (upd H4 l3 (.lst [])) := (s3.trans s4).put hl3
        have X5 := X2.same s5
        have hW5 := X5.W
        obtain ⟨⟨dx5, hob5⟩, -⟩ := id X5.W
        walk_at "w"
        intro l6 ks6 H6 s6 hl6 hl66 nd6 mem6
        have X6 := X5.same s6
        have B6 := X6.B
        have hmt6 := X6.m
        walk_at "w"
        intro l7 ks7 H7 s7 hl7 hl77 nd7 mem7
        have e67 : sortI ks6 = sortI ks7 := sortI_eq (perm_of nd6 nd7 fun x => (mem6 x).trans (mem7 x).symm)
        have hl67 := s7 _ _ hl66
        rw [e67] at hl67
        refine ne_of_eqL _ hl67 hl77 ?_
        walk_at "w"
        have s27 := (s5.trans s6).trans s7
        exact ⟨⟨_, _, rfl, s2.trans s27, s27 _ _ hl12⟩⟩
    · rintro σ H2 ⟨v2, v3, rfl, s2, hl12⟩
      have X2 := X.same s2
      walk_at "w"
      intro H3 s3
      exact k H3 (s2.trans s3)
end
local macro_rules | `(tactic| walk_at "fld") => `(tactic| first | exact bF_room _ _ | exact bF_order _ _ | exact bF_full _ _ | exact bF_hears _ _ | exact bF_drops _ _ | exact bF_names _ _ | exact flat_ints _)
local macro_rules | `(tactic| walk_at "fld") => `(tactic| first | exact tF_own _ _ _ _ | exact tF_wide _ _ _ _ | exact tF_room _ _ _ _ | exact tF_buckets _ _ _ _ | exact tF_n1 _ _ _ _ | exact tF_n2 _ _ _ _ | exact tF_n3 _ _ _ _ | exact tF_n4 _ _ _ _ | exact tF_n5 _ _ _ _ | exact tF_n6 _ _ _ _)
local macro_rules | `(tactic| walk_at "fld") => `(tactic| first | exact wF_wide _ _ _ _ | exact wF_room _ _ _ _ | exact wF_tables _ _ _ _ | exact wF_silent _ _ _ _ | exact wF_m _ (by decide +kernel) _ _ _ _ | exact DGet.k (k := Sum.inl _) (by walk_at "hp"))
def KeepL (H H' : Hp) (O O' : Addr → Prop) : Prop := ∀ q xs, H q = some (.lst xs) → ¬ O q → H' q = some (.lst xs) ∧ ¬ O' q
theorem KeepL.trans {H H1 H2 : Hp} {O O1 O2 : Addr → Prop} (a : KeepL H H1 O O1) (b : KeepL H1 H2 O1 O2) : KeepL H H2 O O2 := fun q xs e hn => by
  obtain ⟨e1, n1⟩ := a q xs e hn
  exact b q xs e1 n1
theorem KeepL.same {H H' : Hp} {O : Addr → Prop} (s : Same H H') : KeepL H H' O O := fun q xs e hn => ⟨s _ _ e, hn⟩
theorem KeepL.deed {H H' : Hp} {O O' : Addr → Prop} (d : Deed H H' O O') : KeepL H H' O O' := fun q xs e hn => ⟨d.k _ _ (fun _ z => nomatch z) e hn, fun y => by
  rcases d.o q y with y | y
  · exact hn y
  · rw [e] at y
    cases y⟩
theorem KeepL.mdl {H H' : Hp} {O F F' : Addr → Prop} (d : MDeed H H' F F') : KeepL H H' O O := fun q xs e hn => ⟨d.k _ _ e (fun _ z => nomatch z), hn⟩
theorem town_step {H H' : Hp} {md mt mq : Addr} {r : Int} {z : Nat} {hs sil : List Int} {N : Int → Nat → List Int} {M : Int → MRec} {O O' : Addr → Prop} (B : MdlAt H md mt mq r z hs sil N M) (hmt : H mt = some (.dK (mtD hs M))) (S : ∀ q, MFoot md mt mq hs M q → ¬ O q) (d : Deed H H' O O') :
    MdlAt H' md mt mq r z hs sil N M ∧ H' mt = some (.dK (mtD hs M)) ∧ ∀ q, MFoot md mt mq hs M q → ¬ O' q := by
  refine ⟨B.keep fun q hF o ho e => d.k q o ho e (S q hF), d.k _ _ (fun _ z => nomatch z) hmt (S _ (.inr (.inl rfl))), fun q hF ho => ?_⟩
  rcases d.o q ho with y | y
  · exact S q hF y
  · obtain ⟨o, e⟩ := B.ex hF
    rw [y] at e
    cases e
theorem mdl_step {CB CT CW w td sd : Addr} {H H' : Hp} {z r : Int} {hs sil : List Int} {T : Int → TRec} {F F' : Addr → Prop} (W : TownAt CB CT CW H w td sd z r hs sil T) (S : ∀ q, F q → ¬ Own td sd z.toNat hs T q) (d : MDeed H H' F F') :
    TownAt CB CT CW H' w td sd z r hs sil T ∧ ∀ q, F' q → ¬ Own td sd z.toNat hs T q := by
  refine ⟨W.keepM d.k (fun o e => d.n _ _ e fun y => S _ y (.inl rfl)) (fun o e => d.n _ _ e fun y => S _ y (.inr (.inl rfl))), fun q hq ho => ?_⟩
  rcases d.o q hq with y | y
  · exact S q y ho
  · exact W.notOwn y ho
theorem Tab.mdl {H H' : Hp} {F F' : Addr → Prop} {T1 : Addr} {po : Pos} {qu : Str} (t : Tab H T1 po qu) (d : MDeed H H' F F') : Tab H' T1 po qu := Tab.hold t fun q o ho e => d.k q o e fun dd y => by
  subst y
  rcases ho with ⟨x, kk, e2⟩ | e2
  · cases e2
  · obtain ⟨ps, hP, _⟩ := t
    rw [← e2, e] at hP
    cases hP
section
variable {H H' : Hp} {md mt mq : Addr} {r : Int} {z : Nat} {hs sil : List Int} {N : Int → Nat → List Int} {M : Int → MRec}
theorem MdlAt.dicts (W : MdlAt H md mt mq r z hs sil N M) {hs' sil' : List Int} (k : ∀ q o, H q = some o → q ≠ mt → q ≠ mq → H' q = some o) (e1 : H' mt = some (.dK (mtD hs' M))) (e2 : H' mq = some (.dK (silD sil'))) (hn : hs'.Nodup) (hm : ∀ x ∈ hs', x ∈ hs) (hl : hs'.length ≤ 60) : MdlAt H' md mt mq r z hs' sil' N M := by
  obtain ⟨kv, e, a, b, c⟩ := W.d
  exact ⟨⟨kv, k _ _ e W.n2.1.symm W.n2.2.2, a, b, c⟩, .inl e1, e2, fun g hg => k _ _ (W.h g (hm g hg)) (W.n1 g (hm g hg)).2.1 (W.n1 g (hm g hg)).2.2, fun g hg j hj => k _ _ (W.l g (hm g hg) j hj) (fun y => by
      have := W.l g (hm g hg) j hj
      rcases W.t with t | ⟨o, t⟩
      · rw [y, t] at this
        cases this
      · rw [y, t] at this
        cases this) (ne_of (W.l g (hm g hg) j hj) W.q (by intro z; cases z)), fun g hg => W.nd g (hm g hg), fun g hg => W.no g (hm g hg), fun g hg g' hg' => W.dj g (hm g hg) g' (hm g' hg'), fun g hg => W.n1 g (hm g hg), W.n2, hn, hl, fun g hg => W.kl g (hm g hg), W.zl⟩
theorem MDeed.dicts (W : MdlAt H md mt mq r z hs sil N M) (hmt : H mt = some (.dK (mtD hs M))) {hs' : List Int} (k : ∀ q o, H q = some o → q ≠ mt → q ≠ mq → H' q = some o) (x1 : ∃ o, H' mt = some o) (x2 : ∃ o, H' mq = some o) (hm : ∀ x ∈ hs', x ∈ hs) : MDeed H H' (MFoot md mt mq hs M) (MFoot md mt mq hs' M) := by
  refine ⟨fun q o e hd => k q o e (fun y => by rw [y, hmt] at e; exact hd _ (Option.some.inj e).symm) (fun y => by rw [y, W.q] at e; exact hd _ (Option.some.inj e).symm), fun q o e hn => k q o e (fun y => hn (.inr (.inl y))) (fun y => hn (.inr (.inr (.inl y)))), fun q hq => ?_, fun q hq => ?_⟩
  · rcases hq with y | y | y | ⟨g, hg, y⟩
    · exact .inl (.inl y)
    · exact .inl (.inr (.inl y))
    · exact .inl (.inr (.inr (.inl y)))
    · exact .inl (.inr (.inr (.inr ⟨g, hm g hg, y⟩)))
  · cases e : H q with
    | none => rfl
    | some o =>
      exfalso
      by_cases y1 : q = mt
      · obtain ⟨o1, e1⟩ := x1
        rw [y1, e1] at hq
        cases hq
      · by_cases y2 : q = mq
        · obtain ⟨o1, e1⟩ := x2
          rw [y2, e1] at hq
          cases hq
        · rw [k q o e y1 y2] at hq
          cases hq
end
structure Stand (CB CT CW T1 : Addr) (H : Hp) (w td sd : Addr) (z r : Int) (hs sil pool : List Int) (T : Int → TRec) (md mt mq : Addr) (M : Int → MRec) : Prop where
  X : Both CB CT CW H w td sd z r hs sil pool T md mt mq M
  t : Tab H T1 (laPos lamH) quH
  sm : ∀ x ∈ sil, x ∈ hs
  sn : sil.Nodup
  n12 : hs.length ≤ 12
theorem Stand.same {CB CT CW T1 : Addr} {H H' : Hp} {w td sd : Addr} {z r : Int} {hs sil pool : List Int} {T : Int → TRec} {md mt mq : Addr} {M : Int → MRec} (X : Stand CB CT CW T1 H w td sd z r hs sil pool T md mt mq M) (s : Same H H') : Stand CB CT CW T1 H' w td sd z r hs sil pool T md mt mq M := ⟨X.X.same s, (s.but _).2 _ _ X.t, X.sm, X.sn, X.n12⟩
theorem Stand.sl {CB CT CW T1 : Addr} {H : Hp} {w td sd : Addr} {z r : Int} {hs sil pool : List Int} {T : Int → TRec} {md mt mq : Addr} {M : Int → MRec} (X : Stand CB CT CW T1 H w td sd z r hs sil pool T md mt mq M) : sil.length ≤ 12 := Nat.le_trans (len_of_sub X.sn X.sm) X.n12
def VisOf (z : Nat) (hs sil : List Int) (N : Int → Nat → List Int) (i : Int) (dv : V) (vis : List Int) : Prop := (dv = .non → vis = []) ∧ ∀ d, dv = .int d → ∃ ks : List Int, ks.Nodup ∧ (∀ x, x ∈ ks ↔ Rch (edge z (awB hs sil) N) d x) ∧ vis = visL i ks
theorem VisOf.eq {z : Nat} {hs sil : List Int} {N : Int → Nat → List Int} {i : Int} {dv : V} {v1 v2 : List Int} (a : VisOf z hs sil N i dv v1) (b : VisOf z hs sil N i dv v2) (h : dv = .non ∨ ∃ d, dv = .int d) : v1 = v2 := by
  rcases h with h | ⟨d, h⟩
  · rw [a.1 h, b.1 h]
  · obtain ⟨k1, a1, a2, rfl⟩ := a.2 d h
    obtain ⟨k2, b1, b2, rfl⟩ := b.2 d h
    exact vis_eq a1 a2 b1 b2
theorem VisOf.ok {z : Nat} {hs sil : List Int} {N : Int → Nat → List Int} {i : Int} {dv : V} {vis : List Int} (a : VisOf z hs sil N i dv vis) (h : dv = .non ∨ ∃ d, dv = .int d ∧ d ∈ hs) : ∀ x ∈ vis, x ∈ hs ∧ x ≠ i := by
  rcases h with h | ⟨d, h, hd⟩
  · rw [a.1 h]
    exact fun x hx => (nomatch hx)
  · obtain ⟨k1, a1, a2, rfl⟩ := a.2 d h
    exact vis_ok a2 hd
section
variable {CB CT CW T1 : Addr} {H H3 H4 : Hp} {w td sd : Addr} {z r : Int} {hs sil pool : List Int} {T T3 : Int → TRec} {md mt mq : Addr} {M M4 : Int → MRec}
theorem Stand.come (X : Stand CB CT CW T1 H w td sd z r hs sil pool T md mt mq M) {i : Int} {vis : List Int} (h12 : hs.length < 12) (hp : pool.length < 60) (hv : ∀ x ∈ vis, x ∈ hs ++ [i] ∧ x ≠ i) (W3 : TownAt CB CT CW H3 w td sd z r (hs ++ [i]) sil T3) (A3 : Apart z.toNat (hs ++ [i]) T3)
    (e3 : (fun g => (T3 g).ns) = meetAll r (awB (hs ++ [i]) sil) (setN (fun g => (T g).ns) i) i vis) (t3 : Tab H3 T1 (laPos lamH) quH) (S3 : ∀ q, MFoot md mt mq hs M q → ¬ Own td sd z.toNat (hs ++ [i]) T3 q)
    (B4 : MdlAt H4 md mt mq r z.toNat (hs ++ [i]) sil (meetAll r (awB (hs ++ [i]) sil) (setN (fun g => (T g).ns) i) i vis) M4) (m4 : H4 mt = some (.dK (mtD (hs ++ [i]) M4))) (d4 : MDeed H3 H4 (MFoot md mt mq hs M) (MFoot md mt mq (hs ++ [i]) M4)) :
    Stand CB CT CW T1 H4 w td sd z r (hs ++ [i]) sil (pool ++ [i]) T3 md mt mq M4 := by
  obtain ⟨W4, S4⟩ := mdl_step W3 S3 d4
  have hr1 := W3.r1
  have hps : ∀ x ∈ hs ++ [i], x ∈ pool ++ [i] := fun x hx => (List.mem_append.mp hx).elim (fun y => List.mem_append_left _ (X.X.q x y)) fun y => List.mem_append_right _ y
  have hip : i ∈ pool ++ [i] := List.mem_append_right _ (List.mem_singleton.mpr rfl)
  have O4 : NOk (pool ++ [i]) z.toNat r (hs ++ [i]) (meetAll r (awB (hs ++ [i]) sil) (setN (fun g => (T g).ns) i) i vis) := NOk.meets hr1 hip (fun x hx => ⟨hps x (hv x hx).1, (hv x hx).2⟩) ((X.X.O.pool fun x hx => List.mem_append_left _ hx).comer hr1 i)
  refine ⟨⟨W4, A3, ?_, m4, ?_, by rw [List.length_append, List.length_singleton]; omega, hps, S4⟩, Tab.mdl t3 d4, fun x hx => List.mem_append_left _ (X.sm x hx), X.sn, by rw [List.length_append, List.length_singleton]; omega⟩
  · rw [e3]
    exact B4
  · rw [e3]
    exact O4
theorem Stand.woke (X : Stand CB CT CW T1 H w td sd z r hs sil pool T md mt mq M) {h : Int} {vis : List Int} (hh : h ∈ hs) (hv : ∀ x ∈ vis, x ∈ hs ∧ x ≠ h) (W3 : TownAt CB CT CW H3 w td sd z r hs (delI h sil) T3) (A3 : Apart z.toNat hs T3)
    (e3 : (fun g => (T3 g).ns) = meetAll r (awB hs (delI h sil)) (fun g => (T g).ns) h vis) (t3 : Tab H3 T1 (laPos lamH) quH) (S3 : ∀ q, MFoot md mt mq hs M q → ¬ Own td sd z.toNat hs T3 q)
    (B4 : MdlAt H4 md mt mq r z.toNat hs (delI h sil) (meetAll r (awB hs (delI h sil)) (fun g => (T g).ns) h vis) M4) (m4 : H4 mt = some (.dK (mtD hs M4))) (d4 : MDeed H3 H4 (MFoot md mt mq hs M) (MFoot md mt mq hs M4)) :
    Stand CB CT CW T1 H4 w td sd z r hs (delI h sil) pool T3 md mt mq M4 := by
  obtain ⟨W4, S4⟩ := mdl_step W3 S3 d4
  have hr1 := W3.r1
  have O4 : NOk pool z.toNat r hs (meetAll r (awB hs (delI h sil)) (fun g => (T g).ns) h vis) := NOk.meets hr1 (X.X.q h hh) (fun x hx => ⟨X.X.q x (hv x hx).1, (hv x hx).2⟩) X.X.O
  refine ⟨⟨W4, A3, ?_, m4, ?_, X.X.p, X.X.q, S4⟩, Tab.mdl t3 d4, fun x hx => X.sm x (mem_delI.mp hx).1, delI_nodup X.sn, X.n12⟩
  · rw [e3]
    exact B4
  · rw [e3]
    exact O4
theorem Stand.dicts (X : Stand CB CT CW T1 H w td sd z r hs sil pool T md mt mq M) {hs' sil' : List Int} (k3 : ∀ q o, H q = some o → q ≠ mt → q ≠ mq → H3 q = some o) (a1 : H3 mt = some (.dK (mtD hs' M))) (a2 : H3 mq = some (.dK (silD sil'))) (hn : hs'.Nodup) (hm : ∀ x ∈ hs', x ∈ hs) (sm : ∀ x ∈ sil', x ∈ hs') (sn : sil'.Nodup) :
    TownAt CB CT CW H3 w td sd z r hs sil T ∧ Tab H3 T1 (laPos lamH) quH ∧ ∀ H4, TownAt CB CT CW H4 w td sd z r hs' sil' T → (∀ q o, H3 q = some o → q ≠ td → q ≠ sd → H4 q = some o) → Stand CB CT CW T1 H4 w td sd z r hs' sil' pool T md mt mq M ∧ KeepL H H4 (Own td sd z.toNat hs T) (Own td sd z.toNat hs' T) := by
  have hl : hs'.length ≤ hs.length := len_of_sub hn hm
  have h60 : hs'.length ≤ 60 := Nat.le_trans hl X.X.W.ln
  have B3 := X.X.B.dicts k3 a1 a2 hn hm h60
  have d3 : MDeed H H3 (MFoot md mt mq hs M) (MFoot md mt mq hs' M) := MDeed.dicts X.X.B X.X.m k3 ⟨_, a1⟩ ⟨_, a2⟩ hm
  obtain ⟨W3, S3⟩ := mdl_step X.X.W X.X.S d3
  have t3 := Tab.mdl X.t d3
  refine ⟨W3, t3, fun H4 W4 k4 => ?_⟩
  have d4 : Deed H3 H4 (Own td sd z.toNat hs T) (Own td sd z.toNat hs' T) := Deed.dicts W3 k4 ⟨_, W4.tb⟩ ⟨_, W4.si⟩ hm
  obtain ⟨B4, m4, S4⟩ := town_step B3 a1 S3 d4
  exact ⟨⟨⟨W4, X.X.A.sub hm, B4, m4, X.X.O.sub hm, X.X.p, fun x hx => X.X.q x (hm x hx), S4⟩, Tab.dicts W3 t3 k4, sm, sn, Nat.le_trans hl X.n12⟩, (KeepL.mdl d3).trans (KeepL.deed d4)⟩
end
local macro_rules | `(tactic| walk_at "fld") => `(tactic| first | exact bF_room _ _ | exact bF_order _ _ | exact bF_full _ _ | exact bF_hears _ _ | exact bF_drops _ _ | exact bF_names _ _ | exact flat_ints _)
local macro_rules | `(tactic| walk_at "fld") => `(tactic| first | exact tF_own _ _ _ _ | exact tF_wide _ _ _ _ | exact tF_room _ _ _ _ | exact tF_buckets _ _ _ _ | exact tF_n1 _ _ _ _ | exact tF_n2 _ _ _ _ | exact tF_n3 _ _ _ _ | exact tF_n4 _ _ _ _ | exact tF_n5 _ _ _ _ | exact tF_n6 _ _ _ _)
local macro_rules | `(tactic| walk_at "fld") => `(tactic| first | exact wF_wide _ _ _ _ | exact wF_room _ _ _ _ | exact wF_tables _ _ _ _ | exact wF_silent _ _ _ _ | exact wF_m _ (by decide +kernel) _ _ _ _ | exact DGet.k (k := Sum.inl _) (by walk_at "hp"))
theorem eq_of_eqL {K : PySem.W.Frag} {H : Hp} {Q : VK} {a b : Addr} (ns : List Int) (h1 : H a = some (.lst (ns.map V.int))) (h2 : H b = some (.lst (ns.map V.int))) (q : Q (.bl true) H) : rEqL K false (.ref a) (.ref b) H Q := ⟨a, b, ns, ns, rfl, rfl, SqL.of h1, SqL.of h2, by
  show Q (.bl (decide (ns = ns))) H
  rw [decide_eq_true rfl]
  exact q⟩
theorem pick_sorted {c : Int} {hs : List Int} {M : Int → MRec} (h0 : 0 < hs.length) : ∃ h, h ∈ hs ∧ atI ((sortI hs).map V.int) (c % (((mtD hs M).length : Nat) : Int)) = some (V.int h) := by
  rw [mt_len]
  have hpos : (0 : Int) < ((hs.length : Nat) : Int) := by omega
  have a1 := Int.emod_nonneg c (Int.ne_of_gt hpos)
  have a2 := Int.emod_lt_of_pos c hpos
  have hlt : (c % ((hs.length : Nat) : Int)).toNat < (sortI hs).length := by rw [sortI_len]; omega
  refine ⟨(sortI hs)[(c % ((hs.length : Nat) : Int)).toNat], (sortI_perm _).subset (List.getElem_mem hlt), ?_⟩
  have e : (((c % ((hs.length : Nat) : Int)).toNat : Nat) : Int) = c % ((hs.length : Nat) : Int) := by omega
  have z := atI_nat (xs := (sortI hs).map V.int) (j := (c % ((hs.length : Nat) : Int)).toNat) (v := V.int (sortI hs)[(c % ((hs.length : Nat) : Int)).toNat]) (by simp [hlt])
  rwa [e] at z
def spDeed (CB CT CW T1 : Addr) : Sp := fun vs H Q _ => ∃ (w td sd : Addr) (z r : Int) (hs sil pool : List Int) (T : Int → TRec) (md mt mq : Addr) (M : Int → MRec) (c : Int), vs = [.ref w, .ref md, .int z, .int c] ∧ Stand CB CT CW T1 H w td sd z r hs sil pool T md mt mq M ∧ pool.length < 60 ∧ 0 ≤ c ∧
  ∀ (H' : Hp) (hs' sil' pool' : List Int) (T' : Int → TRec) (M' : Int → MRec), Stand CB CT CW T1 H' w td sd z r hs' sil' pool' T' md mt mq M' → KeepL H H' (Own td sd z.toNat hs T) (Own td sd z.toNat hs' T') → 2 * pool'.length + hs.length ≤ 2 * pool.length + 1 + hs'.length → Q (.bl true) H'
section
variable {P : Program} {w : World} {K : PySem.W.Frag} {mg : Str → Option Value} {base : Heap}
theorem sc_ldeed : FnScope ["_law_town", "_law_model", "_law_wide_here", "_law_cell", "_law_name_here", "_law_door", "_law_house"] ["_law_town", "_law_model", "_law_wide_here", "_law_cell"] (defScope (top 36)) := ⟨rfl, rfl, rfl, by decide +kernel, rfl, by decide +kernel, by decide +kernel⟩
theorem ok_ldeed (T : Txt mg) (hK : K.In base) (D_NoName : DfE K mg "NoName") (D_NoHouse : DfE K mg "NoHouse") (D_Silent : DfE K mg "Silent") (D_Taken : DfE K mg "Taken") (D_is_whole : Df K mg "is_whole" (top 9) ["thing"]) (D_is_name : Df K mg "is_name" (top 10) ["thing", "wide"]) (D_far : Df K mg "far" (top 11) ["one", "other"]) (D_step : Df K mg "step" (top 12) ["one", "other"]) (D_Bucket : DfC K mg "Bucket" ["room", "order"]) (D_Bucket___init__ : DfM K D_Bucket.C "__init__" "Bucket.__init__" (inClass (top 14) 0) ["self", "room"]) (D_Bucket_names : DfM K D_Bucket.C "names" "Bucket.names" (inClass (top 14) 4) ["self"]) (D_Bucket_hears_when_full : DfM K D_Bucket.C "hears_when_full" "Bucket.hears_when_full" (inClass (top 14) 2) ["self", "name", "answers"]) (D_Bucket_hears : DfM K D_Bucket.C "hears" "Bucket.hears" (inClass (top 14) 1) ["self", "name", "answers"]) (D_Table : DfC K mg "Table" ["own", "wide", "room", "buckets"]) (D_Table___init__ : DfM K D_Table.C "__init__" "Table.__init__" (inClass (top 16) 0) ["self", "own", "wide", "room"]) (D_Table_keeps : DfM K D_Table.C "keeps" "Table.keeps" (inClass (top 16) 5) ["self"]) (D_Table_bucket_of : DfM K D_Table.C "bucket_of" "Table.bucket_of" (inClass (top 16) 3) ["self", "name"]) (D_Table_hears : DfM K D_Table.C "hears" "Table.hears" (inClass (top 16) 1) ["self", "name", "answers"])
    (D_Town : DfC K mg "Town" ["wide", "room", "tables", "silent"]) (D_Town_answers : DfM K D_Town.C "answers" "Town.answers" (inClass (top 19) 3) ["self", "name"]) (D_Town_is_house : DfM K D_Town.C "is_house" "Town.is_house" (inClass (top 19) 4) ["self", "thing"]) (D_Town_come_to : DfM K D_Town.C "come_to" "Town.come_to" (inClass (top 19) 8) ["self", "house"]) (D_Town_come : DfMd K D_Town.C "come" "Town.come" (inClass (top 19) 11) ["self", "name", "door"] [Value.none]) (D_Town_go : DfM K D_Town.C "go" "Town.go" (inClass (top 19) 12) ["self", "house"]) (D_Town_hush : DfM K D_Town.C "hush" "Town.hush" (inClass (top 19) 13) ["self", "house"]) (D_Town_wake : DfM K D_Town.C "wake" "Town.wake" (inClass (top 19) 14) ["self", "house", "door"]) (D_Town_check_name : DfM K D_Town.C "check_name" "Town.check_name" (inClass (top 19) 15) ["self", "thing"]) (D_Town_check_house : DfM K D_Town.C "check_house" "Town.check_house" (inClass (top 19) 16) ["self", "thing"]) (D_Town_check_answering : DfM K D_Town.C "check_answering" "Town.check_answering" (inClass (top 19) 17) ["self", "thing"]) (D_Town_settles : DfM K D_Town.C "settles" "Town.settles" (inClass (top 19) 19) ["self", "house", "visited"]) (D_Town_leaves : DfM K D_Town.C "leaves" "Town.leaves" (inClass (top 19) 20) ["self", "house"]) (D_Town_visits : DfM K D_Town.C "visits" "Town.visits" (inClass (top 19) 23) ["self", "house", "door"]) (D_Town_meet : DfM K D_Town.C "meet" "Town.meet" (inClass (top 19) 24) ["self", "one", "other"]) (D_Town_hears_of : DfMF K D_Town.C "hears_of" "Town.hears_of" (inClass (top 19) 25) ["self", "house", "name"]) (hB : base.BuiltinsAt mg D_Town_hears_of.P)
    (D__law_mixed : Df K mg "_law_mixed" (top 21) ["_law_cell", "_law_k"]) (D__law_near : Df K mg "_law_near" (top 23) ["_law_signs", "_law_wide_here", "_law_first"]) (D__law_awake : Df K mg "_law_awake" (top 24) ["_law_model", "_law_name_here"]) (D__law_hears : Df K mg "_law_hears" (top 25) ["_law_model", "_law_house", "_law_name_here"]) (D__law_keeps : Df K mg "_law_keeps" (top 26) ["_law_model", "_law_house"]) (D__law_come_to : Df K mg "_law_come_to" (top 27) ["_law_model", "_law_house"]) (D__law_visit : Df K mg "_law_visit" (top 28) ["_law_model", "_law_house", "_law_door"]) (D__law_come : Df K mg "_law_come" (top 29) ["_law_model", "_law_name_here", "_law_door"]) (D__law_some : Df K mg "_law_some" (top 32) ["_law_model", "_law_cell"]) (D__law_name : Df K mg "_law_name" (top 33) ["_law_model", "_law_wide_here", "_law_cell"]) (D : Df K mg "_law_deed" (top 36) ["_law_town", "_law_model", "_law_wide_here", "_law_cell"]) :
    FnOk P w K mg base CX0 13 D.f D.fd ["_law_town", "_law_model", "_law_wide_here", "_law_cell"] (spDeed D_Bucket.C D_Table.C D_Town.C D_Town_hears_of.P) := by
  have hcl := D_Town.cl
  have G_Town_come : FnOk P w K mg base CX0 12 _ _ _ _ := ok_Town_come T hK D_NoName D_NoHouse D_Silent D_Taken D_far D_step D_is_whole D_is_name D_Bucket D_Bucket___init__ D_Bucket_names D_Bucket_hears_when_full D_Bucket_hears D_Table D_Table___init__ D_Table_keeps D_Table_bucket_of D_Table_hears D_Town D_Town_is_house D_Town_answers D_Town_check_name D_Town_check_house D_Town_check_answering D_Town_come_to D_Town_hears_of hB D_Town_meet D_Town_settles D_Town_visits D_Town_come
  have G_Town_wake : FnOk P w K mg base CX0 12 _ _ _ _ := ok_Town_wake T hK D_NoHouse D_Silent D_Taken D_far D_step D_is_whole D_is_name D_Bucket D_Bucket_names D_Bucket_hears_when_full D_Bucket_hears D_Table D_Table_keeps D_Table_bucket_of D_Table_hears D_Town D_Town_is_house D_Town_answers D_Town_check_house D_Town_check_answering D_Town_come_to D_Town_hears_of hB D_Town_meet D_Town_settles D_Town_visits D_Town_wake
  have G_Town_hush : FnOk P w K mg base CX0 5 _ _ _ _ := ok_Town_hush (CB := D_Bucket.C) (CT := D_Table.C) T D_NoHouse D_is_whole D_is_name D_Town D_Town_is_house D_Town_check_house D_Town_hush
  have G_Town_go : FnOk P w K mg base CX0 5 _ _ _ _ := ok_Town_go (CB := D_Bucket.C) (CT := D_Table.C) T D_NoHouse D_is_whole D_is_name D_Town D_Town_is_house D_Town_check_house D_Town_leaves D_Town_go
  have G__law_come : FnOk P w K mg base CX0 4 _ _ _ _ := ok_lcome T D__law_awake D__law_keeps D__law_hears D__law_come_to D__law_visit D__law_come
  have G__law_visit : FnOk P w K mg base CX0 3 _ _ _ _ := ok_lvisit T D__law_awake D__law_keeps D__law_hears D__law_come_to D__law_visit
  have G__law_some : FnOk P w K mg base CX0 1 _ _ _ _ := ok_lsome T D__law_some
  have G__law_name : FnOk P w K mg base CX0 2 _ _ _ _ := ok_lname T D__law_mixed D__law_near D__law_name
  refine D.fn.ok sc_ldeed (fun vs H Q E h => ?_) (fun cdv A outer s H vs Q E hr h => ?_)
  · obtain ⟨w, td, sd, z, r, hs, sil, pool, TT, md, mt, mq, M, c, rfl, _⟩ := h
    rfl
  · obtain ⟨w, td, sd, z, r, hs, sil, pool, TT, md, mt, mq, M, c, rfl, X, hp60, hc, k⟩ := h
    have B0 := X.X.B
    have hmt0 := X.X.m
    have hb0 : ∀ x ∈ hs, 0 ≤ x := fun x hx => (X.X.W.hb x hx).1
    have hz1 := X.X.W.z1
    have hz2 := X.X.W.z2
    have hr1 := X.X.W.r1
    have hr2 := X.X.W.r2
    refine ⟨_, (pss_cons (ps_set (i := 4) sc_ldeed.nd rfl (Or.inl rfl) (pe_call G__law_name (hr.mono (by decide)) rfl D__law_name.hm D__law_name.fn.kp D__law_name.b .nil pass0 (pa_cons (pv 1) (pa_cons (pv 2) (pa_cons (pe_op op_fdiv (pv 3) pe_int) pa_nil)))))
      (pss_cons (ps_set (i := 5) sc_ldeed.nd rfl (Or.inl rfl) (pe_call G__law_some (hr.mono (by decide)) rfl D__law_some.hm D__law_some.fn.kp D__law_some.b .nil pass0 (pa_cons (pv 1) (pa_cons (pe_op op_fdiv (pv 3) pe_int) pa_nil))))
      (pss_consM (ps_if (PW.pt (pw_and (pt_cmpR op_lt (pe_op op_mod (pv 3) pe_int) pe_int (nomark _)) (pw_and (pt_cmp (pc_dnotin (hu_of hr) (pv 4) (pe_dget (hu_of hr) (pv 1) pe_str (fun _ _ => rfl)))) (pw_and1 (pt_cmpR op_lt (pe_callB call_lenD rfl T.n_len bt_len (pa_cons (pe_dget (hu_of hr) (pv 1) pe_str (fun _ _ => rfl)) pa_nil)) pe_int (nomark _))))))
       (pss_cons (ps_if (pt_cmpR op_eq (pe_op op_mod (pe_op op_fdiv (pv 3) pe_int) pe_int) pe_int (nomark _))
         (pss_one (ps_ret (pe_cmpR (op_eqL hr.units) (pe_meth (pv 0) D_Town.cl D_Town_come.me G_Town_come (hr.mono (by decide)) D_Town_come.bd (.cons (show RelV .non Value.none from rfl) .nil) pass0 (pa_cons (pv 4) pa_nil)) (pe_call G__law_come (hr.mono (by decide)) rfl D__law_come.hm D__law_come.fn.kp D__law_come.b .nil pass0 (pa_cons (pv 1) (pa_cons (pv 4) (pa_cons pe_non pa_nil)))) (nomark _))))
         pss_nil)
        (pss_one (ps_ret (pe_cmpR (op_eqL hr.units) (pe_meth (pv 0) D_Town.cl D_Town_come.me G_Town_come (hr.mono (by decide)) D_Town_come.b .nil pass0 (pa_cons (pv 4) (pa_cons (pv 5) pa_nil))) (pe_call G__law_come (hr.mono (by decide)) rfl D__law_come.hm D__law_come.fn.kp D__law_come.b .nil pass0 (pa_cons (pv 1) (pa_cons (pv 4) (pa_cons (pv 5) pa_nil)))) (nomark _)))))
       pss_nil)
      (pss_cons (ps_if (pt_cmpR (op_eqD0 hr.units) (pe_dget (hu_of hr) (pv 1) pe_str (fun _ _ => rfl)) pe_dnewK (nomark _))
       (pss_one (ps_ret pe_bl))
       pss_nil)
      (pss_cons (ps_set (i := 6) sc_ldeed.nd rfl (Or.inl rfl) (pe_ix ix_list (pe_callB (call_sortedD rfl) rfl T.n_sorted bt_sorted (pa_cons (pe_dget (hu_of hr) (pv 1) pe_str (fun _ _ => rfl)) pa_nil)) (pe_op op_mod (pe_op op_fdiv (pv 3) pe_int) (pe_callB call_lenD rfl T.n_len bt_len (pa_cons (pe_dget (hu_of hr) (pv 1) pe_str (fun _ _ => rfl)) pa_nil))) (fun _ _ => rfl)))
      (pss_consM (ps_if (PW.pt (pw_and (pt_cmp (pc_din (hu_of hr) (pv 6) (pe_dget (hu_of hr) (pv 1) pe_str (fun _ _ => rfl)))) (pw_and (pt_cmpR op_notN (pv 5) pe_non (nomark _)) (pw_and1 (pt_cmpR op_eq (pe_op op_mod (pe_op op_fdiv (pv 3) pe_int) pe_int) pe_int (nomark _))))))
       (pss_cons (ps_expr (pe_dpop1 (pe_dget (hu_of hr) (pv 1) pe_str (fun _ _ => rfl)) (pv 6) ⟨rfl, rfl, rfl, rfl⟩))
        (pss_one (ps_ret (pe_cmpR (op_eqL hr.units) (pe_meth (pv 0) D_Town.cl D_Town_wake.me G_Town_wake (hr.mono (by decide)) D_Town_wake.b .nil pass0 (pa_cons (pv 6) (pa_cons (pv 5) pa_nil))) (pe_call G__law_visit (hr.mono (by decide)) rfl D__law_visit.hm D__law_visit.fn.kp D__law_visit.b .nil pass0 (pa_cons (pv 1) (pa_cons (pv 6) (pa_cons (pv 5) pa_nil)))) (nomark _)))))
       pss_nil)
      (pss_cons (ps_if (pt_cmpR op_eq (pe_op op_mod (pe_op op_fdiv (pv 3) pe_int) pe_int) pe_int (nomark _))
       (pss_cons (ps_dput (hu_of hr) (pe_dget (hu_of hr) (pv 1) pe_str (fun _ _ => rfl)) (pv 6) pe_bl rfl)
        (pss_one (ps_ret (pe_cmpR op_isN (pe_meth (pv 0) D_Town.cl D_Town_hush.me G_Town_hush (hr.mono (by decide)) D_Town_hush.b .nil pass0 (pa_cons (pv 6) pa_nil)) pe_non (nomark _)))))
       pss_nil)
      (pss_cons (ps_expr (pe_dpop1 (pe_dget (hu_of hr) (pv 1) pe_str (fun _ _ => rfl)) (pv 6) ⟨rfl, rfl, rfl, rfl⟩))
      (pss_cons (ps_expr (pe_dpop2 (pe_dget (hu_of hr) (pv 1) pe_str (fun _ _ => rfl)) (pv 6) pe_bl ⟨rfl, rfl, rfl, rfl⟩))
      (pss_one (ps_ret (pe_cmpR op_isN (pe_meth (pv 0) D_Town.cl D_Town_go.me G_Town_go (hr.mono (by decide)) D_Town_go.b .nil pass0 (pa_cons (pv 6) pa_nil)) pe_non (nomark _))))))))))))), ?_⟩
    walk_at "w"
    intro i H1 s1 hi0 hi1
    have B1 := B0.same s1
    have hmt1 := s1 _ _ hmt0
    walk_at "w"
    intro v H2 s2 hv
    have s02 := s1.trans s2
    have X2 := X.same s02
    have W2 := X2.X.W
    have A2 := X2.X.A
    have B2 := X2.X.B
    have hmt2 := X2.X.m
    have gT2 := B2.gT
    have gO2 := B2.gO i
    have t2 := X2.t
    have k2 : ∀ (H' : Hp) (hs' sil' pool' : List Int) (T' : Int → TRec) (M' : Int → MRec), Stand D_Bucket.C D_Table.C D_Town.C D_Town_hears_of.P H' w td sd z r hs' sil' pool' T' md mt mq M' → KeepL H2 H' (Own td sd z.toNat hs TT) (Own td sd z.toNat hs' T') → 2 * pool'.length + hs.length ≤ 2 * pool.length + 1 + hs'.length → Q (.bl true) H' := fun H' hs' sil' pool' T' M' a b c => k H' hs' sil' pool' T' M' a ((KeepL.same s02).trans b) c
    refine mid (fun σ H' => Hold (σ = [some (.ref w), some (.ref md), some (.int z), some (.int c), some (.int i), some v, none] ∧ H' = H2)) ?_ ?_
    · rintro σ H' ⟨rfl, rfl⟩
      walk_at "w"
      intro e0 he0
      have s3 : Same H' (upd H' e0 (.dK [])) := Same.new H' he0
      have he01 : upd H' e0 (.dK []) e0 = some (.dK []) := upd_same
      generalize upd H' e0 (.dK []) = H3 at s3 he01 ⊢
      have X3 := X2.same s3
      refine ⟨mt, e0, mtD hs M, rfl, rfl, .inl X3.X.m, .inl he01, ?_⟩
      walk_at "w"
      change if decide ((mtD hs M).length = 0) = true then _ else _
      rw [mt_len]
      by_cases h0 : hs.length = 0
      · refine iteD h0 ?_
        walk_at "w"
        exact k2 H3 hs sil pool TT M X3 (KeepL.same s3) (by omega)
      · refine iteDn h0 ?_
        have gT3 := X3.X.B.gT
        have hmt3 := X3.X.m
        have hkeys := mt_keys (hs := hs) (M := M)
        have h64 : hs.length < 64 := by have := X.n12; omega
        obtain ⟨h, hh, hat⟩ := pick_sorted (c := c / 12) (M := M) (show 0 < hs.length by omega)
        have hlp : (0 : Int) < (((mtD hs M).length : Nat) : Int) := by rw [mt_len]; omega
        walk_at "w"
        intro l4 hl4
        have s4 : Same H3 (upd H3 l4 (.lst ((sortI hs).map V.int))) := Same.new H3 hl4
        have hl44 : upd H3 l4 (.lst ((sortI hs).map V.int)) l4 = some (.lst ((sortI hs).map V.int)) := upd_same
        generalize upd H3 l4 (.lst ((sortI hs).map V.int)) = H4 at s4 hl44 ⊢
        have X4 := X3.same s4
        have gT4 := X4.X.B.gT
        have hmt4 := X4.X.m
        have k4 : ∀ (H' : Hp) (hs' sil' pool' : List Int) (T' : Int → TRec) (M' : Int → MRec), Stand D_Bucket.C D_Table.C D_Town.C D_Town_hears_of.P H' w td sd z r hs' sil' pool' T' md mt mq M' → KeepL H4 H' (Own td sd z.toNat hs TT) (Own td sd z.toNat hs' T') → 2 * pool'.length + hs.length ≤ 2 * pool.length + 1 + hs'.length → Q (.bl true) H' := fun H' hs' sil' pool' T' M' a b c => k2 H' hs' sil' pool' T' M' a ((KeepL.same (s3.trans s4)).trans b) c
        walk_at "w"
        have W4 := X4.X.W
        have A4 := X4.X.A
        have B4 := X4.X.B
        have t4 := X4.t
        have gQ4 := B4.gQ
        have hq4 := B4.q
        have O4 := X4.X.O
        have hp4 := X4.X.p
        have hps4 := X4.X.q
        have hb4 := W4.hb
        have hvs := valV_sil (sil := sil) (i := h)
        have hsl := X4.sl
        obtain ⟨⟨dx4, hob4⟩, -⟩ := id W4
        refine mid (fun σ H' => Hold (σ = [some (.ref w), some (.ref md), some (.int z), some (.int c), some (.int i), some v, some (.int h)] ∧ H' = H4)) ?_ ?_
        · rintro σ H' ⟨rfl, rfl⟩
          walk_at "w"
          refine ite2 (fun _ => ?_) (fun _ => ?_)
          · -- falls silent
            have hszd : (silD sil).length < sizeLine := by
              unfold silD
              rw [List.length_map]
              exact small1000 (by omega)
            have hput : DPut H' mq (V.int h) (V.bl true) (upd H' mq (.dK (putK (silD sil) (Sum.inl h) (V.bl true)))) := DPut.k (k := Sum.inl h) hq4 hszd
            have k5 : ∀ q o, H' q = some o → q ≠ mt → q ≠ mq → upd H' mq (.dK (putK (silD sil) (Sum.inl h) (V.bl true))) q = some o := fun q o e _ y => by rw [upd_ne y]; exact e
            have sm5 : ∀ x ∈ addI h sil, x ∈ hs := fun x hx => by
              unfold addI at hx
              split at hx
              · exact X4.sm x hx
              · exact (List.mem_append.mp hx).elim (X4.sm x) fun y => List.mem_singleton.mp y ▸ hh
            have sn5 : (addI h sil).Nodup := by
              unfold addI
              split
              · exact X4.sn
              · rename_i e
                exact snoc_nodup X4.sn e
            obtain ⟨W5, t5, fin5⟩ := X4.dicts (hs' := hs) (sil' := addI h sil) k5 (by rw [upd_ne B4.n2.2.1]; exact hmt4) (by rw [upd_same, put_sil]) W4.nd (fun x hx => hx) sm5 sn5
            generalize upd H' mq (.dK (putK (silD sil) (Sum.inl h) (V.bl true))) = H5 at hput W5 t5 fin5
            obtain ⟨⟨dx5, hob5⟩, -⟩ := id W5
            have hs900 : sil.length ≤ 900 := by omega
            walk_at "w"
            intro H6 W6 k6
            obtain ⟨X6, kl⟩ := fin5 H6 W6 k6
            walk_at "w"
            exact k4 H6 hs _ pool TT M X6 kl (by omega)
          · -- goes
            have hvt : valV (mtD hs M) (Sum.inl h) = some (V.ref (M h).d) := by rw [valV_mt, if_pos hh]
            have nmq : mt ≠ mq := B4.n2.2.1
            have nmd : md ≠ mt := B4.n2.1.symm
            walk_at "w"
            refine ⟨.inl ⟨_, .inl hmt4⟩, _, rfl, _, Sum.inl h, _, hmt4, rfl, hvt, ?_⟩
            have hq5 : upd H' mt (.dK (dropK (mtD hs M) (Sum.inl h))) mq = some (.dK (silD sil)) := by rw [upd_ne nmq.symm]; exact hq4
            have hmt5 : upd H' mt (.dK (dropK (mtD hs M) (Sum.inl h))) mt = some (.dK (mtD (delI h hs) M)) := by rw [upd_same]; exact congrArg (fun x => some (HO.dK x)) drop_tabs
            have k5 : ∀ q o, H' q = some o → q ≠ mt → upd H' mt (.dK (dropK (mtD hs M) (Sum.inl h))) q = some o := fun q o e y => by rw [upd_ne y]; exact e
            have gQ5 : DGet (upd H' mt (.dK (dropK (mtD hs M) (Sum.inl h)))) md (V.str "quiet") (some (V.ref mq)) := by
              obtain ⟨kv, e, _, a, _⟩ := B4.d
              exact .inl ⟨kv, Sum.inr "quiet", .inl (k5 _ _ e nmd), rfl, a.symm⟩
            generalize upd H' mt (.dK (dropK (mtD hs M) (Sum.inl h))) = H5 at hq5 hmt5 k5 gQ5 ⊢
            have hdl := delI_len W4.nd hh
            have smd : ∀ x ∈ delI h sil, x ∈ delI h hs := fun x hx => mem_delI.mpr ⟨X4.sm x (mem_delI.mp hx).1, (mem_delI.mp hx).2⟩
            walk_at "w"
            refine ⟨.inl ⟨_, .inl hq5⟩, _, rfl, _, Sum.inl h, hq5, rfl, fun v' hv' => ?_, fun hv' => ?_⟩
            · have k6 : ∀ q o, H' q = some o → q ≠ mt → q ≠ mq → upd H5 mq (.dK (dropK (silD sil) (Sum.inl h))) q = some o := fun q o e y1 y2 => by rw [upd_ne y2]; exact k5 q o e y1
              obtain ⟨W6, t6, fin6⟩ := X4.dicts (hs' := delI h hs) (sil' := delI h sil) k6 (by rw [upd_ne nmq]; exact hmt5) (by rw [upd_same, drop_sil]) (delI_nodup W4.nd) (fun x hx => (mem_delI.mp hx).1) smd (delI_nodup X4.sn)
              generalize upd H5 mq (.dK (dropK (silD sil) (Sum.inl h))) = H6 at k6 W6 t6 fin6 ⊢
              obtain ⟨⟨dx6, hob6⟩, -⟩ := id W6
              walk_at "w"
              intro H7 W7 k7
              obtain ⟨X7, kl⟩ := fin6 H7 W7 k7
              walk_at "w"
              exact k4 H7 _ _ pool TT M X7 kl (by omega)
            · have hni : h ∉ sil := fun y => by
                rw [hv', decide_eq_true y] at hvs
                cases hvs
              obtain ⟨W6, t6, fin6⟩ := X4.dicts (hs' := delI h hs) (sil' := delI h sil) (fun q o e y _ => k5 q o e y) hmt5 (by rw [delI_no hni]; exact hq5) (delI_nodup W4.nd) (fun x hx => (mem_delI.mp hx).1) smd (delI_nodup X4.sn)
              obtain ⟨⟨dx6, hob6⟩, -⟩ := id W6
              walk_at "w"
              intro H7 W7 k7
              obtain ⟨X7, kl⟩ := fin6 H7 W7 k7
              walk_at "w"
              exact k4 H7 _ _ pool TT M X7 kl (by omega)
        · intro U hU
          have U0 : U [some (.ref w), some (.ref md), some (.int z), some (.int c), some (.int i), some v, some (.int h)] H4 := hU _ _ ⟨rfl, rfl⟩
          walk_at "w"
          rw [hvs]
          by_cases hsi : h ∈ sil
          · rw [decide_eq_true hsi]
            rcases hv with rfl | ⟨d, rfl, hd, hds⟩
            · walk_at "w"
            · walk_at "w"
              refine ite2 (fun _ => ?_) (fun _ => ?_)
              · obtain ⟨vv, hvv⟩ : ∃ v, valV (silD sil) (Sum.inl h) = some v := by
                  rw [decide_eq_true hsi] at hvs
                  exact Option.isSome_iff_exists.mp hvs
                walk_at "w"
                refine ⟨.inl ⟨_, .inl hq4⟩, _, rfl, _, Sum.inl h, _, hq4, rfl, hvv, ?_⟩
                have k5 : ∀ q o, H4 q = some o → q ≠ mt → q ≠ mq → upd H4 mq (.dK (dropK (silD sil) (Sum.inl h))) q = some o := fun q o e _ y => by rw [upd_ne y]; exact e
                have m5 : upd H4 mq (.dK (dropK (silD sil) (Sum.inl h))) mt = some (.dK (mtD hs M)) := by rw [upd_ne B4.n2.2.1]; exact hmt4
                have q5 : upd H4 mq (.dK (dropK (silD sil) (Sum.inl h))) mq = some (.dK (silD (delI h sil))) := by rw [upd_same, drop_sil]
                generalize upd H4 mq (.dK (dropK (silD sil) (Sum.inl h))) = H5 at k5 m5 q5 ⊢
                have B5 := B4.dicts k5 m5 q5 W4.nd (fun x hx => hx) W4.ln
                have d5 : MDeed H4 H5 (MFoot md mt mq hs M) (MFoot md mt mq hs M) := MDeed.dicts B4 hmt4 k5 ⟨_, m5⟩ ⟨_, q5⟩ (fun x hx => hx)
                obtain ⟨W5, S5⟩ := mdl_step W4 X4.X.S d5
                have t5 := Tab.mdl t4 d5
                obtain ⟨⟨dx5, hob5⟩, -⟩ := id W5
                walk_at "w"
                intro l6 ks6 H6 T6 nd6 mem6 W6 A6 e6 d6 t6 hl6 hnl6 hl66
                obtain ⟨B6, m6, S6⟩ := town_step B5 m5 S5 d6
                walk_at "w"
                intro l7 ks7 H7 M7 nd7 mem7 B7 m7 d7 hl7 hnl7 hl77
                have ev : visL h ks6 = visL h ks7 := vis_eq nd6 mem6 nd7 mem7
                rw [ev] at e6 hl66
                refine eq_of_eqL (visL h ks7) (d7.k _ _ hl66 (fun _ z => nomatch z)) hl77 ?_
                exact k4 H7 hs _ pool T6 M7 (X4.woke hh (vis_ok mem7 hd) W6 A6 e6 t6 S6 B7 m7 d7) (((KeepL.mdl d5).trans (KeepL.deed d6)).trans (KeepL.mdl d7)) (by omega)
              · walk_at "w"
          · rw [decide_eq_false hsi]
            walk_at "w"
    · intro U hU
      have U0 : U [some (.ref w), some (.ref md), some (.int z), some (.int c), some (.int i), some v, none] H2 := hU _ _ ⟨rfl, rfl⟩
      obtain ⟨⟨dx2, hob2⟩, -⟩ := id W2
      walk_at "w"
      refine ite2 (fun _ => ?_) (fun _ => ?_)
      · walk_at "w"
        by_cases him : i ∈ hs
        · rw [if_pos him]
          walk_at "w"
        · rw [if_neg him]
          walk_at "w"
          rw [mt_len]
          by_cases h12 : (hs.length : Int) < 12
          · refine iteD h12 ?_
            have O2 : NOk (pool ++ [i]) z.toNat r hs (fun g => (TT g).ns) := X2.X.O.pool fun x hx => List.mem_append_left _ hx
            have hpl : (pool ++ [i]).length < 64 := by rw [List.length_append, List.length_singleton]; omega
            have hps : ∀ x ∈ hs, x ∈ pool ++ [i] := fun x hx => List.mem_append_left _ (X2.X.q x hx)
            have hip : i ∈ pool ++ [i] := List.mem_append_right _ (List.mem_singleton.mpr rfl)
            have hb2 := W2.hb
            have h60 : hs.length < 60 := by omega
            have h12' : hs.length < 12 := by omega
            have cnt : 2 * (pool ++ [i]).length + hs.length ≤ 2 * pool.length + 1 + (hs ++ [i]).length := by
              rw [List.length_append, List.length_append, List.length_singleton]
              omega
            have hvk : ∀ dv, (dv = V.non ∨ ∃ d, dv = V.int d ∧ d ∈ hs ∧ d ∉ sil) → (dv = V.non ∨ ∃ d, dv = V.int d ∧ d ∈ hs) ∧ (dv = V.non ∨ ∃ d, dv = V.int d) ∧ (dv = V.non ∨ ∃ d, dv = V.int d ∧ d ∈ hs ++ [i]) := fun dv h => by
              rcases h with h | ⟨d, h, hd, _⟩
              · exact ⟨.inl h, .inl h, .inl h⟩
              · exact ⟨.inr ⟨d, h, hd⟩, .inr ⟨d, h⟩, .inr ⟨d, h, List.mem_append_left _ hd⟩⟩
            walk_at "w"
            refine ite2 (fun _ => ?_) (fun _ => ?_)
            · have hdv : V.non = V.non ∨ ∃ d, V.non = V.int d ∧ d ∈ hs ∧ d ∉ sil := .inl rfl
              have hdv' : V.non = V.non ∨ ∃ d, V.non = V.int d ∧ d ∈ hs := .inl rfl
              walk_at "w"
              intro l3 vis3 H3 T3 a1 a2 W3 A3 e3 d3 t3 hl3 hnl3 hl33
              obtain ⟨B3, m3, S3⟩ := town_step B2 hmt2 X2.X.S d3
              walk_at "w"
              intro l4 vis4 H4 M4 b1 b2 B4 m4 d4 hl4 hnl4 hl44
              have ev : vis3 = vis4 := VisOf.eq ⟨a1, a2⟩ ⟨b1, b2⟩ (.inl rfl)
              subst ev
              refine eq_of_eqL vis3 (d4.k _ _ hl33 (fun _ z => nomatch z)) hl44 ?_
              exact k2 H4 _ _ _ T3 M4 (X2.come h12' hp60 (VisOf.ok ⟨b1, b2⟩ (.inl rfl)) W3 A3 e3 t3 S3 B4 m4 d4) ((KeepL.deed d3).trans (KeepL.mdl d4)) cnt
            · have hdv' := (hvk v hv).1
              walk_at "w"
              intro l3 vis3 H3 T3 a1 a2 W3 A3 e3 d3 t3 hl3 hnl3 hl33
              obtain ⟨B3, m3, S3⟩ := town_step B2 hmt2 X2.X.S d3
              walk_at "w"
              intro l4 vis4 H4 M4 b1 b2 B4 m4 d4 hl4 hnl4 hl44
              have ev : vis3 = vis4 := VisOf.eq ⟨a1, a2⟩ ⟨b1, b2⟩ (hvk v hv).2.1
              subst ev
              refine eq_of_eqL vis3 (d4.k _ _ hl33 (fun _ z => nomatch z)) hl44 ?_
              exact k2 H4 _ _ _ T3 M4 (X2.come h12' hp60 (VisOf.ok ⟨b1, b2⟩ (hvk v hv).2.2) W3 A3 e3 t3 S3 B4 m4 d4) ((KeepL.deed d3).trans (KeepL.mdl d4)) cnt
          · refine iteDn h12 ?_
            walk_at "w"
      · walk_at "w"
end
local macro_rules | `(tactic| walk_at "fld") => `(tactic| first | exact bF_room _ _ | exact bF_order _ _ | exact bF_full _ _ | exact bF_hears _ _ | exact bF_drops _ _ | exact bF_names _ _ | exact flat_ints _)
local macro_rules | `(tactic| walk_at "fld") => `(tactic| first | exact tF_own _ _ _ _ | exact tF_wide _ _ _ _ | exact tF_room _ _ _ _ | exact tF_buckets _ _ _ _ | exact tF_n1 _ _ _ _ | exact tF_n2 _ _ _ _ | exact tF_n3 _ _ _ _ | exact tF_n4 _ _ _ _ | exact tF_n5 _ _ _ _ | exact tF_n6 _ _ _ _)
local macro_rules | `(tactic| walk_at "fld") => `(tactic| first | exact wF_wide _ _ _ _ | exact wF_room _ _ _ _ | exact wF_tables _ _ _ _ | exact wF_silent _ _ _ _ | exact wF_m _ (by decide +kernel) _ _ _ _ | exact DGet.k (k := Sum.inl _) (by walk_at "hp"))
def spLawT (K : PySem.W.Frag) (tabs : List (Addr × Addr)) : Sp := fun vs H Q _ => ∃ (a : Addr) (ns : List Int), vs = [.ref a] ∧ SqL K H a (ns.map V.int) ∧ ns.length ≤ 63 ∧ (∀ q ∈ tabs, H q.2 = some (.tbl #[])) ∧ ∀ H', Q (.bl true) H'
section
variable {P : Program} {w : World} {K : PySem.W.Frag} {mg : Str → Option Value} {base : Heap}
theorem sc_law : FnScope ["_law_script", "_law_wide_here", "_law_room", "_law_model", "_law_town", "_law_k", "_law_cell"] ["_law_script"] (defScope (top 37)) := ⟨rfl, rfl, rfl, by decide +kernel, rfl, by decide +kernel, by decide +kernel⟩
theorem ok_law (T : Txt mg) (hK : K.In base) (D_NoSize : DfE K mg "NoSize") (D_NoName : DfE K mg "NoName") (D_NoHouse : DfE K mg "NoHouse") (D_Silent : DfE K mg "Silent") (D_Taken : DfE K mg "Taken") (D_is_whole : Df K mg "is_whole" (top 9) ["thing"]) (D_is_name : Df K mg "is_name" (top 10) ["thing", "wide"]) (D_far : Df K mg "far" (top 11) ["one", "other"]) (D_step : Df K mg "step" (top 12) ["one", "other"]) (D_Bucket : DfC K mg "Bucket" ["room", "order"]) (D_Bucket___init__ : DfM K D_Bucket.C "__init__" "Bucket.__init__" (inClass (top 14) 0) ["self", "room"]) (D_Bucket_names : DfM K D_Bucket.C "names" "Bucket.names" (inClass (top 14) 4) ["self"]) (D_Bucket_hears_when_full : DfM K D_Bucket.C "hears_when_full" "Bucket.hears_when_full" (inClass (top 14) 2) ["self", "name", "answers"]) (D_Bucket_hears : DfM K D_Bucket.C "hears" "Bucket.hears" (inClass (top 14) 1) ["self", "name", "answers"]) (D_Table : DfC K mg "Table" ["own", "wide", "room", "buckets"]) (D_Table___init__ : DfM K D_Table.C "__init__" "Table.__init__" (inClass (top 16) 0) ["self", "own", "wide", "room"]) (D_Table_bucket : DfM K D_Table.C "bucket" "Table.bucket" (inClass (top 16) 4) ["self", "k"]) (D_Table_keeps : DfM K D_Table.C "keeps" "Table.keeps" (inClass (top 16) 5) ["self"]) (D_Table_bucket_of : DfM K D_Table.C "bucket_of" "Table.bucket_of" (inClass (top 16) 3) ["self", "name"]) (D_Table_hears : DfM K D_Table.C "hears" "Table.hears" (inClass (top 16) 1) ["self", "name", "answers"]) (D_is_size : Df K mg "is_size" (top 18) ["thing", "most"])
    (D_Town : DfC K mg "Town" ["wide", "room", "tables", "silent"]) (D_Town___init__ : DfM K D_Town.C "__init__" "Town.__init__" (inClass (top 19) 0) ["self", "wide", "room"]) (D_Town_houses : DfM K D_Town.C "houses" "Town.houses" (inClass (top 19) 1) ["self"]) (D_Town_answering : DfM K D_Town.C "answering" "Town.answering" (inClass (top 19) 2) ["self"]) (D_Town_answers : DfM K D_Town.C "answers" "Town.answers" (inClass (top 19) 3) ["self", "name"]) (D_Town_is_house : DfM K D_Town.C "is_house" "Town.is_house" (inClass (top 19) 4) ["self", "thing"]) (D_Town_bucket : DfM K D_Town.C "bucket" "Town.bucket" (inClass (top 19) 5) ["self", "house", "k"]) (D_Town_keeps : DfM K D_Town.C "keeps" "Town.keeps" (inClass (top 19) 6) ["self", "house"]) (D_Town_come_to : DfM K D_Town.C "come_to" "Town.come_to" (inClass (top 19) 8) ["self", "house"]) (D_Town_come : DfMd K D_Town.C "come" "Town.come" (inClass (top 19) 11) ["self", "name", "door"] [Value.none]) (D_Town_go : DfM K D_Town.C "go" "Town.go" (inClass (top 19) 12) ["self", "house"]) (D_Town_hush : DfM K D_Town.C "hush" "Town.hush" (inClass (top 19) 13) ["self", "house"]) (D_Town_wake : DfM K D_Town.C "wake" "Town.wake" (inClass (top 19) 14) ["self", "house", "door"]) (D_Town_check_name : DfM K D_Town.C "check_name" "Town.check_name" (inClass (top 19) 15) ["self", "thing"]) (D_Town_check_house : DfM K D_Town.C "check_house" "Town.check_house" (inClass (top 19) 16) ["self", "thing"]) (D_Town_check_answering : DfM K D_Town.C "check_answering" "Town.check_answering" (inClass (top 19) 17) ["self", "thing"]) (D_Town_settles : DfM K D_Town.C "settles" "Town.settles" (inClass (top 19) 19) ["self", "house", "visited"]) (D_Town_leaves : DfM K D_Town.C "leaves" "Town.leaves" (inClass (top 19) 20) ["self", "house"]) (D_Town_visits : DfM K D_Town.C "visits" "Town.visits" (inClass (top 19) 23) ["self", "house", "door"]) (D_Town_meet : DfM K D_Town.C "meet" "Town.meet" (inClass (top 19) 24) ["self", "one", "other"]) (D_Town_hears_of : DfMF K D_Town.C "hears_of" "Town.hears_of" (inClass (top 19) 25) ["self", "house", "name"]) (hB : base.BuiltinsAt mg D_Town_hears_of.P)
    (D__law_mixed : Df K mg "_law_mixed" (top 21) ["_law_cell", "_law_k"]) (D__law_wide : Df K mg "_law_wide" (top 22) ["_law_cell"]) (D__law_near : Df K mg "_law_near" (top 23) ["_law_signs", "_law_wide_here", "_law_first"]) (D__law_awake : Df K mg "_law_awake" (top 24) ["_law_model", "_law_name_here"]) (D__law_hears : Df K mg "_law_hears" (top 25) ["_law_model", "_law_house", "_law_name_here"]) (D__law_keeps : Df K mg "_law_keeps" (top 26) ["_law_model", "_law_house"]) (D__law_come_to : Df K mg "_law_come_to" (top 27) ["_law_model", "_law_house"]) (D__law_visit : Df K mg "_law_visit" (top 28) ["_law_model", "_law_house", "_law_door"]) (D__law_come : Df K mg "_law_come" (top 29) ["_law_model", "_law_name_here", "_law_door"]) (D__law_alike : Df K mg "_law_alike" (top 30) ["_law_town", "_law_model"]) (D__law_set : Df K mg "_law_set" (top 31) ["_law_script"]) (D__law_some : Df K mg "_law_some" (top 32) ["_law_model", "_law_cell"]) (D__law_name : Df K mg "_law_name" (top 33) ["_law_model", "_law_wide_here", "_law_cell"]) (D__law_reached : Df K mg "_law_reached" (top 34) ["_law_model", "_law_house"]) (D__law_right : Df K mg "_law_right" (top 35) ["_law_town", "_law_model"]) (D__law_deed : Df K mg "_law_deed" (top 36) ["_law_town", "_law_model", "_law_wide_here", "_law_cell"]) (D : Df K mg "law" (top 37) ["_law_script"]) {tabs : List (Addr × Addr)} (ht0 : (D_Town_hears_of.c, D_Town_hears_of.P) ∈ tabs) :
    FnOk P w K mg base CX0 14 D.f D.fd ["_law_script"] (spLawT K tabs) := by
  have hcl := D_Town.cl
  have G_Town___init__ : FnOk P w K mg base CX0 3 _ _ _ _ := ok_Town_init (CB := D_Bucket.C) (CT := D_Table.C) T D_NoSize D_is_whole D_is_size D_Town D_Town___init__
  have G__law_deed : FnOk P w K mg base CX0 13 _ _ _ _ := ok_ldeed T hK D_NoName D_NoHouse D_Silent D_Taken D_is_whole D_is_name D_far D_step D_Bucket D_Bucket___init__ D_Bucket_names D_Bucket_hears_when_full D_Bucket_hears D_Table D_Table___init__ D_Table_keeps D_Table_bucket_of D_Table_hears D_Town D_Town_answers D_Town_is_house D_Town_come_to D_Town_come D_Town_go D_Town_hush D_Town_wake D_Town_check_name D_Town_check_house D_Town_check_answering D_Town_settles D_Town_leaves D_Town_visits D_Town_meet D_Town_hears_of hB D__law_mixed D__law_near D__law_awake D__law_hears D__law_keeps D__law_come_to D__law_visit D__law_come D__law_some D__law_name D__law_deed
  have G__law_right : FnOk P w K mg base CX0 7 _ _ _ _ := ok_lright T D_NoHouse D_Silent D_is_whole D_is_name D_Bucket D_Bucket_names D_Table D_Table_bucket D_Table_keeps D_Town D_Town_is_house D_Town_answers D_Town_check_house D_Town_check_answering D_Town_houses D_Town_answering D_Town_bucket D_Town_keeps D_Town_come_to D__law_awake D__law_keeps D__law_alike D__law_reached D__law_right
  have G__law_set : FnOk P w K mg base CX0 2 _ _ _ _ := ok_lset T D__law_wide D__law_set
  refine D.fn.ok sc_law (fun vs H Q E h => ?_) (fun cdv A outer s H vs Q E hr h => ?_)
  · obtain ⟨a, ns, rfl, _⟩ := h
    rfl
  · obtain ⟨a, ss, rfl, hS, hlen, hT, k⟩ := h
    refine ⟨_, (pss_cons (ps_asg (pe_call G__law_set (hr.mono (by decide)) rfl D__law_set.hm D__law_set.fn.kp D__law_set.b .nil pass0 (pa_cons (pv 0) pa_nil)) (pg_tup (n := 3) rfl (pgs_cons (pg_name (i := 1) sc_law.nd rfl (Or.inl rfl)) (pgs_cons (pg_name (i := 2) sc_law.nd rfl (Or.inl rfl)) (pgs_cons (pg_name (i := 3) sc_law.nd rfl (Or.inl rfl)) pgs_nil)))))
      (pss_cons (ps_set (i := 4) sc_law.nd rfl (Or.inl rfl) (pe_make (DfM.mk' D_Town D_Town___init__) G_Town___init__ (hr.mono (by decide)) rfl D_Town.hm D_Town___init__.b .nil pass0 (pa_cons (pv 1) (pa_cons (pv 2) pa_nil))))
      (pss_cons (ps_for PassesOwn.never rfl (pi_enum rfl T.n_enumerate (pa_cons (pe_op op_cat (pe_lst (pa_cons pe_int (pa_cons pe_int (pa_cons pe_int pa_nil)))) (pe_slice sl_list (pv 0) (po_some pe_int) (po_some pe_int))) pa_nil)) (pg_tup (n := 2) rfl (pgs_cons (pg_name (i := 5) sc_law.nd rfl (Or.inl rfl)) (pgs_cons (pg_name (i := 6) sc_law.nd rfl (Or.inl rfl)) pgs_nil)))
       (pss_cons (ps_if (pt_not (pt_val (pe_call G__law_deed (hr.mono (by decide)) rfl D__law_deed.hm D__law_deed.fn.kp D__law_deed.b .nil pass0 (pa_cons (pv 4) (pa_cons (pv 3) (pa_cons (pv 1) (pa_cons (pe_op op_mod (pv 6) (pe_op op_pow pe_int pe_int)) pa_nil)))))))
         (pss_one (ps_ret pe_bl))
         pss_nil)
        (pss_one (ps_if (PW.pt (pw_and (pt_cmpR op_eq (pe_op op_mod (pv 5) pe_int) pe_int (nomark _)) (pw_and1 (pt_not (pt_val (pe_call G__law_right (hr.mono (by decide)) rfl D__law_right.hm D__law_right.fn.kp D__law_right.b .nil pass0 (pa_cons (pv 4) (pa_cons (pv 3) pa_nil))))))))
         (pss_one (ps_ret pe_bl))
         pss_nil))))
      (pss_one (ps_ret (pe_call G__law_right (hr.mono (by decide)) rfl D__law_right.hm D__law_right.fn.kp D__law_right.b .nil pass0 (pa_cons (pv 4) (pa_cons (pv 3) pa_nil)))))))), ?_⟩
    have hT0 : Tab H D_Town_hears_of.P (laPos lamH) quH := Tab.new (hT _ ht0)
    walk_at "w"
    intro tp md mt mq z r H1 N0 M0 hz1 hz2 hr1 hr2 s1 htp B1 hmt1 hmd hmt hmq
    walk_at "w"
    intro w dx hw hdx hne
    walk_at "w"
    intro td sd H2 T0 W2 htd hsd nts hb2
    have s12 : Same H1 H2 := fun q o e => hb2 q o (by rw [upd_ne (ne_of_none e hw), upd_ne (ne_of_none e hdx)]; exact e) (ne_of_none e hw)
    have old : ∀ {q : Addr}, upd (upd H1 dx (.own w)) w (.ins D_Town.C dx []) q = none → H1 q = none := fun {q} e => by
      cases eq : H1 q with
      | none => rfl
      | some o =>
        rw [upd_ne (ne_of_none eq hw), upd_ne (ne_of_none eq hdx), eq] at e
        cases e
    have s02 := s1.trans s12
    have hS2 := s02.seq hS
    have X2 : Both D_Bucket.C D_Table.C D_Town.C H2 w td sd z r [] [] [] T0 md mt mq M0 := by
      refine ⟨W2, ⟨fun h hh => (nomatch hh), fun h hh => (nomatch hh), fun h hh => (nomatch hh)⟩, ?_, s12 _ _ hmt1, ⟨fun h hh => (nomatch hh), fun h hh => (nomatch hh), fun h hh => (nomatch hh)⟩, by decide, fun x hx => hx, fun q hq ho => ?_⟩
      · have B2 := B1.same s12
        exact ⟨B2.d, B2.t, B2.q, fun h hh => (nomatch hh), fun h hh => (nomatch hh), fun h hh => (nomatch hh), fun h hh => (nomatch hh), fun h hh => (nomatch hh), fun h hh => (nomatch hh), B2.n2, B2.hn, B2.ln, fun h hh => (nomatch hh), B2.zl⟩
      · obtain ⟨o, e⟩ := B1.ex hq
        rcases ho with rfl | rfl | ⟨h, hh, _⟩
        · rw [old htd] at e
          cases e
        · rw [old hsd] at e
          cases e
        · cases hh
    have hT2 : Tab H2 D_Town_hears_of.P (laPos lamH) quH := (s02.but _).2 _ _ hT0
    clear s1 B1 hmt1 hmd hmt hmq hw hdx hne htd hsd nts hb2 s12 old htp
    obtain ⟨ts, ets, hts⟩ := cut_ints ss (some 1) (some 63)
    have hszc : [V.int 0, V.int 1, V.int 4].length + (ts.map V.int).length ≤ sizeLine := by
      rw [List.length_map]
      exact Nat.le_of_lt (small1000 (show 3 + ts.length ≤ 1000 by omega))
    walk_at "w"
    intro p1 hp1
    have hSp : SqL K (upd H2 p1 (.lst [V.int 0, V.int 1, V.int 4])) a (ss.map V.int) := (Same.new H2 hp1).seq hS2
    walk_at "w"
    rw [ets]
    intro p2 hp2
    have np := ne_of_none upd_same hp2
    walk_at "w"
    intro L hL
    generalize hH3 : upd (upd (upd H2 p1 _) p2 _) L _ = H3
    have s3 : Same H2 H3 := by rw [← hH3]; exact (((Same.refl H2).lay hp1).lay hp2).lay hL
    have hL3 : H3 L = some (.lst (([0, 1, 4] ++ ts).map V.int)) := by rw [← hH3, upd_same, List.map_append]; rfl
    have hL0 : H2 L = none := (Same.new H2 hp1).free ((Same.new _ hp2).free hL)
    have X3 := X2.same s3
    have hT3 : Tab H3 D_Town_hears_of.P (laPos lamH) quH := (s3.but _).2 _ _ hT2
    have nL : ¬ Own td sd z.toNat [] T0 L := X2.W.notOwn hL0
    clear hH3 hp1 hp2 hL hSp np X2 hT2 s3 hS2 s02
    walk_at "w"
    have X3' : Stand D_Bucket.C D_Table.C D_Town.C D_Town_hears_of.P H3 w td sd z r [] [] [] T0 md mt mq M0 := ⟨X3, hT3, fun x hx => (nomatch hx), List.nodup_nil, by decide⟩
    have hll : ([0, 1, 4] ++ ts).length ≤ 66 := by
      rw [List.length_append]
      have : ([0, 1, 4] : List Int).length = 3 := rfl
      omega
    refine for_enum (K := K) (a := L) (xs := ([0, 1, 4] ++ ts).map V.int) (fun i σ H4 => Hold (∃ (v5 v6 : Option V) (hs sil pool : List Int) (TT : Int → TRec) (M : Int → MRec), σ = [some (.ref a), some (.int z), some (.int r), some (.ref md), some (.ref w), v5, v6] ∧ Stand D_Bucket.C D_Table.C D_Town.C D_Town_hears_of.P H4 w td sd z r hs sil pool TT md mt mq M ∧ H4 L = some (.lst (([0, 1, 4] ++ ts).map V.int)) ∧ ¬ Own td sd z.toNat hs TT L ∧ 2 * pool.length ≤ i + hs.length)) ⟨⟨_, _, [], [], [], T0, M0, rfl, X3', hL3, nL, by decide⟩⟩ (fun i σ H4 _ ⟨_, _, _, _, _, _, _, _, _, e, _⟩ => SqL.of e) ?_ ?_
    · rintro i y σ H4' tt hi ⟨v5, v6, hs, sil, pool, TT, M, rfl, X4', hL4', nL4, hcnt⟩ htt
      obtain ⟨cell, hcell, rfl⟩ := int_of_get hi
      have hi66 : i < 66 := by
        obtain ⟨h1, _⟩ := List.getElem?_eq_some_iff.mp hi
        rw [List.length_map] at h1
        omega
      have s4 : Same H4' (upd H4' tt (.tup [.int i, .int cell])) := Same.new H4' htt
      have htt4 : upd H4' tt (.tup [.int i, .int cell]) tt = some (.tup [.int i, .int cell]) := upd_same
      have X4 := X4'.same s4
      have hL4 := s4 _ _ hL4'
      generalize upd H4' tt (.tup [.int i, .int cell]) = H4 at s4 htt4 X4 hL4 ⊢
      have c0 : 0 ≤ (cell % 10 ^ (60 : Int).toNat) := Int.emod_nonneg _ (by decide)
      have hp60 : pool.length < 60 := by have := X4.n12; omega
      walk_at "w"
      intro H5 hs5 sil5 pool5 T5 M5 X5 kl cnt
      obtain ⟨hL5, nL5⟩ := kl _ _ hL4 nL4
      have X5' := X5.X
      have cnt' : 2 * pool5.length ≤ i + 1 + hs5.length := by omega
      walk_at "w"
      refine ite2 (fun _ => ?_) (fun _ => ?_)
      · walk_at "w"
        intro H6 s6
        walk_at "w"
        exact ⟨⟨_, _, hs5, sil5, pool5, T5, M5, rfl, X5.same s6, s6 _ _ hL5, nL5, cnt'⟩⟩
      · walk_at "w"
        exact ⟨⟨_, _, hs5, sil5, pool5, T5, M5, rfl, X5, hL5, nL5, cnt'⟩⟩
    · rintro σ H4 ⟨v5, v6, hs, sil, pool, TT, M, rfl, X4, hL4, nL4, hcnt⟩
      have X4' := X4.X
      walk_at "w"
      exact fun H5 _ => k H5
end
local macro_rules | `(tactic| walk_at "fld") => `(tactic| first | exact bF_room _ _ | exact bF_order _ _ | exact bF_full _ _ | exact bF_hears _ _ | exact bF_drops _ _ | exact bF_names _ _ | exact flat_ints _)
local macro_rules | `(tactic| walk_at "fld") => `(tactic| first | exact tF_own _ _ _ _ | exact tF_wide _ _ _ _ | exact tF_room _ _ _ _ | exact tF_buckets _ _ _ _ | exact tF_n1 _ _ _ _ | exact tF_n2 _ _ _ _ | exact tF_n3 _ _ _ _ | exact tF_n4 _ _ _ _ | exact tF_n5 _ _ _ _ | exact tF_n6 _ _ _ _)
local macro_rules | `(tactic| walk_at "fld") => `(tactic| first | exact wF_wide _ _ _ _ | exact wF_room _ _ _ _ | exact wF_tables _ _ _ _ | exact wF_silent _ _ _ _ | exact wF_m _ (by decide +kernel) _ _ _ _ | exact DGet.k (k := Sum.inl _) (by walk_at "hp"))
theorem len_f3 {us : List Value} (h : (us ++ ([] : List Value)).length = 3) : ∃ a b c, us = [a, b, c] := by
  match us, h with
  | [a, b, c], _ => exact ⟨a, b, c, rfl⟩
theorem all_mk {l : PySem.W.OpenLaw} {w : World} {K : PySem.W.Frag} {h : Heap} {mg : Str → Option Value} {ts : List Addr} {fa C0 f0 f1 f2 f3 C1 f4 f5 f6 f7 f8 C2 f9 f10 f11 f12 f13 f14 f15 f16 T17 f17 f18 f19 f20 f21 f22 f23 f24 f25 f26 f27 f28 c28 P28 E0 E1 E2 E3 E4 f29 f30 f31 f32 f33 f34 f35 f36 f37 f38 f39 f40 f41 f42 f43 f44 f45 f46 f47 f48 f49 f50 : Addr} (X : K.In h) (G : h.Ns mainGlobals mg) (hfa : mg "law" = some (.ref fa))
    {od0 an0 od1 an1 od2 an2 od3 an3 od4 an4 od5 an5 od6 an6 od7 an7 od8 an8 od9 an9 od10 an10 od11 an11 od12 an12 od13 an13 od14 an14 od15 an15 od16 an16 td17 od17 an17 od18 an18 od19 an19 od20 an20 od21 an21 od22 an22 od23 an23 od24 an24 od25 an25 od26 an26 od27 an27 od28 an28 qb28 od29 an29 od30 an30 od31 an31 od32 an32 od33 an33 od34 an34 od35 an35 od36 an36 od37 an37 od38 an38 od39 an39 od40 an40 od41 an41 od42 an42 od43 an43 od44 an44 od45 an45 od46 an46 od47 an47 od48 an48 od49 an49 od50 an50 : Option Addr} {sl0 sl1 sl2 sl3 sl4 sl5 sl6 sl7 sl8 sl9 sl10 sl11 sl12 sl13 sl14 sl15 sl16 ts17 sl17 sl18 sl19 sl20 sl21 sl22 sl23 sl24 sl25 sl26 sl27 sl28 qs28 sl29 sl30 sl31 sl32 sl33 sl34 sl35 sl36 sl37 sl38 sl39 sl40 sl41 sl42 sl43 sl44 sl45 sl46 sl47 sl48 sl49 sl50 : Array (Option Value)} {oc0 kV0 dc0 pm0 ct0 cd0 oc1 kV1 dc1 pm1 ct1 cd1 oc2 kV2 dc2 pm2 ct2 cd2 oc3 kV3 dc3 pm3 ct3 cd3 oc4 kV4 dc4 pm4 ct4 cd4 oc5 kV5 dc5 pm5 ct5 cd5 oc6 kV6 dc6 pm6 ct6 cd6 oc7 kV7 dc7 pm7 ct7 cd7 oc8 kV8 dc8 pm8 ct8 cd8 oc9 kV9 dc9 pm9 ct9 cd9 oc10 kV10 dc10 pm10 ct10 cd10 oc11 kV11 dc11 pm11 ct11 cd11 oc12 kV12 dc12 pm12 ct12 cd12 oc13 kV13 dc13 pm13 ct13 cd13 oc14 kV14 dc14 pm14 ct14 cd14 oc15 kV15 dc15 pm15 ct15 cd15 oc16 kV16 dc16 pm16 ct16 cd16 to17 oc17 kV17 dc17 pm17 ct17 cd17 oc18 kV18 dc18 pm18 ct18 cd18 oc19 kV19 dc19 pm19 ct19 cd19 oc20 kV20 dc20 pm20 ct20 cd20 oc21 kV21 dc21 pm21 ct21 cd21 oc22 kV22 dc22 pm22 ct22 cd22 oc23 kV23 dc23 pm23 ct23 cd23 oc24 kV24 dc24 pm24 ct24 cd24 oc25 kV25 dc25 pm25 ct25 cd25 oc26 kV26 dc26 pm26 ct26 cd26 oc27 kV27 dc27 pm27 ct27 cd27 oc28 kV28 dc28 pm28 ct28 qa28 oc29 kV29 dc29 pm29 ct29 cd29 oc30 kV30 dc30 pm30 ct30 cd30 oc31 kV31 dc31 pm31 ct31 cd31 oc32 kV32 dc32 pm32 ct32 cd32 oc33 kV33 dc33 pm33 ct33 cd33 oc34 kV34 dc34 pm34 ct34 cd34 oc35 kV35 dc35 pm35 ct35 cd35 oc36 kV36 dc36 pm36 ct36 cd36 oc37 kV37 dc37 pm37 ct37 cd37 oc38 kV38 dc38 pm38 ct38 cd38 oc39 kV39 dc39 pm39 ct39 cd39 oc40 kV40 dc40 pm40 ct40 cd40 oc41 kV41 dc41 pm41 ct41 cd41 oc42 kV42 dc42 pm42 ct42 cd42 oc43 kV43 dc43 pm43 ct43 cd43 oc44 kV44 dc44 pm44 ct44 cd44 oc45 kV45 dc45 pm45 ct45 cd45 oc46 kV46 dc46 pm46 ct46 cd46 oc47 kV47 dc47 pm47 ct47 cd47 oc48 kV48 dc48 pm48 ct48 cd48 oc49 kV49 dc49 pm49 ct49 cd49 oc50 kV50 dc50 pm50 ct50 cd50 : Value} {qv28 : Array Value} {tn17 : Nat}
    (aC0 : PySem.W.nsIn K mainGlobals "Bucket" = some (some (.ref C0))) (pg0 : PySem.W.plainGet K C0 Str.empty = true) (hd0 : PySem.W.hasDictIn K C0 = true) (po0 : PySem.W.plainOver K C0 = true) (sa0 : PySem.W.findIn K (.ref C0) "__setattr__" = some (some (.builtin "object.__setattr__"))) (mk0 : PySem.W.makesIn K C0 = true) (kc0 : PySem.W.keepIn K (.ref C0) = true)
    (na0_0 : PySem.W.findIn K (.ref C0) "room" = some none)
    (na0_1 : PySem.W.findIn K (.ref C0) "order" = some none)
    (a0 : PySem.W.findIn K (.ref C0) "__init__" = some (some (.ref f0)))
    (i0 : PySem.W.isFn K (.ref f0) = true)
    (l0 : K.lookup f0 = some ⟨oc0, od0, .func (PySem.W.fnOf "__init__" "Bucket.__init__" (defArgs (inClass (top 14) 0)) (defBody (inClass (top 14) 0)) (defScope (inClass (top 14) 0)) .none kV0 dc0 pm0 an0 cd0 ct0), sl0⟩)
    (e0 : PySem.W.codeIn K cd0 "Bucket.__init__" = true) (k0 : PySem.W.keepIn K (.ref f0) = true)
    (a1 : PySem.W.findIn K (.ref C0) "names" = some (some (.ref f1)))
    (i1 : PySem.W.isFn K (.ref f1) = true)
    (l1 : K.lookup f1 = some ⟨oc1, od1, .func (PySem.W.fnOf "names" "Bucket.names" (defArgs (inClass (top 14) 4)) (defBody (inClass (top 14) 4)) (defScope (inClass (top 14) 4)) .none kV1 dc1 pm1 an1 cd1 ct1), sl1⟩)
    (e1 : PySem.W.codeIn K cd1 "Bucket.names" = true) (k1 : PySem.W.keepIn K (.ref f1) = true)
    (a2 : PySem.W.findIn K (.ref C0) "hears_when_full" = some (some (.ref f2)))
    (i2 : PySem.W.isFn K (.ref f2) = true)
    (l2 : K.lookup f2 = some ⟨oc2, od2, .func (PySem.W.fnOf "hears_when_full" "Bucket.hears_when_full" (defArgs (inClass (top 14) 2)) (defBody (inClass (top 14) 2)) (defScope (inClass (top 14) 2)) .none kV2 dc2 pm2 an2 cd2 ct2), sl2⟩)
    (e2 : PySem.W.codeIn K cd2 "Bucket.hears_when_full" = true) (k2 : PySem.W.keepIn K (.ref f2) = true)
    (a3 : PySem.W.findIn K (.ref C0) "hears" = some (some (.ref f3)))
    (i3 : PySem.W.isFn K (.ref f3) = true)
    (l3 : K.lookup f3 = some ⟨oc3, od3, .func (PySem.W.fnOf "hears" "Bucket.hears" (defArgs (inClass (top 14) 1)) (defBody (inClass (top 14) 1)) (defScope (inClass (top 14) 1)) .none kV3 dc3 pm3 an3 cd3 ct3), sl3⟩)
    (e3 : PySem.W.codeIn K cd3 "Bucket.hears" = true) (k3 : PySem.W.keepIn K (.ref f3) = true)
    (aC1 : PySem.W.nsIn K mainGlobals "Table" = some (some (.ref C1))) (pg1 : PySem.W.plainGet K C1 Str.empty = true) (hd1 : PySem.W.hasDictIn K C1 = true) (po1 : PySem.W.plainOver K C1 = true) (sa1 : PySem.W.findIn K (.ref C1) "__setattr__" = some (some (.builtin "object.__setattr__"))) (mk1 : PySem.W.makesIn K C1 = true) (kc1 : PySem.W.keepIn K (.ref C1) = true)
    (na1_0 : PySem.W.findIn K (.ref C1) "own" = some none)
    (na1_1 : PySem.W.findIn K (.ref C1) "wide" = some none)
    (na1_2 : PySem.W.findIn K (.ref C1) "room" = some none)
    (na1_3 : PySem.W.findIn K (.ref C1) "buckets" = some none)
    (a4 : PySem.W.findIn K (.ref C1) "__init__" = some (some (.ref f4)))
    (i4 : PySem.W.isFn K (.ref f4) = true)
    (l4 : K.lookup f4 = some ⟨oc4, od4, .func (PySem.W.fnOf "__init__" "Table.__init__" (defArgs (inClass (top 16) 0)) (defBody (inClass (top 16) 0)) (defScope (inClass (top 16) 0)) .none kV4 dc4 pm4 an4 cd4 ct4), sl4⟩)
    (e4 : PySem.W.codeIn K cd4 "Table.__init__" = true) (k4 : PySem.W.keepIn K (.ref f4) = true)
    (a5 : PySem.W.findIn K (.ref C1) "bucket" = some (some (.ref f5)))
    (i5 : PySem.W.isFn K (.ref f5) = true)
    (l5 : K.lookup f5 = some ⟨oc5, od5, .func (PySem.W.fnOf "bucket" "Table.bucket" (defArgs (inClass (top 16) 4)) (defBody (inClass (top 16) 4)) (defScope (inClass (top 16) 4)) .none kV5 dc5 pm5 an5 cd5 ct5), sl5⟩)
    (e5 : PySem.W.codeIn K cd5 "Table.bucket" = true) (k5 : PySem.W.keepIn K (.ref f5) = true)
    (a6 : PySem.W.findIn K (.ref C1) "keeps" = some (some (.ref f6)))
    (i6 : PySem.W.isFn K (.ref f6) = true)
    (l6 : K.lookup f6 = some ⟨oc6, od6, .func (PySem.W.fnOf "keeps" "Table.keeps" (defArgs (inClass (top 16) 5)) (defBody (inClass (top 16) 5)) (defScope (inClass (top 16) 5)) .none kV6 dc6 pm6 an6 cd6 ct6), sl6⟩)
    (e6 : PySem.W.codeIn K cd6 "Table.keeps" = true) (k6 : PySem.W.keepIn K (.ref f6) = true)
    (a7 : PySem.W.findIn K (.ref C1) "bucket_of" = some (some (.ref f7)))
    (i7 : PySem.W.isFn K (.ref f7) = true)
    (l7 : K.lookup f7 = some ⟨oc7, od7, .func (PySem.W.fnOf "bucket_of" "Table.bucket_of" (defArgs (inClass (top 16) 3)) (defBody (inClass (top 16) 3)) (defScope (inClass (top 16) 3)) .none kV7 dc7 pm7 an7 cd7 ct7), sl7⟩)
    (e7 : PySem.W.codeIn K cd7 "Table.bucket_of" = true) (k7 : PySem.W.keepIn K (.ref f7) = true)
    (a8 : PySem.W.findIn K (.ref C1) "hears" = some (some (.ref f8)))
    (i8 : PySem.W.isFn K (.ref f8) = true)
    (l8 : K.lookup f8 = some ⟨oc8, od8, .func (PySem.W.fnOf "hears" "Table.hears" (defArgs (inClass (top 16) 1)) (defBody (inClass (top 16) 1)) (defScope (inClass (top 16) 1)) .none kV8 dc8 pm8 an8 cd8 ct8), sl8⟩)
    (e8 : PySem.W.codeIn K cd8 "Table.hears" = true) (k8 : PySem.W.keepIn K (.ref f8) = true)
    (aC2 : PySem.W.nsIn K mainGlobals "Town" = some (some (.ref C2))) (pg2 : PySem.W.plainGet K C2 Str.empty = true) (hd2 : PySem.W.hasDictIn K C2 = true) (po2 : PySem.W.plainOver K C2 = true) (sa2 : PySem.W.findIn K (.ref C2) "__setattr__" = some (some (.builtin "object.__setattr__"))) (mk2 : PySem.W.makesIn K C2 = true) (kc2 : PySem.W.keepIn K (.ref C2) = true)
    (na2_0 : PySem.W.findIn K (.ref C2) "wide" = some none)
    (na2_1 : PySem.W.findIn K (.ref C2) "room" = some none)
    (na2_2 : PySem.W.findIn K (.ref C2) "tables" = some none)
    (na2_3 : PySem.W.findIn K (.ref C2) "silent" = some none)
    (a9 : PySem.W.findIn K (.ref C2) "__init__" = some (some (.ref f9)))
    (i9 : PySem.W.isFn K (.ref f9) = true)
    (l9 : K.lookup f9 = some ⟨oc9, od9, .func (PySem.W.fnOf "__init__" "Town.__init__" (defArgs (inClass (top 19) 0)) (defBody (inClass (top 19) 0)) (defScope (inClass (top 19) 0)) .none kV9 dc9 pm9 an9 cd9 ct9), sl9⟩)
    (e9 : PySem.W.codeIn K cd9 "Town.__init__" = true) (k9 : PySem.W.keepIn K (.ref f9) = true)
    (a10 : PySem.W.findIn K (.ref C2) "houses" = some (some (.ref f10)))
    (i10 : PySem.W.isFn K (.ref f10) = true)
    (l10 : K.lookup f10 = some ⟨oc10, od10, .func (PySem.W.fnOf "houses" "Town.houses" (defArgs (inClass (top 19) 1)) (defBody (inClass (top 19) 1)) (defScope (inClass (top 19) 1)) .none kV10 dc10 pm10 an10 cd10 ct10), sl10⟩)
    (e10 : PySem.W.codeIn K cd10 "Town.houses" = true) (k10 : PySem.W.keepIn K (.ref f10) = true)
    (a11 : PySem.W.findIn K (.ref C2) "answering" = some (some (.ref f11)))
    (i11 : PySem.W.isFn K (.ref f11) = true)
    (l11 : K.lookup f11 = some ⟨oc11, od11, .func (PySem.W.fnOf "answering" "Town.answering" (defArgs (inClass (top 19) 2)) (defBody (inClass (top 19) 2)) (defScope (inClass (top 19) 2)) .none kV11 dc11 pm11 an11 cd11 ct11), sl11⟩)
    (e11 : PySem.W.codeIn K cd11 "Town.answering" = true) (k11 : PySem.W.keepIn K (.ref f11) = true)
    (a12 : PySem.W.findIn K (.ref C2) "answers" = some (some (.ref f12)))
    (i12 : PySem.W.isFn K (.ref f12) = true)
    (l12 : K.lookup f12 = some ⟨oc12, od12, .func (PySem.W.fnOf "answers" "Town.answers" (defArgs (inClass (top 19) 3)) (defBody (inClass (top 19) 3)) (defScope (inClass (top 19) 3)) .none kV12 dc12 pm12 an12 cd12 ct12), sl12⟩)
    (e12 : PySem.W.codeIn K cd12 "Town.answers" = true) (k12 : PySem.W.keepIn K (.ref f12) = true)
    (a13 : PySem.W.findIn K (.ref C2) "is_house" = some (some (.ref f13)))
    (i13 : PySem.W.isFn K (.ref f13) = true)
    (l13 : K.lookup f13 = some ⟨oc13, od13, .func (PySem.W.fnOf "is_house" "Town.is_house" (defArgs (inClass (top 19) 4)) (defBody (inClass (top 19) 4)) (defScope (inClass (top 19) 4)) .none kV13 dc13 pm13 an13 cd13 ct13), sl13⟩)
    (e13 : PySem.W.codeIn K cd13 "Town.is_house" = true) (k13 : PySem.W.keepIn K (.ref f13) = true)
    (a14 : PySem.W.findIn K (.ref C2) "bucket" = some (some (.ref f14)))
    (i14 : PySem.W.isFn K (.ref f14) = true)
    (l14 : K.lookup f14 = some ⟨oc14, od14, .func (PySem.W.fnOf "bucket" "Town.bucket" (defArgs (inClass (top 19) 5)) (defBody (inClass (top 19) 5)) (defScope (inClass (top 19) 5)) .none kV14 dc14 pm14 an14 cd14 ct14), sl14⟩)
    (e14 : PySem.W.codeIn K cd14 "Town.bucket" = true) (k14 : PySem.W.keepIn K (.ref f14) = true)
    (a15 : PySem.W.findIn K (.ref C2) "keeps" = some (some (.ref f15)))
    (i15 : PySem.W.isFn K (.ref f15) = true)
    (l15 : K.lookup f15 = some ⟨oc15, od15, .func (PySem.W.fnOf "keeps" "Town.keeps" (defArgs (inClass (top 19) 6)) (defBody (inClass (top 19) 6)) (defScope (inClass (top 19) 6)) .none kV15 dc15 pm15 an15 cd15 ct15), sl15⟩)
    (e15 : PySem.W.codeIn K cd15 "Town.keeps" = true) (k15 : PySem.W.keepIn K (.ref f15) = true)
    (a16 : PySem.W.findIn K (.ref C2) "come_to" = some (some (.ref f16)))
    (i16 : PySem.W.isFn K (.ref f16) = true)
    (l16 : K.lookup f16 = some ⟨oc16, od16, .func (PySem.W.fnOf "come_to" "Town.come_to" (defArgs (inClass (top 19) 8)) (defBody (inClass (top 19) 8)) (defScope (inClass (top 19) 8)) .none kV16 dc16 pm16 an16 cd16 ct16), sl16⟩)
    (e16 : PySem.W.codeIn K cd16 "Town.come_to" = true) (k16 : PySem.W.keepIn K (.ref f16) = true)
    (a17 : PySem.W.findIn K (.ref C2) "come" = some (some (.ref f17)))
    (i17 : PySem.W.isFn K (.ref f17) = true)
    (l17 : K.lookup f17 = some ⟨oc17, od17, .func (PySem.W.fnOf "come" "Town.come" (defArgs (inClass (top 19) 11)) (defBody (inClass (top 19) 11)) (defScope (inClass (top 19) 11)) (.ref T17) kV17 dc17 pm17 an17 cd17 ct17), sl17⟩)
    (ld17 : K.lookup T17 = some ⟨to17, td17, .seq #[Value.none] tn17, ts17⟩)
    (e17 : PySem.W.codeIn K cd17 "Town.come" = true) (k17 : PySem.W.keepIn K (.ref f17) = true)
    (a18 : PySem.W.findIn K (.ref C2) "go" = some (some (.ref f18)))
    (i18 : PySem.W.isFn K (.ref f18) = true)
    (l18 : K.lookup f18 = some ⟨oc18, od18, .func (PySem.W.fnOf "go" "Town.go" (defArgs (inClass (top 19) 12)) (defBody (inClass (top 19) 12)) (defScope (inClass (top 19) 12)) .none kV18 dc18 pm18 an18 cd18 ct18), sl18⟩)
    (e18 : PySem.W.codeIn K cd18 "Town.go" = true) (k18 : PySem.W.keepIn K (.ref f18) = true)
    (a19 : PySem.W.findIn K (.ref C2) "hush" = some (some (.ref f19)))
    (i19 : PySem.W.isFn K (.ref f19) = true)
    (l19 : K.lookup f19 = some ⟨oc19, od19, .func (PySem.W.fnOf "hush" "Town.hush" (defArgs (inClass (top 19) 13)) (defBody (inClass (top 19) 13)) (defScope (inClass (top 19) 13)) .none kV19 dc19 pm19 an19 cd19 ct19), sl19⟩)
    (e19 : PySem.W.codeIn K cd19 "Town.hush" = true) (k19 : PySem.W.keepIn K (.ref f19) = true)
    (a20 : PySem.W.findIn K (.ref C2) "wake" = some (some (.ref f20)))
    (i20 : PySem.W.isFn K (.ref f20) = true)
    (l20 : K.lookup f20 = some ⟨oc20, od20, .func (PySem.W.fnOf "wake" "Town.wake" (defArgs (inClass (top 19) 14)) (defBody (inClass (top 19) 14)) (defScope (inClass (top 19) 14)) .none kV20 dc20 pm20 an20 cd20 ct20), sl20⟩)
    (e20 : PySem.W.codeIn K cd20 "Town.wake" = true) (k20 : PySem.W.keepIn K (.ref f20) = true)
    (a21 : PySem.W.findIn K (.ref C2) "check_name" = some (some (.ref f21)))
    (i21 : PySem.W.isFn K (.ref f21) = true)
    (l21 : K.lookup f21 = some ⟨oc21, od21, .func (PySem.W.fnOf "check_name" "Town.check_name" (defArgs (inClass (top 19) 15)) (defBody (inClass (top 19) 15)) (defScope (inClass (top 19) 15)) .none kV21 dc21 pm21 an21 cd21 ct21), sl21⟩)
    (e21 : PySem.W.codeIn K cd21 "Town.check_name" = true) (k21 : PySem.W.keepIn K (.ref f21) = true)
    (a22 : PySem.W.findIn K (.ref C2) "check_house" = some (some (.ref f22)))
    (i22 : PySem.W.isFn K (.ref f22) = true)
    (l22 : K.lookup f22 = some ⟨oc22, od22, .func (PySem.W.fnOf "check_house" "Town.check_house" (defArgs (inClass (top 19) 16)) (defBody (inClass (top 19) 16)) (defScope (inClass (top 19) 16)) .none kV22 dc22 pm22 an22 cd22 ct22), sl22⟩)
    (e22 : PySem.W.codeIn K cd22 "Town.check_house" = true) (k22 : PySem.W.keepIn K (.ref f22) = true)
    (a23 : PySem.W.findIn K (.ref C2) "check_answering" = some (some (.ref f23)))
    (i23 : PySem.W.isFn K (.ref f23) = true)
    (l23 : K.lookup f23 = some ⟨oc23, od23, .func (PySem.W.fnOf "check_answering" "Town.check_answering" (defArgs (inClass (top 19) 17)) (defBody (inClass (top 19) 17)) (defScope (inClass (top 19) 17)) .none kV23 dc23 pm23 an23 cd23 ct23), sl23⟩)
    (e23 : PySem.W.codeIn K cd23 "Town.check_answering" = true) (k23 : PySem.W.keepIn K (.ref f23) = true)
    (a24 : PySem.W.findIn K (.ref C2) "settles" = some (some (.ref f24)))
    (i24 : PySem.W.isFn K (.ref f24) = true)
    (l24 : K.lookup f24 = some ⟨oc24, od24, .func (PySem.W.fnOf "settles" "Town.settles" (defArgs (inClass (top 19) 19)) (defBody (inClass (top 19) 19)) (defScope (inClass (top 19) 19)) .none kV24 dc24 pm24 an24 cd24 ct24), sl24⟩)
    (e24 : PySem.W.codeIn K cd24 "Town.settles" = true) (k24 : PySem.W.keepIn K (.ref f24) = true)
    (a25 : PySem.W.findIn K (.ref C2) "leaves" = some (some (.ref f25)))
    (i25 : PySem.W.isFn K (.ref f25) = true)
    (l25 : K.lookup f25 = some ⟨oc25, od25, .func (PySem.W.fnOf "leaves" "Town.leaves" (defArgs (inClass (top 19) 20)) (defBody (inClass (top 19) 20)) (defScope (inClass (top 19) 20)) .none kV25 dc25 pm25 an25 cd25 ct25), sl25⟩)
    (e25 : PySem.W.codeIn K cd25 "Town.leaves" = true) (k25 : PySem.W.keepIn K (.ref f25) = true)
    (a26 : PySem.W.findIn K (.ref C2) "visits" = some (some (.ref f26)))
    (i26 : PySem.W.isFn K (.ref f26) = true)
    (l26 : K.lookup f26 = some ⟨oc26, od26, .func (PySem.W.fnOf "visits" "Town.visits" (defArgs (inClass (top 19) 23)) (defBody (inClass (top 19) 23)) (defScope (inClass (top 19) 23)) .none kV26 dc26 pm26 an26 cd26 ct26), sl26⟩)
    (e26 : PySem.W.codeIn K cd26 "Town.visits" = true) (k26 : PySem.W.keepIn K (.ref f26) = true)
    (a27 : PySem.W.findIn K (.ref C2) "meet" = some (some (.ref f27)))
    (i27 : PySem.W.isFn K (.ref f27) = true)
    (l27 : K.lookup f27 = some ⟨oc27, od27, .func (PySem.W.fnOf "meet" "Town.meet" (defArgs (inClass (top 19) 24)) (defBody (inClass (top 19) 24)) (defScope (inClass (top 19) 24)) .none kV27 dc27 pm27 an27 cd27 ct27), sl27⟩)
    (e27 : PySem.W.codeIn K cd27 "Town.meet" = true) (k27 : PySem.W.keepIn K (.ref f27) = true)
    (a28 : PySem.W.findIn K (.ref C2) "hears_of" = some (some (.ref f28)))
    (i28 : PySem.W.isFn K (.ref f28) = true)
    (l28 : K.lookup f28 = some ⟨oc28, od28, .func (PySem.W.fnOf "hears_of" "Town.hears_of" (defArgs (inClass (top 19) 25)) (defBody (inClass (top 19) 25)) (defScope (inClass (top 19) 25)) .none kV28 dc28 pm28 an28 (.ref c28) ct28), sl28⟩)
    (e28 : PySem.W.codeIn K (.ref c28) "Town.hears_of" = true) (k28 : PySem.W.keepIn K (.ref f28) = true)
    (t28 : K.lookup c28 = some ⟨qa28, qb28, .fields qv28, qs28⟩) (r28 : (qv28[11]? : Option Value) = some (.ref P28))
    (h28 : PySem.W.codeHdIn K c28 P28 = true) (n28 : K.lookup P28 = none) (m28 : P28 ∈ ts)
    (aE0 : PySem.W.nsIn K mainGlobals "NoSize" = some (some (.ref E0))) (xE0 : PySem.W.excIn K E0 bmV "ValueError.__new__" = true)
    (aE1 : PySem.W.nsIn K mainGlobals "NoName" = some (some (.ref E1))) (xE1 : PySem.W.excIn K E1 bmV "ValueError.__new__" = true)
    (aE2 : PySem.W.nsIn K mainGlobals "NoHouse" = some (some (.ref E2))) (xE2 : PySem.W.excIn K E2 bmV "ValueError.__new__" = true)
    (aE3 : PySem.W.nsIn K mainGlobals "Silent" = some (some (.ref E3))) (xE3 : PySem.W.excIn K E3 bmV "ValueError.__new__" = true)
    (aE4 : PySem.W.nsIn K mainGlobals "Taken" = some (some (.ref E4))) (xE4 : PySem.W.excIn K E4 bmV "ValueError.__new__" = true)
    (a29 : PySem.W.nsIn K mainGlobals "is_whole" = some (some (.ref f29)))
    (l29 : K.lookup f29 = some ⟨oc29, od29, .func (PySem.W.fnOf "is_whole" "is_whole" (defArgs (top 9)) (defBody (top 9)) (defScope (top 9)) .none kV29 dc29 pm29 an29 cd29 ct29), sl29⟩)
    (e29 : PySem.W.codeIn K cd29 "is_whole" = true) (k29 : PySem.W.keepIn K (.ref f29) = true)
    (a30 : PySem.W.nsIn K mainGlobals "is_name" = some (some (.ref f30)))
    (l30 : K.lookup f30 = some ⟨oc30, od30, .func (PySem.W.fnOf "is_name" "is_name" (defArgs (top 10)) (defBody (top 10)) (defScope (top 10)) .none kV30 dc30 pm30 an30 cd30 ct30), sl30⟩)
    (e30 : PySem.W.codeIn K cd30 "is_name" = true) (k30 : PySem.W.keepIn K (.ref f30) = true)
    (a31 : PySem.W.nsIn K mainGlobals "far" = some (some (.ref f31)))
    (l31 : K.lookup f31 = some ⟨oc31, od31, .func (PySem.W.fnOf "far" "far" (defArgs (top 11)) (defBody (top 11)) (defScope (top 11)) .none kV31 dc31 pm31 an31 cd31 ct31), sl31⟩)
    (e31 : PySem.W.codeIn K cd31 "far" = true) (k31 : PySem.W.keepIn K (.ref f31) = true)
    (a32 : PySem.W.nsIn K mainGlobals "step" = some (some (.ref f32)))
    (l32 : K.lookup f32 = some ⟨oc32, od32, .func (PySem.W.fnOf "step" "step" (defArgs (top 12)) (defBody (top 12)) (defScope (top 12)) .none kV32 dc32 pm32 an32 cd32 ct32), sl32⟩)
    (e32 : PySem.W.codeIn K cd32 "step" = true) (k32 : PySem.W.keepIn K (.ref f32) = true)
    (a33 : PySem.W.nsIn K mainGlobals "is_size" = some (some (.ref f33)))
    (l33 : K.lookup f33 = some ⟨oc33, od33, .func (PySem.W.fnOf "is_size" "is_size" (defArgs (top 18)) (defBody (top 18)) (defScope (top 18)) .none kV33 dc33 pm33 an33 cd33 ct33), sl33⟩)
    (e33 : PySem.W.codeIn K cd33 "is_size" = true) (k33 : PySem.W.keepIn K (.ref f33) = true)
    (a34 : PySem.W.nsIn K mainGlobals "_law_mixed" = some (some (.ref f34)))
    (l34 : K.lookup f34 = some ⟨oc34, od34, .func (PySem.W.fnOf "_law_mixed" "_law_mixed" (defArgs (top 21)) (defBody (top 21)) (defScope (top 21)) .none kV34 dc34 pm34 an34 cd34 ct34), sl34⟩)
    (e34 : PySem.W.codeIn K cd34 "_law_mixed" = true) (k34 : PySem.W.keepIn K (.ref f34) = true)
    (a35 : PySem.W.nsIn K mainGlobals "_law_wide" = some (some (.ref f35)))
    (l35 : K.lookup f35 = some ⟨oc35, od35, .func (PySem.W.fnOf "_law_wide" "_law_wide" (defArgs (top 22)) (defBody (top 22)) (defScope (top 22)) .none kV35 dc35 pm35 an35 cd35 ct35), sl35⟩)
    (e35 : PySem.W.codeIn K cd35 "_law_wide" = true) (k35 : PySem.W.keepIn K (.ref f35) = true)
    (a36 : PySem.W.nsIn K mainGlobals "_law_near" = some (some (.ref f36)))
    (l36 : K.lookup f36 = some ⟨oc36, od36, .func (PySem.W.fnOf "_law_near" "_law_near" (defArgs (top 23)) (defBody (top 23)) (defScope (top 23)) .none kV36 dc36 pm36 an36 cd36 ct36), sl36⟩)
    (e36 : PySem.W.codeIn K cd36 "_law_near" = true) (k36 : PySem.W.keepIn K (.ref f36) = true)
    (a37 : PySem.W.nsIn K mainGlobals "_law_awake" = some (some (.ref f37)))
    (l37 : K.lookup f37 = some ⟨oc37, od37, .func (PySem.W.fnOf "_law_awake" "_law_awake" (defArgs (top 24)) (defBody (top 24)) (defScope (top 24)) .none kV37 dc37 pm37 an37 cd37 ct37), sl37⟩)
    (e37 : PySem.W.codeIn K cd37 "_law_awake" = true) (k37 : PySem.W.keepIn K (.ref f37) = true)
    (a38 : PySem.W.nsIn K mainGlobals "_law_hears" = some (some (.ref f38)))
    (l38 : K.lookup f38 = some ⟨oc38, od38, .func (PySem.W.fnOf "_law_hears" "_law_hears" (defArgs (top 25)) (defBody (top 25)) (defScope (top 25)) .none kV38 dc38 pm38 an38 cd38 ct38), sl38⟩)
    (e38 : PySem.W.codeIn K cd38 "_law_hears" = true) (k38 : PySem.W.keepIn K (.ref f38) = true)
    (a39 : PySem.W.nsIn K mainGlobals "_law_keeps" = some (some (.ref f39)))
    (l39 : K.lookup f39 = some ⟨oc39, od39, .func (PySem.W.fnOf "_law_keeps" "_law_keeps" (defArgs (top 26)) (defBody (top 26)) (defScope (top 26)) .none kV39 dc39 pm39 an39 cd39 ct39), sl39⟩)
    (e39 : PySem.W.codeIn K cd39 "_law_keeps" = true) (k39 : PySem.W.keepIn K (.ref f39) = true)
    (a40 : PySem.W.nsIn K mainGlobals "_law_come_to" = some (some (.ref f40)))
    (l40 : K.lookup f40 = some ⟨oc40, od40, .func (PySem.W.fnOf "_law_come_to" "_law_come_to" (defArgs (top 27)) (defBody (top 27)) (defScope (top 27)) .none kV40 dc40 pm40 an40 cd40 ct40), sl40⟩)
    (e40 : PySem.W.codeIn K cd40 "_law_come_to" = true) (k40 : PySem.W.keepIn K (.ref f40) = true)
    (a41 : PySem.W.nsIn K mainGlobals "_law_visit" = some (some (.ref f41)))
    (l41 : K.lookup f41 = some ⟨oc41, od41, .func (PySem.W.fnOf "_law_visit" "_law_visit" (defArgs (top 28)) (defBody (top 28)) (defScope (top 28)) .none kV41 dc41 pm41 an41 cd41 ct41), sl41⟩)
    (e41 : PySem.W.codeIn K cd41 "_law_visit" = true) (k41 : PySem.W.keepIn K (.ref f41) = true)
    (a42 : PySem.W.nsIn K mainGlobals "_law_come" = some (some (.ref f42)))
    (l42 : K.lookup f42 = some ⟨oc42, od42, .func (PySem.W.fnOf "_law_come" "_law_come" (defArgs (top 29)) (defBody (top 29)) (defScope (top 29)) .none kV42 dc42 pm42 an42 cd42 ct42), sl42⟩)
    (e42 : PySem.W.codeIn K cd42 "_law_come" = true) (k42 : PySem.W.keepIn K (.ref f42) = true)
    (a43 : PySem.W.nsIn K mainGlobals "_law_alike" = some (some (.ref f43)))
    (l43 : K.lookup f43 = some ⟨oc43, od43, .func (PySem.W.fnOf "_law_alike" "_law_alike" (defArgs (top 30)) (defBody (top 30)) (defScope (top 30)) .none kV43 dc43 pm43 an43 cd43 ct43), sl43⟩)
    (e43 : PySem.W.codeIn K cd43 "_law_alike" = true) (k43 : PySem.W.keepIn K (.ref f43) = true)
    (a44 : PySem.W.nsIn K mainGlobals "_law_set" = some (some (.ref f44)))
    (l44 : K.lookup f44 = some ⟨oc44, od44, .func (PySem.W.fnOf "_law_set" "_law_set" (defArgs (top 31)) (defBody (top 31)) (defScope (top 31)) .none kV44 dc44 pm44 an44 cd44 ct44), sl44⟩)
    (e44 : PySem.W.codeIn K cd44 "_law_set" = true) (k44 : PySem.W.keepIn K (.ref f44) = true)
    (a45 : PySem.W.nsIn K mainGlobals "_law_some" = some (some (.ref f45)))
    (l45 : K.lookup f45 = some ⟨oc45, od45, .func (PySem.W.fnOf "_law_some" "_law_some" (defArgs (top 32)) (defBody (top 32)) (defScope (top 32)) .none kV45 dc45 pm45 an45 cd45 ct45), sl45⟩)
    (e45 : PySem.W.codeIn K cd45 "_law_some" = true) (k45 : PySem.W.keepIn K (.ref f45) = true)
    (a46 : PySem.W.nsIn K mainGlobals "_law_name" = some (some (.ref f46)))
    (l46 : K.lookup f46 = some ⟨oc46, od46, .func (PySem.W.fnOf "_law_name" "_law_name" (defArgs (top 33)) (defBody (top 33)) (defScope (top 33)) .none kV46 dc46 pm46 an46 cd46 ct46), sl46⟩)
    (e46 : PySem.W.codeIn K cd46 "_law_name" = true) (k46 : PySem.W.keepIn K (.ref f46) = true)
    (a47 : PySem.W.nsIn K mainGlobals "_law_reached" = some (some (.ref f47)))
    (l47 : K.lookup f47 = some ⟨oc47, od47, .func (PySem.W.fnOf "_law_reached" "_law_reached" (defArgs (top 34)) (defBody (top 34)) (defScope (top 34)) .none kV47 dc47 pm47 an47 cd47 ct47), sl47⟩)
    (e47 : PySem.W.codeIn K cd47 "_law_reached" = true) (k47 : PySem.W.keepIn K (.ref f47) = true)
    (a48 : PySem.W.nsIn K mainGlobals "_law_right" = some (some (.ref f48)))
    (l48 : K.lookup f48 = some ⟨oc48, od48, .func (PySem.W.fnOf "_law_right" "_law_right" (defArgs (top 35)) (defBody (top 35)) (defScope (top 35)) .none kV48 dc48 pm48 an48 cd48 ct48), sl48⟩)
    (e48 : PySem.W.codeIn K cd48 "_law_right" = true) (k48 : PySem.W.keepIn K (.ref f48) = true)
    (a49 : PySem.W.nsIn K mainGlobals "_law_deed" = some (some (.ref f49)))
    (l49 : K.lookup f49 = some ⟨oc49, od49, .func (PySem.W.fnOf "_law_deed" "_law_deed" (defArgs (top 36)) (defBody (top 36)) (defScope (top 36)) .none kV49 dc49 pm49 an49 cd49 ct49), sl49⟩)
    (e49 : PySem.W.codeIn K cd49 "_law_deed" = true) (k49 : PySem.W.keepIn K (.ref f49) = true)
    (a50 : PySem.W.nsIn K mainGlobals "law" = some (some (.ref f50)))
    (l50 : K.lookup f50 = some ⟨oc50, od50, .func (PySem.W.fnOf "law" "law" (defArgs (top 37)) (defBody (top 37)) (defScope (top 37)) .none kV50 dc50 pm50 an50 cd50 ct50), sl50⟩)
    (e50 : PySem.W.codeIn K cd50 "law" = true) (k50 : PySem.W.keepIn K (.ref f50) = true)
    (z0 : PySem.W.nsIn K mainGlobals "len" = some none) (z1 : PySem.W.nsIn K mainGlobals "abs" = some none) (z2 : PySem.W.nsIn K mainGlobals "isinstance" = some none) (z3 : PySem.W.nsIn K mainGlobals "int" = some none) (z4 : PySem.W.nsIn K mainGlobals "bool" = some none) (z5 : PySem.W.nsIn K mainGlobals "str" = some none) (z6 : PySem.W.nsIn K mainGlobals "list" = some none) (z7 : PySem.W.nsIn K mainGlobals "range" = some none) (z8 : PySem.W.nsIn K mainGlobals "min" = some none) (z9 : PySem.W.nsIn K mainGlobals "sorted" = some none) (z10 : PySem.W.nsIn K mainGlobals "sum" = some none) (z11 : PySem.W.nsIn K mainGlobals "enumerate" = some none) :
    ∃ (fd : FuncData) (tabs : List (Addr × Addr)), (∀ q ∈ tabs, q.2 ∈ ts ∧ PySem.W.codeHdIn K q.1 q.2 = true ∧ K.lookup q.2 = none) ∧ (∀ (s : Shared) (v : Value), BindsTo s fd ⟨[v], []⟩ [("_law_script", v)]) ∧ ∀ base : Heap, K.In base → base.Ns mainGlobals mg → (∀ q ∈ tabs, base.BuiltinsAt mg q.2) → FnOk l.prog w K mg base CX0 14 fa fd ["_law_script"] (spLawT K tabs) := by
  have e := hfa.symm.trans (PySem.W.mg_of X G a50)
  cases e
  have T : Txt mg := ⟨PySem.W.mg_none_of X G z0, PySem.W.mg_none_of X G z1, PySem.W.mg_none_of X G z2, PySem.W.mg_none_of X G z3, PySem.W.mg_none_of X G z4, PySem.W.mg_none_of X G z5, PySem.W.mg_none_of X G z6, PySem.W.mg_none_of X G z7, PySem.W.mg_none_of X G z8, PySem.W.mg_none_of X G z9, PySem.W.mg_none_of X G z10, PySem.W.mg_none_of X G z11⟩
  let D_Bucket : DfC K mg "Bucket" ["room", "order"] := ⟨C0, PySem.W.mg_of X G aC0, ⟨pg0, hd0, po0, sa0⟩, ⟨na0_0, ⟨na0_1, trivial⟩⟩, mk0, kc0⟩
  let D_Bucket___init__ : DfM K D_Bucket.C "__init__" "Bucket.__init__" (inClass (top 14) 0) ["self", "room"] := ⟨f0, _, fun_mk (st := inClass (top 14) 0) l0 e0 k0, ⟨a0, i0, k0⟩, (fun_mk (st := inClass (top 14) 0) l0 e0 k0).binds fun _ _ _ _ _ _ us hl => match us, hl with | [_, _], _ => rfl⟩
  let D_Bucket_names : DfM K D_Bucket.C "names" "Bucket.names" (inClass (top 14) 4) ["self"] := ⟨f1, _, fun_mk (st := inClass (top 14) 4) l1 e1 k1, ⟨a1, i1, k1⟩, (fun_mk (st := inClass (top 14) 4) l1 e1 k1).binds fun _ _ _ _ _ _ us hl => match us, hl with | [_], _ => rfl⟩
  let D_Bucket_hears_when_full : DfM K D_Bucket.C "hears_when_full" "Bucket.hears_when_full" (inClass (top 14) 2) ["self", "name", "answers"] := ⟨f2, _, fun_mk (st := inClass (top 14) 2) l2 e2 k2, ⟨a2, i2, k2⟩, (fun_mk (st := inClass (top 14) 2) l2 e2 k2).binds fun _ _ _ _ _ _ us hl => match us, hl with | [_, _, _], _ => rfl⟩
  let D_Bucket_hears : DfM K D_Bucket.C "hears" "Bucket.hears" (inClass (top 14) 1) ["self", "name", "answers"] := ⟨f3, _, fun_mk (st := inClass (top 14) 1) l3 e3 k3, ⟨a3, i3, k3⟩, (fun_mk (st := inClass (top 14) 1) l3 e3 k3).binds fun _ _ _ _ _ _ us hl => match us, hl with | [_, _, _], _ => rfl⟩
  let D_Table : DfC K mg "Table" ["own", "wide", "room", "buckets"] := ⟨C1, PySem.W.mg_of X G aC1, ⟨pg1, hd1, po1, sa1⟩, ⟨na1_0, ⟨na1_1, ⟨na1_2, ⟨na1_3, trivial⟩⟩⟩⟩, mk1, kc1⟩
  let D_Table___init__ : DfM K D_Table.C "__init__" "Table.__init__" (inClass (top 16) 0) ["self", "own", "wide", "room"] := ⟨f4, _, fun_mk (st := inClass (top 16) 0) l4 e4 k4, ⟨a4, i4, k4⟩, (fun_mk (st := inClass (top 16) 0) l4 e4 k4).binds fun _ _ _ _ _ _ us hl => match us, hl with | [_, _, _, _], _ => rfl⟩
  let D_Table_bucket : DfM K D_Table.C "bucket" "Table.bucket" (inClass (top 16) 4) ["self", "k"] := ⟨f5, _, fun_mk (st := inClass (top 16) 4) l5 e5 k5, ⟨a5, i5, k5⟩, (fun_mk (st := inClass (top 16) 4) l5 e5 k5).binds fun _ _ _ _ _ _ us hl => match us, hl with | [_, _], _ => rfl⟩
  let D_Table_keeps : DfM K D_Table.C "keeps" "Table.keeps" (inClass (top 16) 5) ["self"] := ⟨f6, _, fun_mk (st := inClass (top 16) 5) l6 e6 k6, ⟨a6, i6, k6⟩, (fun_mk (st := inClass (top 16) 5) l6 e6 k6).binds fun _ _ _ _ _ _ us hl => match us, hl with | [_], _ => rfl⟩
  let D_Table_bucket_of : DfM K D_Table.C "bucket_of" "Table.bucket_of" (inClass (top 16) 3) ["self", "name"] := ⟨f7, _, fun_mk (st := inClass (top 16) 3) l7 e7 k7, ⟨a7, i7, k7⟩, (fun_mk (st := inClass (top 16) 3) l7 e7 k7).binds fun _ _ _ _ _ _ us hl => match us, hl with | [_, _], _ => rfl⟩
  let D_Table_hears : DfM K D_Table.C "hears" "Table.hears" (inClass (top 16) 1) ["self", "name", "answers"] := ⟨f8, _, fun_mk (st := inClass (top 16) 1) l8 e8 k8, ⟨a8, i8, k8⟩, (fun_mk (st := inClass (top 16) 1) l8 e8 k8).binds fun _ _ _ _ _ _ us hl => match us, hl with | [_, _, _], _ => rfl⟩
  let D_Town : DfC K mg "Town" ["wide", "room", "tables", "silent"] := ⟨C2, PySem.W.mg_of X G aC2, ⟨pg2, hd2, po2, sa2⟩, ⟨na2_0, ⟨na2_1, ⟨na2_2, ⟨na2_3, trivial⟩⟩⟩⟩, mk2, kc2⟩
  let D_Town___init__ : DfM K D_Town.C "__init__" "Town.__init__" (inClass (top 19) 0) ["self", "wide", "room"] := ⟨f9, _, fun_mk (st := inClass (top 19) 0) l9 e9 k9, ⟨a9, i9, k9⟩, (fun_mk (st := inClass (top 19) 0) l9 e9 k9).binds fun _ _ _ _ _ _ us hl => match us, hl with | [_, _, _], _ => rfl⟩
  let D_Town_houses : DfM K D_Town.C "houses" "Town.houses" (inClass (top 19) 1) ["self"] := ⟨f10, _, fun_mk (st := inClass (top 19) 1) l10 e10 k10, ⟨a10, i10, k10⟩, (fun_mk (st := inClass (top 19) 1) l10 e10 k10).binds fun _ _ _ _ _ _ us hl => match us, hl with | [_], _ => rfl⟩
  let D_Town_answering : DfM K D_Town.C "answering" "Town.answering" (inClass (top 19) 2) ["self"] := ⟨f11, _, fun_mk (st := inClass (top 19) 2) l11 e11 k11, ⟨a11, i11, k11⟩, (fun_mk (st := inClass (top 19) 2) l11 e11 k11).binds fun _ _ _ _ _ _ us hl => match us, hl with | [_], _ => rfl⟩
  let D_Town_answers : DfM K D_Town.C "answers" "Town.answers" (inClass (top 19) 3) ["self", "name"] := ⟨f12, _, fun_mk (st := inClass (top 19) 3) l12 e12 k12, ⟨a12, i12, k12⟩, (fun_mk (st := inClass (top 19) 3) l12 e12 k12).binds fun _ _ _ _ _ _ us hl => match us, hl with | [_, _], _ => rfl⟩
  let D_Town_is_house : DfM K D_Town.C "is_house" "Town.is_house" (inClass (top 19) 4) ["self", "thing"] := ⟨f13, _, fun_mk (st := inClass (top 19) 4) l13 e13 k13, ⟨a13, i13, k13⟩, (fun_mk (st := inClass (top 19) 4) l13 e13 k13).binds fun _ _ _ _ _ _ us hl => match us, hl with | [_, _], _ => rfl⟩
  let D_Town_bucket : DfM K D_Town.C "bucket" "Town.bucket" (inClass (top 19) 5) ["self", "house", "k"] := ⟨f14, _, fun_mk (st := inClass (top 19) 5) l14 e14 k14, ⟨a14, i14, k14⟩, (fun_mk (st := inClass (top 19) 5) l14 e14 k14).binds fun _ _ _ _ _ _ us hl => match us, hl with | [_, _, _], _ => rfl⟩
  let D_Town_keeps : DfM K D_Town.C "keeps" "Town.keeps" (inClass (top 19) 6) ["self", "house"] := ⟨f15, _, fun_mk (st := inClass (top 19) 6) l15 e15 k15, ⟨a15, i15, k15⟩, (fun_mk (st := inClass (top 19) 6) l15 e15 k15).binds fun _ _ _ _ _ _ us hl => match us, hl with | [_, _], _ => rfl⟩
  let D_Town_come_to : DfM K D_Town.C "come_to" "Town.come_to" (inClass (top 19) 8) ["self", "house"] := ⟨f16, _, fun_mk (st := inClass (top 19) 8) l16 e16 k16, ⟨a16, i16, k16⟩, (fun_mk (st := inClass (top 19) 8) l16 e16 k16).binds fun _ _ _ _ _ _ us hl => match us, hl with | [_, _], _ => rfl⟩
  let D_Town_come : DfMd K D_Town.C "come" "Town.come" (inClass (top 19) 11) ["self", "name", "door"] [Value.none] := ⟨f17, _, ⟨_, _, _, _, _, _, _, _, _, _, rfl, l17, e17⟩, ⟨a17, i17, k17⟩,
    fun s us hK hl => by
      obtain ⟨u0, u1, u2, rfl⟩ := len_f3 hl
      exact BindsTo.of_defaults rfl (hK _ _ ld17) rfl rfl rfl,
    fun s us hK hl => by
      obtain ⟨u0, u1, rfl⟩ := len_us2 hl
      exact BindsTo.of_defaults rfl (hK _ _ ld17) rfl rfl rfl⟩
  let D_Town_go : DfM K D_Town.C "go" "Town.go" (inClass (top 19) 12) ["self", "house"] := ⟨f18, _, fun_mk (st := inClass (top 19) 12) l18 e18 k18, ⟨a18, i18, k18⟩, (fun_mk (st := inClass (top 19) 12) l18 e18 k18).binds fun _ _ _ _ _ _ us hl => match us, hl with | [_, _], _ => rfl⟩
  let D_Town_hush : DfM K D_Town.C "hush" "Town.hush" (inClass (top 19) 13) ["self", "house"] := ⟨f19, _, fun_mk (st := inClass (top 19) 13) l19 e19 k19, ⟨a19, i19, k19⟩, (fun_mk (st := inClass (top 19) 13) l19 e19 k19).binds fun _ _ _ _ _ _ us hl => match us, hl with | [_, _], _ => rfl⟩
  let D_Town_wake : DfM K D_Town.C "wake" "Town.wake" (inClass (top 19) 14) ["self", "house", "door"] := ⟨f20, _, fun_mk (st := inClass (top 19) 14) l20 e20 k20, ⟨a20, i20, k20⟩, (fun_mk (st := inClass (top 19) 14) l20 e20 k20).binds fun _ _ _ _ _ _ us hl => match us, hl with | [_, _, _], _ => rfl⟩
  let D_Town_check_name : DfM K D_Town.C "check_name" "Town.check_name" (inClass (top 19) 15) ["self", "thing"] := ⟨f21, _, fun_mk (st := inClass (top 19) 15) l21 e21 k21, ⟨a21, i21, k21⟩, (fun_mk (st := inClass (top 19) 15) l21 e21 k21).binds fun _ _ _ _ _ _ us hl => match us, hl with | [_, _], _ => rfl⟩
  let D_Town_check_house : DfM K D_Town.C "check_house" "Town.check_house" (inClass (top 19) 16) ["self", "thing"] := ⟨f22, _, fun_mk (st := inClass (top 19) 16) l22 e22 k22, ⟨a22, i22, k22⟩, (fun_mk (st := inClass (top 19) 16) l22 e22 k22).binds fun _ _ _ _ _ _ us hl => match us, hl with | [_, _], _ => rfl⟩
  let D_Town_check_answering : DfM K D_Town.C "check_answering" "Town.check_answering" (inClass (top 19) 17) ["self", "thing"] := ⟨f23, _, fun_mk (st := inClass (top 19) 17) l23 e23 k23, ⟨a23, i23, k23⟩, (fun_mk (st := inClass (top 19) 17) l23 e23 k23).binds fun _ _ _ _ _ _ us hl => match us, hl with | [_, _], _ => rfl⟩
  let D_Town_settles : DfM K D_Town.C "settles" "Town.settles" (inClass (top 19) 19) ["self", "house", "visited"] := ⟨f24, _, fun_mk (st := inClass (top 19) 19) l24 e24 k24, ⟨a24, i24, k24⟩, (fun_mk (st := inClass (top 19) 19) l24 e24 k24).binds fun _ _ _ _ _ _ us hl => match us, hl with | [_, _, _], _ => rfl⟩
  let D_Town_leaves : DfM K D_Town.C "leaves" "Town.leaves" (inClass (top 19) 20) ["self", "house"] := ⟨f25, _, fun_mk (st := inClass (top 19) 20) l25 e25 k25, ⟨a25, i25, k25⟩, (fun_mk (st := inClass (top 19) 20) l25 e25 k25).binds fun _ _ _ _ _ _ us hl => match us, hl with | [_, _], _ => rfl⟩
  let D_Town_visits : DfM K D_Town.C "visits" "Town.visits" (inClass (top 19) 23) ["self", "house", "door"] := ⟨f26, _, fun_mk (st := inClass (top 19) 23) l26 e26 k26, ⟨a26, i26, k26⟩, (fun_mk (st := inClass (top 19) 23) l26 e26 k26).binds fun _ _ _ _ _ _ us hl => match us, hl with | [_, _, _], _ => rfl⟩
  let D_Town_meet : DfM K D_Town.C "meet" "Town.meet" (inClass (top 19) 24) ["self", "one", "other"] := ⟨f27, _, fun_mk (st := inClass (top 19) 24) l27 e27 k27, ⟨a27, i27, k27⟩, (fun_mk (st := inClass (top 19) 24) l27 e27 k27).binds fun _ _ _ _ _ _ us hl => match us, hl with | [_, _, _], _ => rfl⟩
  let D_Town_hears_of : DfMF K D_Town.C "hears_of" "Town.hears_of" (inClass (top 19) 25) ["self", "house", "name"] := ⟨f28, c28, P28, _, ⟨_, _, _, _, _, _, _, _, rfl, l28⟩, e28, h28, n28, ⟨a28, i28, k28⟩, (fun_mk (st := inClass (top 19) 25) l28 e28 k28).binds fun _ _ _ _ _ _ us hl => match us, hl with | [_, _, _], _ => rfl⟩
  let D_NoSize : DfE K mg "NoSize" := ⟨E0, PySem.W.mg_of X G aE0, xE0⟩
  let D_NoName : DfE K mg "NoName" := ⟨E1, PySem.W.mg_of X G aE1, xE1⟩
  let D_NoHouse : DfE K mg "NoHouse" := ⟨E2, PySem.W.mg_of X G aE2, xE2⟩
  let D_Silent : DfE K mg "Silent" := ⟨E3, PySem.W.mg_of X G aE3, xE3⟩
  let D_Taken : DfE K mg "Taken" := ⟨E4, PySem.W.mg_of X G aE4, xE4⟩
  let D_is_whole : Df K mg "is_whole" (top 9) ["thing"] := ⟨_, _, fun_mk (st := top 9) l29 e29 k29, PySem.W.mg_of X G a29, (fun_mk (st := top 9) l29 e29 k29).binds fun _ _ _ _ _ _ us hl => match us, hl with | [_], _ => rfl⟩
  let D_is_name : Df K mg "is_name" (top 10) ["thing", "wide"] := ⟨_, _, fun_mk (st := top 10) l30 e30 k30, PySem.W.mg_of X G a30, (fun_mk (st := top 10) l30 e30 k30).binds fun _ _ _ _ _ _ us hl => match us, hl with | [_, _], _ => rfl⟩
  let D_far : Df K mg "far" (top 11) ["one", "other"] := ⟨_, _, fun_mk (st := top 11) l31 e31 k31, PySem.W.mg_of X G a31, (fun_mk (st := top 11) l31 e31 k31).binds fun _ _ _ _ _ _ us hl => match us, hl with | [_, _], _ => rfl⟩
  let D_step : Df K mg "step" (top 12) ["one", "other"] := ⟨_, _, fun_mk (st := top 12) l32 e32 k32, PySem.W.mg_of X G a32, (fun_mk (st := top 12) l32 e32 k32).binds fun _ _ _ _ _ _ us hl => match us, hl with | [_, _], _ => rfl⟩
  let D_is_size : Df K mg "is_size" (top 18) ["thing", "most"] := ⟨_, _, fun_mk (st := top 18) l33 e33 k33, PySem.W.mg_of X G a33, (fun_mk (st := top 18) l33 e33 k33).binds fun _ _ _ _ _ _ us hl => match us, hl with | [_, _], _ => rfl⟩
  let D__law_mixed : Df K mg "_law_mixed" (top 21) ["_law_cell", "_law_k"] := ⟨_, _, fun_mk (st := top 21) l34 e34 k34, PySem.W.mg_of X G a34, (fun_mk (st := top 21) l34 e34 k34).binds fun _ _ _ _ _ _ us hl => match us, hl with | [_, _], _ => rfl⟩
  let D__law_wide : Df K mg "_law_wide" (top 22) ["_law_cell"] := ⟨_, _, fun_mk (st := top 22) l35 e35 k35, PySem.W.mg_of X G a35, (fun_mk (st := top 22) l35 e35 k35).binds fun _ _ _ _ _ _ us hl => match us, hl with | [_], _ => rfl⟩
  let D__law_near : Df K mg "_law_near" (top 23) ["_law_signs", "_law_wide_here", "_law_first"] := ⟨_, _, fun_mk (st := top 23) l36 e36 k36, PySem.W.mg_of X G a36, (fun_mk (st := top 23) l36 e36 k36).binds fun _ _ _ _ _ _ us hl => match us, hl with | [_, _, _], _ => rfl⟩
  let D__law_awake : Df K mg "_law_awake" (top 24) ["_law_model", "_law_name_here"] := ⟨_, _, fun_mk (st := top 24) l37 e37 k37, PySem.W.mg_of X G a37, (fun_mk (st := top 24) l37 e37 k37).binds fun _ _ _ _ _ _ us hl => match us, hl with | [_, _], _ => rfl⟩
  let D__law_hears : Df K mg "_law_hears" (top 25) ["_law_model", "_law_house", "_law_name_here"] := ⟨_, _, fun_mk (st := top 25) l38 e38 k38, PySem.W.mg_of X G a38, (fun_mk (st := top 25) l38 e38 k38).binds fun _ _ _ _ _ _ us hl => match us, hl with | [_, _, _], _ => rfl⟩
  let D__law_keeps : Df K mg "_law_keeps" (top 26) ["_law_model", "_law_house"] := ⟨_, _, fun_mk (st := top 26) l39 e39 k39, PySem.W.mg_of X G a39, (fun_mk (st := top 26) l39 e39 k39).binds fun _ _ _ _ _ _ us hl => match us, hl with | [_, _], _ => rfl⟩
  let D__law_come_to : Df K mg "_law_come_to" (top 27) ["_law_model", "_law_house"] := ⟨_, _, fun_mk (st := top 27) l40 e40 k40, PySem.W.mg_of X G a40, (fun_mk (st := top 27) l40 e40 k40).binds fun _ _ _ _ _ _ us hl => match us, hl with | [_, _], _ => rfl⟩
  let D__law_visit : Df K mg "_law_visit" (top 28) ["_law_model", "_law_house", "_law_door"] := ⟨_, _, fun_mk (st := top 28) l41 e41 k41, PySem.W.mg_of X G a41, (fun_mk (st := top 28) l41 e41 k41).binds fun _ _ _ _ _ _ us hl => match us, hl with | [_, _, _], _ => rfl⟩
  let D__law_come : Df K mg "_law_come" (top 29) ["_law_model", "_law_name_here", "_law_door"] := ⟨_, _, fun_mk (st := top 29) l42 e42 k42, PySem.W.mg_of X G a42, (fun_mk (st := top 29) l42 e42 k42).binds fun _ _ _ _ _ _ us hl => match us, hl with | [_, _, _], _ => rfl⟩
  let D__law_alike : Df K mg "_law_alike" (top 30) ["_law_town", "_law_model"] := ⟨_, _, fun_mk (st := top 30) l43 e43 k43, PySem.W.mg_of X G a43, (fun_mk (st := top 30) l43 e43 k43).binds fun _ _ _ _ _ _ us hl => match us, hl with | [_, _], _ => rfl⟩
  let D__law_set : Df K mg "_law_set" (top 31) ["_law_script"] := ⟨_, _, fun_mk (st := top 31) l44 e44 k44, PySem.W.mg_of X G a44, (fun_mk (st := top 31) l44 e44 k44).binds fun _ _ _ _ _ _ us hl => match us, hl with | [_], _ => rfl⟩
  let D__law_some : Df K mg "_law_some" (top 32) ["_law_model", "_law_cell"] := ⟨_, _, fun_mk (st := top 32) l45 e45 k45, PySem.W.mg_of X G a45, (fun_mk (st := top 32) l45 e45 k45).binds fun _ _ _ _ _ _ us hl => match us, hl with | [_, _], _ => rfl⟩
  let D__law_name : Df K mg "_law_name" (top 33) ["_law_model", "_law_wide_here", "_law_cell"] := ⟨_, _, fun_mk (st := top 33) l46 e46 k46, PySem.W.mg_of X G a46, (fun_mk (st := top 33) l46 e46 k46).binds fun _ _ _ _ _ _ us hl => match us, hl with | [_, _, _], _ => rfl⟩
  let D__law_reached : Df K mg "_law_reached" (top 34) ["_law_model", "_law_house"] := ⟨_, _, fun_mk (st := top 34) l47 e47 k47, PySem.W.mg_of X G a47, (fun_mk (st := top 34) l47 e47 k47).binds fun _ _ _ _ _ _ us hl => match us, hl with | [_, _], _ => rfl⟩
  let D__law_right : Df K mg "_law_right" (top 35) ["_law_town", "_law_model"] := ⟨_, _, fun_mk (st := top 35) l48 e48 k48, PySem.W.mg_of X G a48, (fun_mk (st := top 35) l48 e48 k48).binds fun _ _ _ _ _ _ us hl => match us, hl with | [_, _], _ => rfl⟩
  let D__law_deed : Df K mg "_law_deed" (top 36) ["_law_town", "_law_model", "_law_wide_here", "_law_cell"] := ⟨_, _, fun_mk (st := top 36) l49 e49 k49, PySem.W.mg_of X G a49, (fun_mk (st := top 36) l49 e49 k49).binds fun _ _ _ _ _ _ us hl => match us, hl with | [_, _, _, _], _ => rfl⟩
  let D_law : Df K mg "law" (top 37) ["_law_script"] := ⟨_, _, fun_mk (st := top 37) l50 e50 k50, PySem.W.mg_of X G a50, (fun_mk (st := top 37) l50 e50 k50).binds fun _ _ _ _ _ _ us hl => match us, hl with | [_], _ => rfl⟩
  refine ⟨PySem.W.fnOf "law" "law" (defArgs (top 37)) (defBody (top 37)) (defScope (top 37)) .none kV50 dc50 pm50 an50 cd50 ct50, [(c28, P28)], fun q hq => by
    simp only [List.mem_cons, List.not_mem_nil, or_false] at hq
    subst hq
    exact ⟨m28, h28, n28⟩, fun s v => .of_eq rfl, fun base hK hG hB => ?_⟩
  have ht_Town_hears_of : (D_Town_hears_of.c, D_Town_hears_of.P) ∈ ([(c28, P28)] : List (Addr × Addr)) := .head _
  have hB_Town_hears_of : base.BuiltinsAt mg D_Town_hears_of.P := hB (c28, P28) (by simp)
  exact ok_law T hK D_NoSize D_NoName D_NoHouse D_Silent D_Taken D_is_whole D_is_name D_far D_step D_Bucket D_Bucket___init__ D_Bucket_names D_Bucket_hears_when_full D_Bucket_hears D_Table D_Table___init__ D_Table_bucket D_Table_keeps D_Table_bucket_of D_Table_hears D_is_size D_Town D_Town___init__ D_Town_houses D_Town_answering D_Town_answers D_Town_is_house D_Town_bucket D_Town_keeps D_Town_come_to D_Town_come D_Town_go D_Town_hush D_Town_wake D_Town_check_name D_Town_check_house D_Town_check_answering D_Town_settles D_Town_leaves D_Town_visits D_Town_meet D_Town_hears_of hB_Town_hears_of D__law_mixed D__law_wide D__law_near D__law_awake D__law_hears D__law_keeps D__law_come_to D__law_visit D__law_come D__law_alike D__law_set D__law_some D__law_name D__law_reached D__law_right D__law_deed D_law ht_Town_hears_of
theorem walk {l : PySem.W.OpenLaw} {q : Program} {loose : List Str} {XP : (Str → Option Value) → Heap → Prop} {YP : World → Heap → Prop} {d : DefRec} {K : Params → PySem.W.Frag} {ts : List Addr} (hn : l.most = some 63) (hdf : d.params.defaults = [])
    (hY : ∀ (w : World) (h : Heap), YP w h → (K w.params).In h) (hYT : ∀ (w : World) (h : Heap), YP w h → ∀ P ∈ ts, h.get? P = some (PySem.W.tabObj #[]))
    (F : ∀ (w : World) (mg : Str → Option Value) (fa : Addr) (h : Heap), (K w.params).In h → h.Ns mainGlobals mg → mg d.name = some (.ref fa) →
      ∃ (fd : FuncData) (tabs : List (Addr × Addr)), (∀ q ∈ tabs, q.2 ∈ ts ∧ PySem.W.codeHdIn (K w.params) q.1 q.2 = true ∧ (K w.params).lookup q.2 = none) ∧ (∀ (s : Shared) (u : Value), BindsTo s fd ⟨[u], []⟩ [("_law_script", u)]) ∧
        ∀ base : Heap, (K w.params).In base → base.Ns mainGlobals mg → (∀ q ∈ tabs, base.BuiltinsAt mg q.2) → FnOk l.prog w (K w.params) mg base CX0 14 fa fd ["_law_script"] (spLawT (K w.params) tabs)) :
    PySem.W.WalkO q loose XP YP l.row.toRowW d [] (fun f vs => PySem.call f vs) :=
  L2.walk_ofT (n := 63) (k := 14) (x := "_law_script") (sp := spLawT) hn (by decide) hdf ⟨rfl, by decide, by decide⟩ hY hYT F fun K tabs H a ns hl hS hT => ⟨a, ns, rfl, hS, hl, hT, fun _ => rfl⟩
end NN
def PySem.W.Fast.tw4484694243226023091 : Unit := ()
def PySem.W.Fast.tw10713059102358594377 : Unit := ()
def PySem.W.Fast.tw2900777968480141939 : Unit := ()
def PySem.W.Fast.tw15148754321499412819 : Unit := ()
def PySem.W.Fast.tw13481769855820840491 : Unit := ()
def PySem.W.Fast.tw13367613996491528021 : Unit := ()
def PySem.W.Fast.tw15025251206019893390 : Unit := ()
def PySem.W.Fast.tw6040475553061998095 : Unit := ()
def PySem.W.Fast.tw5940351283011202535 : Unit := ()
def PySem.W.Fast.tw14018531417148446791 : Unit := ()
def PySem.W.Fast.tw13612522647624141126 : Unit := ()
def PySem.W.Fast.tw134057532991068074 : Unit := ()
open PySem PySem.W PyProof.Rows
set_option maxRecDepth 100000 in
set_option maxHeartbeats 0 in
theorem PySem.Challenge.cw_nearnames_k35_come_to_holds : PySem.Challenge.rw_nearnames_k35_come_to.Holds := by
  w_on; o_law; k_head; (case hw => w_witness2)
  k_fill
  refine NN.walk (l := PySem.Challenge.rw_nearnames_k35_come_to) rfl rfl (fun w h Y => PySem.W.km_in_of Y) (fun w h Y => PySem.W.km_tabs_of Y) ?F
  case F =>
    intro w mg fa h KX G hmg
    refine' NN.all_mk KX G hmg ?aC0 ?pg0 ?hd0 ?po0 ?sa0 ?mk0 ?kc0 ?na0_0 ?na0_1 ?a0 ?i0 ?l0 ?e0 ?k0 ?a1 ?i1 ?l1 ?e1 ?k1 ?a2 ?i2 ?l2 ?e2 ?k2 ?a3 ?i3 ?l3 ?e3 ?k3 ?aC1 ?pg1 ?hd1 ?po1 ?sa1 ?mk1 ?kc1 ?na1_0 ?na1_1 ?na1_2 ?na1_3 ?a4 ?i4 ?l4 ?e4 ?k4 ?a5 ?i5 ?l5 ?e5 ?k5 ?a6 ?i6 ?l6 ?e6 ?k6 ?a7 ?i7 ?l7 ?e7 ?k7 ?a8 ?i8 ?l8 ?e8 ?k8 ?aC2 ?pg2 ?hd2 ?po2 ?sa2 ?mk2 ?kc2 ?na2_0 ?na2_1 ?na2_2 ?na2_3 ?a9 ?i9 ?l9 ?e9 ?k9 ?a10 ?i10 ?l10 ?e10 ?k10 ?a11 ?i11 ?l11 ?e11 ?k11 ?a12 ?i12 ?l12 ?e12 ?k12 ?a13 ?i13 ?l13 ?e13 ?k13 ?a14 ?i14 ?l14 ?e14 ?k14 ?a15 ?i15 ?l15 ?e15 ?k15 ?a16 ?i16 ?l16 ?e16 ?k16 ?a17 ?i17 ?l17 ?ld17 ?e17 ?k17 ?a18 ?i18 ?l18 ?e18 ?k18 ?a19 ?i19 ?l19 ?e19 ?k19 ?a20 ?i20 ?l20 ?e20 ?k20 ?a21 ?i21 ?l21 ?e21 ?k21 ?a22 ?i22 ?l22 ?e22 ?k22 ?a23 ?i23 ?l23 ?e23 ?k23 ?a24 ?i24 ?l24 ?e24 ?k24 ?a25 ?i25 ?l25 ?e25 ?k25 ?a26 ?i26 ?l26 ?e26 ?k26 ?a27 ?i27 ?l27 ?e27 ?k27 ?a28 ?i28 ?l28 ?e28 ?k28 ?t28 ?r28 ?h28 ?n28 ?m28 ?aE0 ?xE0 ?aE1 ?xE1 ?aE2 ?xE2 ?aE3 ?xE3 ?aE4 ?xE4 ?a29 ?l29 ?e29 ?k29 ?a30 ?l30 ?e30 ?k30 ?a31 ?l31 ?e31 ?k31 ?a32 ?l32 ?e32 ?k32 ?a33 ?l33 ?e33 ?k33 ?a34 ?l34 ?e34 ?k34 ?a35 ?l35 ?e35 ?k35 ?a36 ?l36 ?e36 ?k36 ?a37 ?l37 ?e37 ?k37 ?a38 ?l38 ?e38 ?k38 ?a39 ?l39 ?e39 ?k39 ?a40 ?l40 ?e40 ?k40 ?a41 ?l41 ?e41 ?k41 ?a42 ?l42 ?e42 ?k42 ?a43 ?l43 ?e43 ?k43 ?a44 ?l44 ?e44 ?k44 ?a45 ?l45 ?e45 ?k45 ?a46 ?l46 ?e46 ?k46 ?a47 ?l47 ?e47 ?k47 ?a48 ?l48 ?e48 ?k48 ?a49 ?l49 ?e49 ?k49 ?a50 ?l50 ?e50 ?k50 ?z0 ?z1 ?z2 ?z3 ?z4 ?z5 ?z6 ?z7 ?z8 ?z9 ?z10 ?z11
    (case aC0 => k_is)
    (case pg0 => k_is)
    (case hd0 => k_is)
    (case po0 => k_is)
    (case sa0 => k_is)
    (case mk0 => k_is)
    (case kc0 => k_is)
    (case na0_0 => k_is)
    (case na0_1 => k_is)
    (case a0 => k_is)
    (case i0 => k_is)
    (case l0 => k_is)
    (case e0 => k_is)
    (case k0 => k_is)
    (case a1 => k_is)
    (case i1 => k_is)
    (case l1 => k_is)
    (case e1 => k_is)
    (case k1 => k_is)
    (case a2 => k_is)
    (case i2 => k_is)
    (case l2 => k_is)
    (case e2 => k_is)
    (case k2 => k_is)
    (case a3 => k_is)
    (case i3 => k_is)
    (case l3 => k_is)
    (case e3 => k_is)
    (case k3 => k_is)
    (case aC1 => k_is)
    (case pg1 => k_is)
    (case hd1 => k_is)
    (case po1 => k_is)
    (case sa1 => k_is)
    (case mk1 => k_is)
    (case kc1 => k_is)
    (case na1_0 => k_is)
    (case na1_1 => k_is)
    (case na1_2 => k_is)
    (case na1_3 => k_is)
    (case a4 => k_is)
    (case i4 => k_is)
    (case l4 => k_is)
    (case e4 => k_is)
    (case k4 => k_is)
    (case a5 => k_is)
    (case i5 => k_is)
    (case l5 => k_is)
    (case e5 => k_is)
    (case k5 => k_is)
    (case a6 => k_is)
    (case i6 => k_is)
    (case l6 => k_is)
    (case e6 => k_is)
    (case k6 => k_is)
    (case a7 => k_is)
    (case i7 => k_is)
    (case l7 => k_is)
    (case e7 => k_is)
    (case k7 => k_is)
    (case a8 => k_is)
    (case i8 => k_is)
    (case l8 => k_is)
    (case e8 => k_is)
    (case k8 => k_is)
    (case aC2 => k_is)
    (case pg2 => k_is)
    (case hd2 => k_is)
    (case po2 => k_is)
    (case sa2 => k_is)
    (case mk2 => k_is)
    (case kc2 => k_is)
    (case na2_0 => k_is)
    (case na2_1 => k_is)
    (case na2_2 => k_is)
    (case na2_3 => k_is)
    (case a9 => k_is)
    (case i9 => k_is)
    (case l9 => k_is)
    (case e9 => k_is)
    (case k9 => k_is)
    (case a10 => k_is)
    (case i10 => k_is)
    (case l10 => k_is)
    (case e10 => k_is)
    (case k10 => k_is)
    (case a11 => k_is)
    (case i11 => k_is)
    (case l11 => k_is)
    (case e11 => k_is)
    (case k11 => k_is)
    (case a12 => k_is)
    (case i12 => k_is)
    (case l12 => k_is)
    (case e12 => k_is)
    (case k12 => k_is)
    (case a13 => k_is)
    (case i13 => k_is)
    (case l13 => k_is)
    (case e13 => k_is)
    (case k13 => k_is)
    (case a14 => k_is)
    (case i14 => k_is)
    (case l14 => k_is)
    (case e14 => k_is)
    (case k14 => k_is)
    (case a15 => k_is)
    (case i15 => k_is)
    (case l15 => k_is)
    (case e15 => k_is)
    (case k15 => k_is)
    (case a16 => k_is)
    (case i16 => k_is)
    (case l16 => k_is)
    (case e16 => k_is)
    (case k16 => k_is)
    (case a17 => k_is)
    (case i17 => k_is)
    (case l17 => k_is)
    (case ld17 => k_is)
    (case e17 => k_is)
    (case k17 => k_is)
    (case a18 => k_is)
    (case i18 => k_is)
    (case l18 => k_is)
    (case e18 => k_is)
    (case k18 => k_is)
    (case a19 => k_is)
    (case i19 => k_is)
    (case l19 => k_is)
    (case e19 => k_is)
    (case k19 => k_is)
    (case a20 => k_is)
    (case i20 => k_is)
    (case l20 => k_is)
    (case e20 => k_is)
    (case k20 => k_is)
    (case a21 => k_is)
    (case i21 => k_is)
    (case l21 => k_is)
    (case e21 => k_is)
    (case k21 => k_is)
    (case a22 => k_is)
    (case i22 => k_is)
    (case l22 => k_is)
    (case e22 => k_is)
    (case k22 => k_is)
    (case a23 => k_is)
    (case i23 => k_is)
    (case l23 => k_is)
    (case e23 => k_is)
    (case k23 => k_is)
    (case a24 => k_is)
    (case i24 => k_is)
    (case l24 => k_is)
    (case e24 => k_is)
    (case k24 => k_is)
    (case a25 => k_is)
    (case i25 => k_is)
    (case l25 => k_is)
    (case e25 => k_is)
    (case k25 => k_is)
    (case a26 => k_is)
    (case i26 => k_is)
    (case l26 => k_is)
    (case e26 => k_is)
    (case k26 => k_is)
    (case a27 => k_is)
    (case i27 => k_is)
    (case l27 => k_is)
    (case e27 => k_is)
    (case k27 => k_is)
    (case a28 => k_is)
    (case i28 => k_is)
    (case l28 => k_is)
    (case e28 => k_is)
    (case k28 => k_is)
    (case t28 => k_is)
    (case r28 => exact rfl)
    (case h28 => kernel_rfl)
    (case n28 => kernel_rfl)
    (case m28 => decide)
    (case aE0 => k_is)
    (case xE0 => k_exc)
    (case aE1 => k_is)
    (case xE1 => k_exc)
    (case aE2 => k_is)
    (case xE2 => k_exc)
    (case aE3 => k_is)
    (case xE3 => k_exc)
    (case aE4 => k_is)
    (case xE4 => k_exc)
    (case a29 => k_is)
    (case l29 => k_is)
    (case e29 => k_is)
    (case k29 => k_is)
    (case a30 => k_is)
    (case l30 => k_is)
    (case e30 => k_is)
    (case k30 => k_is)
    (case a31 => k_is)
    (case l31 => k_is)
    (case e31 => k_is)
    (case k31 => k_is)
    (case a32 => k_is)
    (case l32 => k_is)
    (case e32 => k_is)
    (case k32 => k_is)
    (case a33 => k_is)
    (case l33 => k_is)
    (case e33 => k_is)
    (case k33 => k_is)
    (case a34 => k_is)
    (case l34 => k_is)
    (case e34 => k_is)
    (case k34 => k_is)
    (case a35 => k_is)
    (case l35 => k_is)
    (case e35 => k_is)
    (case k35 => k_is)
    (case a36 => k_is)
    (case l36 => k_is)
    (case e36 => k_is)
    (case k36 => k_is)
    (case a37 => k_is)
    (case l37 => k_is)
    (case e37 => k_is)
    (case k37 => k_is)
    (case a38 => k_is)
    (case l38 => k_is)
    (case e38 => k_is)
    (case k38 => k_is)
    (case a39 => k_is)
    (case l39 => k_is)
    (case e39 => k_is)
    (case k39 => k_is)
    (case a40 => k_is)
    (case l40 => k_is)
    (case e40 => k_is)
    (case k40 => k_is)
    (case a41 => k_is)
    (case l41 => k_is)
    (case e41 => k_is)
    (case k41 => k_is)
    (case a42 => k_is)
    (case l42 => k_is)
    (case e42 => k_is)
    (case k42 => k_is)
    (case a43 => k_is)
    (case l43 => k_is)
    (case e43 => k_is)
    (case k43 => k_is)
    (case a44 => k_is)
    (case l44 => k_is)
    (case e44 => k_is)
    (case k44 => k_is)
    (case a45 => k_is)
    (case l45 => k_is)
    (case e45 => k_is)
    (case k45 => k_is)
    (case a46 => k_is)
    (case l46 => k_is)
    (case e46 => k_is)
    (case k46 => k_is)
    (case a47 => k_is)
    (case l47 => k_is)
    (case e47 => k_is)
    (case k47 => k_is)
    (case a48 => k_is)
    (case l48 => k_is)
    (case e48 => k_is)
    (case k48 => k_is)
    (case a49 => k_is)
    (case l49 => k_is)
    (case e49 => k_is)
    (case k49 => k_is)
    (case a50 => k_is)
    (case l50 => k_is)
    (case e50 => k_is)
    (case k50 => k_is)
    (case z0 => k_is)
    (case z1 => k_is)
    (case z2 => k_is)
    (case z3 => k_is)
    (case z4 => k_is)
    (case z5 => k_is)
    (case z6 => k_is)
    (case z7 => k_is)
    (case z8 => k_is)
    (case z9 => k_is)
    (case z10 => k_is)
    (case z11 => k_is)
#print axioms PySem.Challenge.cw_nearnames_k35_come_to_holds
